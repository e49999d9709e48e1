/-
  The walks of FrameMembers and FrameSets: they return true at every input.
-/
import Derived.Test.YtldegdhpblkhhaaG
import Derived.Test.YtldegdhpblkhhaaR
namespace Go.Proofs.Ytldegdhpblkhhaa
open Go Go.RowKit
def SaysB (f : Nat) (m : Nat) (q : Int) (b : Bool) : Prop := ∀ w : World, Calls Try.prog f #[.int .u16 (m : Int), .int .i64 q] w fun e w' => e = .returned (.bool b) ∧ w = w'
def SaysU (f : Nat) (m : Nat) (q : Int) (x : Nat) : Prop := ∀ w : World, Calls Try.prog f #[.int .u16 (m : Int), .int .i64 q] w fun e w' => e = .returned (.int .u16 (x : Int)) ∧ w = w'
set_option maxRecDepth 100000 in
theorem members_says (m x y : Nat) (q : Int) (b : Bool) (w : World) (hm : m < 65536) (h1 : SaysB 17 m q b) (h2 : SaysB 18 m q b) (h3 : SaysU 19 m q x) (h4 : SaysU 20 m q x) (h5 : SaysU 21 m q y) (h6 : SaysU 22 m q y) :
    Calls Try.prog 4 #[.int .u16 (m : Int), .int .i64 q] w fun e w' => e = .returned (.bool true) ∧ Below w.heap.size w w' := by
  have H1 := hid h1
  have H2 := hid h2
  have H3 := hid h3
  have H4 := hid h4
  have H5 := hid h5
  have H6 := hid h6
  have H7 := hid (fun w => count_any m w hm)
  have H8 := hid (fun w => refcount_any m w hm)
  clear h1 h2 h3 h4 h5 h6
  generalize cn m 16 = c at *
  go_enter Try.func4, Try.ntmps4
  go_wp2_with (first
    | (go_at_call 24; refine (H8.out _).mono ?_; rintro e w' ⟨rfl, rfl⟩)
    | (go_at_call 23; refine (H7.out _).mono ?_; rintro e w2 ⟨rfl, b2⟩; have B2 : Hid (Below w.heap.size w w2) := hid (b1.trans (b2.mono b1.size)))
    | (go_at_call 22; refine (H6.out _).mono ?_; rintro e w' ⟨rfl, rfl⟩)
    | (go_at_call 21; refine (H5.out _).mono ?_; rintro e w' ⟨rfl, rfl⟩)
    | (go_at_call 20; refine (H4.out _).mono ?_; rintro e w' ⟨rfl, rfl⟩)
    | (go_at_call 19; refine (H3.out _).mono ?_; rintro e w' ⟨rfl, rfl⟩)
    | (go_at_call 18; refine (H2.out _).mono ?_; rintro e w' ⟨rfl, rfl⟩)
    | (go_at_call 17; refine (H1.out _).mono ?_; rintro e w' ⟨rfl, rfl⟩)
    | (go_at_call 8; refine (live_any _).mono ?_; rintro e w1 ⟨rfl, b1⟩))
  go_ret
  exact ⟨ret_bool (by simp), B2.out⟩
theorem members_row {w : World} (m : Int) (m1 : 0 ≤ m) (m2 : m ≤ 65535) (q : Int) (_ : -9223372036854775808 ≤ q) (_ : q ≤ 9223372036854775807) :
    Calls Try.prog 4 #[.int .u16 m, .int .i64 q] w fun e w' => e = .returned (.bool true) ∧ Below w.heap.size w w' := by
  obtain ⟨n, rfl⟩ : ∃ n : Nat, m = n := ⟨m.toNat, by omega⟩
  have hn : n < 65536 := by omega
  by_cases h : Out q
  · exact members_says n n n q false w hn (fun w => has_out n q w hn h) (fun w => refhas_out n q w h) (fun w => with_out n q w hn h) (fun w => refwith_out n q w h) (fun w => without_out n q w hn h) (fun w => refwithout_out n q w h)
  · obtain ⟨k, rfl⟩ : ∃ k : Nat, q = k := ⟨q.toNat, by unfold Out at h; omega⟩
    have hk : k ≤ 15 := by unfold Out at h; omega
    exact members_says n _ _ k _ w hn (fun w => has_in n k w hn hk) (fun w => refhas_in n k w hn hk) (fun w => with_in n k w hn hk) (fun w => refwith_in n k w hn hk) (fun w => without_in n k w hn hk) (fun w => refwithout_in n k w hn hk)

theorem wrap16 (q : Int) : ∃ (a : Int) (k : Nat), q.tmod 16 = a ∧ -16 < a ∧ a < 16 ∧ (a + 16).tmod 16 = (k : Int) ∧ k ≤ 15 := by
  have h1 : -16 < q.tmod 16 := Int.lt_tmod_of_pos q (by decide)
  have h2 : q.tmod 16 < 16 := Int.tmod_lt_of_pos q (by decide)
  refine ⟨q.tmod 16, ((q.tmod 16 + 16) % 16).toNat, rfl, h1, h2, ?_, by omega⟩
  rw [Int.tmod_eq_emod_of_nonneg (by omega)]; omega
set_option maxRecDepth 100000 in
set_option maxHeartbeats 2000000 in
theorem sets_walk (m : Nat) (q r : Int) (w : World) (hm : m < 65536) (_ : -9223372036854775808 ≤ q) (_ : q ≤ 9223372036854775807) (_ : -9223372036854775808 ≤ r) (_ : r ≤ 9223372036854775807) :
    Calls Try.prog 6 #[.int .u16 (m : Int), .int .i64 q, .int .i64 r] w fun e w' => e = .returned (.bool true) ∧ Below w.heap.size w w' := by
  obtain ⟨a0, a, qa1, qa2, qa3, qa4, ha⟩ := wrap16 q
  obtain ⟨b0, b, qb1, qb2, qb3, qb4, hb⟩ := wrap16 r
  have hx := addb_lt m a hm ha
  have hy := Nat.lt_of_le_of_lt (subb_le m a) hm
  have H1 := hid (fun w => with_in m a w hm ha)
  have H2 := hid (fun w => without_in m a w hm ha)
  have HX := hid (hs_addb m a)
  have HY := hid (hs_subb m a)
  have H3 := hid (fun k w => has_in (addb m a) k w hx)
  have H4 := hid (fun k w => has_in (subb m a) k w hy)
  have H0 := hid (fun k w => has_in m k w hm)
  have H5 := hid (fun w => count_any (addb m a) w hx)
  have H6 := hid (fun w => count_any (subb m a) w hy)
  have HC := hid (cn_addb m a (by omega))
  have hcl := cn_le (subb m a) 16
  have HL1 := hid (fun w => with_in m b w hm hb)
  have HL2 := hid (fun w => with_in (addb m a) b w hx hb)
  have HL3 := hid (fun w => with_in (addb m b) a w (addb_lt m b hm hb) ha)
  have HL4 := hid (fun w => without_in m b w hm hb)
  have HL5 := hid (fun w => without_in (subb m a) b w hy hb)
  have HL6 := hid (fun w => without_in (subb m b) a w (Nat.lt_of_le_of_lt (subb_le m b) hm) ha)
  have HE1 := hid (addb_comm m a b)
  have HE2 := hid (subb_comm m a b)
  generalize addb (addb m a) b = u1 at *
  generalize addb (addb m b) a = u2 at *
  generalize subb (subb m a) b = u3 at *
  generalize subb (subb m b) a = u4 at *
  obtain rfl : u1 = u2 := HE1.out
  obtain rfl : u3 = u4 := HE2.out
  clear HE1 HE2
  generalize cn (addb m a) 16 = c1 at *
  generalize cn (subb m a) 16 = c2 at *
  have hne : ((c1 : Int) != (c2 : Int) + 1) = false := by rw [HC.out]; simp
  have K1 := hid (fun w => H3.out a w ha)
  have K2 := hid (fun w => H4.out a w ha)
  have e1 : hs (addb m a) a = true := by rw [HX.out]; simp
  have e2 : hs (subb m a) a = false := by rw [HY.out]; simp
  rw [e1] at K1
  rw [e2] at K2
  clear e1 e2 HC
  generalize addb m a = x at *
  generalize subb m a = y at *
  generalize addb m b = x2 at *
  generalize subb m b = y2 at *
  go_enter Try.func6, Try.ntmps6
  go_wp2_with (first
    | (go_at_call 23; with_reducible refine (H6.out w2).mono ?_; rintro e w3 ⟨rfl, b3⟩; have B3 : Hid (Below w.heap.size w w3) := hid (B2.out.trans (b3.mono B2.out.size)); clear b3)
    | (go_at_call 23; with_reducible refine (H5.out w1).mono ?_; rintro e w2 ⟨rfl, b2⟩; have B2 : Hid (Below w.heap.size w w2) := hid (b1.trans (b2.mono b1.size)); clear b2)
    | (go_at_call 17; with_reducible refine (K2.out _).mono ?_; rintro e w' ⟨rfl, rfl⟩)
    | (go_at_call 17; with_reducible refine (K1.out _).mono ?_; rintro e w' ⟨rfl, rfl⟩)
    | (go_at_call 21; with_reducible refine (H2.out _).mono ?_; rintro e w' ⟨rfl, rfl⟩)
    | (go_at_call 19; with_reducible refine (H1.out _).mono ?_; rintro e w' ⟨rfl, rfl⟩)
    | (go_at_call 8; refine (live_any _).mono ?_; rintro e w1 ⟨rfl, b1⟩))
  go_loop [45] (fun i => ∃ k : Nat, k ≤ 16 ∧ i = .int .i64 (k : Int)) (fun i => 16 - (intOf i).toNat)
  case atStart => exact ⟨0, Nat.zero_le _, rfl⟩
  case round =>
    obtain ⟨k, hk, rfl⟩ := hrel
    by_cases hlt : k < 16
    · by_cases hka : k = a
      · have hb : ((k : Int) != (a : Int)) = false := by rw [hka]; simp
        go_wp2_with fail
        go_round
        case rel => exact ⟨k + 1, by omega, by go_num⟩
        case measure => simp [intOf]; omega
      · have hb : ((k : Int) != (a : Int)) = true := by rw [bne_iff_ne]; omega
        have K3 := hid (fun w => H3.out k w (by omega))
        have K4 := hid (fun w => H4.out k w (by omega))
        have K0 := hid (fun w => H0.out k w (by omega))
        have e1 : hs x k = hs m k := by rw [HX.out, decide_eq_false (fun e : a = k => hka e.symm)]; simp
        have e2 : hs y k = hs m k := by rw [HY.out, decide_eq_false (fun e : a = k => hka e.symm)]; simp
        rw [e1] at K3
        rw [e2] at K4
        clear e1 e2
        generalize hs m k = v at *
        cases v with
        | true =>
          go_wp2_with (first
            | (go_at_call 17; with_reducible refine (K3.out _).mono ?_; rintro e w' ⟨rfl, rfl⟩)
            | (go_at_call 17; with_reducible refine (K0.out _).mono ?_; rintro e w' ⟨rfl, rfl⟩)
            | (go_at_call 17; with_reducible refine (K4.out _).mono ?_; rintro e w' ⟨rfl, rfl⟩))
          go_round
          case rel => exact ⟨k + 1, by omega, by go_num⟩
          case measure => simp [intOf]; omega
        | false =>
          go_wp2_with (first
            | (go_at_call 17; with_reducible refine (K3.out _).mono ?_; rintro e w' ⟨rfl, rfl⟩)
            | (go_at_call 17; with_reducible refine (K0.out _).mono ?_; rintro e w' ⟨rfl, rfl⟩)
            | (go_at_call 17; with_reducible refine (K4.out _).mono ?_; rintro e w' ⟨rfl, rfl⟩))
          go_round
          case rel => exact ⟨k + 1, by omega, by go_num⟩
          case measure => simp [intOf]; omega
    · go_wp2_with (first
        | (go_at_call 19; with_reducible refine (H1.out _).mono ?_; rintro e w' ⟨rfl, rfl⟩)
        | (go_at_call 19; with_reducible refine (HL1.out _).mono ?_; rintro e w' ⟨rfl, rfl⟩)
        | (go_at_call 19; with_reducible refine (HL2.out _).mono ?_; rintro e w' ⟨rfl, rfl⟩)
        | (go_at_call 19; with_reducible refine (HL3.out _).mono ?_; rintro e w' ⟨rfl, rfl⟩)
        | (go_at_call 21; with_reducible refine (H2.out _).mono ?_; rintro e w' ⟨rfl, rfl⟩)
        | (go_at_call 21; with_reducible refine (HL4.out _).mono ?_; rintro e w' ⟨rfl, rfl⟩)
        | (go_at_call 21; with_reducible refine (HL5.out _).mono ?_; rintro e w' ⟨rfl, rfl⟩)
        | (go_at_call 21; with_reducible refine (HL6.out _).mono ?_; rintro e w' ⟨rfl, rfl⟩))
      go_ret
      exact ⟨ret_bool (by simp), B3.out⟩
theorem sets_row {w : World} (m : Int) (m1 : 0 ≤ m) (m2 : m ≤ 65535) (q : Int) (q1 : -9223372036854775808 ≤ q) (q2 : q ≤ 9223372036854775807) (r : Int) (r1 : -9223372036854775808 ≤ r) (r2 : r ≤ 9223372036854775807) :
    Calls Try.prog 6 #[.int .u16 m, .int .i64 q, .int .i64 r] w fun e w' => e = .returned (.bool true) ∧ Below w.heap.size w w' := by
  obtain ⟨n, rfl⟩ : ∃ n : Nat, m = n := ⟨m.toNat, by omega⟩
  exact sets_walk n q r w (by omega) q1 q2 r1 r2
end Go.Proofs.Ytldegdhpblkhhaa
