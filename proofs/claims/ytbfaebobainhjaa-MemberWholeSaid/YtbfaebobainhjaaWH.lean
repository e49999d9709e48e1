/-
  The walk of MemberWhole: it returns true at every schedule, node, own members and slot.
-/
import Derived.Test.YtbfaebobainhjaaWL
import Derived.Test.YtbfaebobainhjaaWA
import Derived.Test.YtbfaebobainhjaaY
namespace Go.Proofs.Ytbfaebobainhjaa
open Go Go.RowKit
section
variable (n s l0 f0 d me k : Int) (own : Nat) (w : World)
set_option maxHeartbeats 4000000 in
set_option maxRecDepth 100000 in
theorem whole_bad (h : ¬ Ok ⟨n, s, l0, f0, d⟩) : Calls Try.prog 7 #[mv ⟨n, s, l0, f0, d⟩, .int .i64 me, .int .u16 (own : Int), .int .u64 k] w (TrueB w) := by
  have HL := hid live_any
  have HC := hid (fun w => (okE_bad h ▸ check_any ⟨n, s, l0, f0, d⟩ w : Calls Try.prog 25 #[mv ⟨n, s, l0, f0, d⟩] w fun e w' => e = .returned (.int .i64 1) ∧ Below w.heap.size w w'))
  clear h
  go_enter Try.func7, Try.ntmps7
  go_wp2_with (first
    | (go_at_call 25; (with_reducible refine (HC.out w2).mono ?_); rintro e w3 ⟨rfl, b3⟩; have B3 : Hid (Below w.heap.size w w3) := hid (B2.out.trans (b3.mono B2.out.size)))
    | (refine wpList_ldm rfl (.tmp 4) rfl rfl m2 ?_)
    | (go_at_call 10; (with_reducible refine (HL.out w1).mono ?_); rintro e w2 ⟨rfl, b2⟩; have m2 := v1.keep b2; have B2 : Hid (Below w.heap.size w w2) := hid (b1.trans (b2.mono b1.size)))
    | (refine wpList_boxm (x := ⟨n, s, l0, f0, d⟩) rfl (.tmp 0) rfl rfl ?_; intro w1 v1 b1 s1))
  go_ret
  exact ⟨by first | rfl | exact ret_bool (by simp), B3.out⟩
set_option maxHeartbeats 4000000 in
set_option maxRecDepth 100000 in
theorem whole_lo (h : Ok ⟨n, s, l0, f0, d⟩) (h1 : me < 0) : Calls Try.prog 7 #[mv ⟨n, s, l0, f0, d⟩, .int .i64 me, .int .u16 (own : Int), .int .u64 k] w (TrueB w) := by
  have HL := hid live_any
  have HC := hid (fun w => (okE_ok h ▸ check_any ⟨n, s, l0, f0, d⟩ w : Calls Try.prog 25 #[mv ⟨n, s, l0, f0, d⟩] w fun e w' => e = .returned (.int .i64 0) ∧ Below w.heap.size w w'))
  have hN : n ≤ 16 := h.2.1
  clear h
  go_enter Try.func7, Try.ntmps7
  go_wp2_with (first
    | (go_at_call 25; (with_reducible refine (HC.out w2).mono ?_); rintro e w3 ⟨rfl, b3⟩; have c0 : w3.cell? ⟨w.heap.size, 0, none⟩ = some (.int .i64 n) := (m2.keep b3).c0; have B3 : Hid (Below w.heap.size w w3) := hid (B2.out.trans (b3.mono B2.out.size)))
    | (refine wpList_ldm rfl (.tmp 4) rfl rfl m2 ?_)
    | (go_at_call 10; (with_reducible refine (HL.out w1).mono ?_); rintro e w2 ⟨rfl, b2⟩; have m2 := v1.keep b2; have B2 : Hid (Below w.heap.size w w2) := hid (b1.trans (b2.mono b1.size)))
    | (refine wpList_boxm (x := ⟨n, s, l0, f0, d⟩) rfl (.tmp 0) rfl rfl ?_; intro w1 v1 b1 s1))
  go_ret
  exact ⟨by first | rfl | exact ret_bool (by simp), B3.out⟩
set_option maxHeartbeats 4000000 in
set_option maxRecDepth 100000 in
theorem whole_hi (h : Ok ⟨n, s, l0, f0, d⟩) (h1 : 0 ≤ me) (h2 : n ≤ me) : Calls Try.prog 7 #[mv ⟨n, s, l0, f0, d⟩, .int .i64 me, .int .u16 (own : Int), .int .u64 k] w (TrueB w) := by
  have HL := hid live_any
  have HC := hid (fun w => (okE_ok h ▸ check_any ⟨n, s, l0, f0, d⟩ w : Calls Try.prog 25 #[mv ⟨n, s, l0, f0, d⟩] w fun e w' => e = .returned (.int .i64 0) ∧ Below w.heap.size w w'))
  have hN : n ≤ 16 := h.2.1
  clear h
  go_enter Try.func7, Try.ntmps7
  go_wp2_with (first
    | (go_at_call 25; (with_reducible refine (HC.out w2).mono ?_); rintro e w3 ⟨rfl, b3⟩; have c0 : w3.cell? ⟨w.heap.size, 0, none⟩ = some (.int .i64 n) := (m2.keep b3).c0; have B3 : Hid (Below w.heap.size w w3) := hid (B2.out.trans (b3.mono B2.out.size)))
    | (refine wpList_ldm rfl (.tmp 4) rfl rfl m2 ?_)
    | (go_at_call 10; (with_reducible refine (HL.out w1).mono ?_); rintro e w2 ⟨rfl, b2⟩; have m2 := v1.keep b2; have B2 : Hid (Below w.heap.size w w2) := hid (b1.trans (b2.mono b1.size)))
    | (refine wpList_boxm (x := ⟨n, s, l0, f0, d⟩) rfl (.tmp 0) rfl rfl ?_; intro w1 v1 b1 s1))
  go_ret
  exact ⟨by first | rfl | exact ret_bool (by simp), B3.out⟩
set_option maxHeartbeats 4000000 in
set_option maxRecDepth 100000 in
theorem whole_far (h : Ok ⟨n, s, l0, f0, d⟩) (h1 : 0 ≤ me) (h2 : me < n) (h3 : 2147483648 < k) : Calls Try.prog 7 #[mv ⟨n, s, l0, f0, d⟩, .int .i64 me, .int .u16 (own : Int), .int .u64 k] w (TrueB w) := by
  have HL := hid live_any
  have HC := hid (fun w => (okE_ok h ▸ check_any ⟨n, s, l0, f0, d⟩ w : Calls Try.prog 25 #[mv ⟨n, s, l0, f0, d⟩] w fun e w' => e = .returned (.int .i64 0) ∧ Below w.heap.size w w'))
  have hN : n ≤ 16 := h.2.1
  clear h
  go_enter Try.func7, Try.ntmps7
  go_wp2_with (first
    | (go_at_call 25; (with_reducible refine (HC.out w2).mono ?_); rintro e w3 ⟨rfl, b3⟩; have c0 : w3.cell? ⟨w.heap.size, 0, none⟩ = some (.int .i64 n) := (m2.keep b3).c0; have B3 : Hid (Below w.heap.size w w3) := hid (B2.out.trans (b3.mono B2.out.size)))
    | (refine wpList_ldm rfl (.tmp 4) rfl rfl m2 ?_)
    | (go_at_call 10; (with_reducible refine (HL.out w1).mono ?_); rintro e w2 ⟨rfl, b2⟩; have m2 := v1.keep b2; have B2 : Hid (Below w.heap.size w w2) := hid (b1.trans (b2.mono b1.size)))
    | (refine wpList_boxm (x := ⟨n, s, l0, f0, d⟩) rfl (.tmp 0) rfl rfl ?_; intro w1 v1 b1 s1))
  go_ret
  exact ⟨by first | rfl | exact ret_bool (by simp), B3.out⟩
end
/-- The two lists that are made side by side; the slots that are looked at. -/
def WhRel (N : Nat) (w3 : World) (p q i : Value) (wr : World) : Prop :=
  ∃ (j c1 c2 : Nat) (A1 A2 : Option Addr), j ≤ N ∧ p = .slice A1 j c1 ∧ q = .slice A2 j c2 ∧ i = .int .i64 (j : Int) ∧ Hid (Own wr w3.heap.size 3 A1 j c1 (sv (List.replicate j 1))) ∧
    Hid (Own wr w3.heap.size 3 A2 j c2 (sv (List.replicate j 0))) ∧ Hid (Apt A1 A2) ∧ Hid (Below w3.heap.size w3 wr)
def WlRel (N : Nat) (w : World) (i : Value) (wr : World) : Prop := ∃ j : Nat, j ≤ N ∧ i = .int .i64 (j : Int) ∧ Hid (Below w.heap.size w wr)
theorem rep_on (v : Int) (j : Nat) : List.replicate j v ++ [v] = List.replicate (j + 1) v := (List.replicate_succ').symm
set_option maxHeartbeats 8000000 in
set_option maxRecDepth 100000 in
theorem whole_main (N : Nat) (s l0 f0 d me k : Int) (own : Nat) (w : World) (hx : Ok ⟨N, s, l0, f0, d⟩) (m0 : 0 ≤ me) (m1 : me < N) (hk : 0 ≤ k) (hk2 : k ≤ 2147483648) (ho : own < 65536) :
    Calls Try.prog 7 #[mv ⟨N, s, l0, f0, d⟩, .int .i64 me, .int .u16 (own : Int), .int .u64 k] w (TrueB w) := by
  obtain ⟨P, Q, hP, hQ, hP6, hQ6, hA, hB⟩ := whole_plain ⟨N, s, l0, f0, d⟩ N rfl me k own ho hx hk hk2 m0 m1
  have HL := hid live_any
  have HC := hid (fun w => (okE_ok hx ▸ check_any ⟨N, s, l0, f0, d⟩ w : Calls Try.prog 25 #[mv ⟨N, s, l0, f0, d⟩] w fun e w' => e = .returned (.int .i64 0) ∧ Below w.heap.size w w'))
  have hN : (N : Int) ≤ 16 := hx.2.1
  have HRD := hid (fun (A : Option Addr) (c : Nat) (l : List Int) (w : World) (hl : l.length ≤ 100000) (ha : Row w w.heap.size A l.length (sv l)) (hb : ∀ z ∈ l, KeyI z) => round_any ⟨N, s, l0, f0, d⟩ me k own A l.length c l w hk hl ha hb ho)
  have HP := hid hP
  have HQ := hid hQ
  have H6 := hid (And.intro hP6 hQ6)
  have HA := hid hA
  have HB := hid hB
  clear hx ho hP hQ hP6 hQ6 hA hB
  go_enter Try.func7, Try.ntmps7
  go_wp2_with (first
    | (go_at_call 25; (with_reducible refine (HC.out w2).mono ?_); rintro e w3 ⟨rfl, b3⟩; have m3 := m2.keep b3; have c0 : w3.cell? ⟨w.heap.size, 0, none⟩ = some (.int .i64 (N : Int)) := m3.c0; have B3 : Hid (Below w.heap.size w w3) := hid (B2.out.trans (b3.mono B2.out.size)))
    | (refine wpList_ldm rfl (.tmp 4) rfl rfl m2 ?_)
    | (go_at_call 10; (with_reducible refine (HL.out w1).mono ?_); rintro e w2 ⟨rfl, b2⟩; have m2 := v1.keep b2; have B2 : Hid (Below w.heap.size w w2) := hid (b1.trans (b2.mono b1.size)))
    | (refine wpList_boxm (x := ⟨N, s, l0, f0, d⟩) rfl (.tmp 0) rfl rfl ?_; intro w1 v1 b1 s1))
  have M3 := hid m3
  clear m3 c0 b3 m2 b2 B2 v1 b1 s1 HL HC
  go_loopw [10, 11, 47] (WhRel N w3) (fun _ _ i _ => N - (intOf i).toNat)
  case atStart => exact ⟨0, 0, 0, none, none, Nat.zero_le _, rfl, rfl, rfl, hid (Own.nil _ _ _), hid (Own.nil _ _ _), hid (.inl rfl), hid (Below.refl _ _)⟩
  case round =>
    obtain ⟨j, c1, c2, A1, A2, hj, rfl, rfl, rfl, O1, O2, AP, BW⟩ := hrel
    by_cases hlt : j < N
    · go_wp2_with (first
        | (at_builtin; refine wpList_push rfl (.tmp 52) (.tmp 53) rfl w3.heap.size A2 j c2 (List.replicate j 0) rfl O4.out 0 rfl (by omega) B4.out.size ?_; intro A6 c6 w6 o6 b6 k6; have KQ := k6 _ _ _ _ _ O3.out P3.out; have O6 : Hid (Own w6 w3.heap.size 3 A6 (j + 1) c6 (sv (List.replicate j 0 ++ [0]))) := hid o6; have O7 : Hid (Own w6 w3.heap.size 3 A5 (j + 1) c5 (sv (List.replicate j 1 ++ [1]))) := hid KQ.1; have P6 : Hid (Apt A5 A6) := hid KQ.2; clear KQ; have B6 : Hid (Below w3.heap.size w3 w6) := hid (B4.out.trans b6); clear o6 b6 k6)
        | (at_builtin; refine wpList_push rfl (.tmp 49) (.tmp 50) rfl w3.heap.size A1 j c1 (List.replicate j 1) rfl O1.out 1 rfl (by omega) BW.out.size ?_; intro A5 c5 w5 o5 b5 k5; have KP := k5 _ _ _ _ _ O2.out AP.out.symm; have O3 : Hid (Own w5 w3.heap.size 3 A5 (j + 1) c5 (sv (List.replicate j 1 ++ [1]))) := hid o5; have O4 : Hid (Own w5 w3.heap.size 3 A2 j c2 (sv (List.replicate j 0))) := hid KP.1; have P3 : Hid (Apt A5 A2) := hid KP.2.symm; clear KP; have B4 : Hid (Below w3.heap.size w3 w5) := hid (BW.out.trans b5); clear o5 b5 k5))
      refine ⟨⟨j + 1, c5, c6, A5, A6, by omega, rfl, rfl, by go_num, hid ?_, hid ?_, P6, B6⟩, by simp [intOf]; omega⟩
      · rw [← rep_on]; exact O7.out
      · rw [← rep_on]; exact O6.out
    · obtain rfl : j = N := by omega
      have BX : Hid (Below w.heap.size w wr) := hid (B3.out.trans (BW.out.mono B3.out.size))
      have MX := hid (M3.out.below BW.out M3.out.lt)
      have HG : Hid (∀ w', Below wr.heap.size wr w' → Calls Try.prog 19 #[mv ⟨j, s, l0, f0, d⟩, .int .i64 me, .int .u16 (own : Int), .int .u64 k, .slice A1 j c1] w' (RetR (P, ⟨(j : Int), 0⟩, 0) w')) := hid fun w' b => by
        have := HRD.out A1 c1 (List.replicate j 1) w' (by rw [List.length_replicate]; omega) (by rw [List.length_replicate]; exact (O1.out.row.below b).more b.size) (fun z hz => by rw [(List.mem_replicate.1 hz).2]; unfold KeyI; omega)
        rw [HP.out, List.length_replicate] at this; exact this
      have HN : Hid (∀ w', Below wr.heap.size wr w' → Calls Try.prog 19 #[mv ⟨j, s, l0, f0, d⟩, .int .i64 me, .int .u16 (own : Int), .int .u64 k, .slice A2 j c2] w' (RetR (Q, ⟨0, 0⟩, 0) w')) := hid fun w' b => by
        have := HRD.out A2 c2 (List.replicate j 0) w' (by rw [List.length_replicate]; omega) (by rw [List.length_replicate]; exact (O2.out.row.below b).more b.size) (fun z hz => by rw [(List.mem_replicate.1 hz).2]; unfold KeyI; omega)
        rw [HQ.out, List.length_replicate] at this; exact this
      have HE := hid (fun w => clique_any ⟨(j : Int), 0⟩ false (decide_eq_false fun h => absurd h.1 (by simp)) w)
      have HF := hid (fun w => clique_any ⟨0, 0⟩ false rfl w)
      have q1 : ∀ w, (binOp .neq 29 (tv ⟨0, 0⟩) (.agg #[.int .i64 0, .int .i64 0])).run Try.prog w = .ok (.bool false) w := fun w => neTy ⟨0, 0⟩ ⟨0, 0⟩ w
      have q2 : ∀ op a b w, (eqGuard op 29 a b (tv ⟨0, 0⟩) (.agg #[.int .i64 0, .int .i64 0])).run Try.prog w = .ok () w := fun op a b w => guTy op a b ⟨0, 0⟩ ⟨0, 0⟩ w
      clear O1 O2 AP HRD HP HQ M3
      go_wp2_with (first
        | (go_at_call 17; (with_reducible refine (HE.out w9).mono ?_); rintro e w10 ⟨rfl, b10⟩; have u10 := u9.keep b10; have B10 : Hid (Below w.heap.size w w10) := hid (B9.out.trans (b10.mono B9.out.size)))
        | (go_at_call 17; (with_reducible refine (HF.out w10).mono ?_); rintro e w11 ⟨rfl, b11⟩; have m11 := (m9.keep b10).keep b11; have d0 : w11.cell? ⟨w.heap.size, 0, none⟩ = some (.int .i64 (j : Int)) := m11.c0; have B11 : Hid (Below w.heap.size w w11) := hid (B10.out.trans (b11.mono B10.out.size)))
        | (refine wpList_ldt rfl (.tmp 16) rfl rfl u10 ?_)
        | (refine wpList_ldt rfl (.tmp 16) rfl rfl u9 ?_)
        | (refine wpList_ldt rfl (.tmp 13) rfl rfl t9 ?_)
        | (refine wpList_svt rfl (.tmp 16) (.tmp 74) rfl rfl rfl u8 ?_; intro w9 u9 b9 o9 s9; have t9 := t8.below b9 LT.out; have m9 := m8.below b9 LM2.out; have c0 : w9.cell? ⟨w.heap.size, 0, none⟩ = some (.int .i64 (j : Int)) := m9.c0; have e0 : w9.cell? ⟨w5.heap.size, 0, none⟩ = some (.int .i64 (j : Int)) := t9.c0; have e1 : w9.cell? ⟨w5.heap.size, 1, none⟩ = some (.int .i64 0) := t9.c1; have B9 : Hid (Below w.heap.size w w9) := hid (B8.out.trans (b9.mono LB2.out)))
        | (refine wpList_alt rfl rfl ?_; intro w8 u8 b8 s8; have t8 := t7.keep b8; have m8 := m7.keep b8; have LT := hid t7.lt; have LM2 := hid m7.lt; have LB2 := hid B7.out.size; have B8 : Hid (Below w.heap.size w w8) := hid (B7.out.trans (b8.mono B7.out.size)))
        | (go_at_call 19; (with_reducible refine (HN.out w6 X6.out).mono ?_); rintro e w7 ⟨rfl, b7⟩; have t7 := t6.keep b7; have m7 := m6.keep b7; have B7 : Hid (Below w.heap.size w w7) := hid (B6.out.trans (b7.mono B6.out.size)))
        | (refine wpList_ldm rfl (.tmp 4) rfl rfl m6 ?_)
        | (refine wpList_svt rfl (.tmp 13) (.tmp 64) rfl rfl rfl t5 ?_; intro w6 t6 b6 o6 s6; have m6 := m5.below b6 LM.out; have X6 : Hid (Below wr.heap.size wr w6) := hid (X5.out.trans (b6.mono LX.out)); have B6 : Hid (Below w.heap.size w w6) := hid (B5.out.trans (b6.mono LB.out)))
        | (refine wpList_alt rfl rfl ?_; intro w5' t5 b5 s5; have m5 := m4.keep b5; have LM := hid m4.lt; have LB := hid B4.out.size; have LX := hid X4.out.size; have X5 : Hid (Below wr.heap.size wr w5') := hid (X4.out.trans (b5.mono X4.out.size)); have B5 : Hid (Below w.heap.size w w5') := hid (B4.out.trans (b5.mono B4.out.size)))
        | (go_at_call 19; (with_reducible refine (HG.out wr (Below.refl _ _)).mono ?_); rintro e w5 ⟨rfl, b4⟩; have m4 := MX.out.keep b4; have X4 : Hid (Below wr.heap.size wr w5) := hid b4; have B4 : Hid (Below w.heap.size w w5) := hid (BX.out.trans (b4.mono BX.out.size)))
        | (refine wpList_ldm rfl (.tmp 4) rfl rfl MX.out ?_))
      clear m11 d0 b11 u10 b10 B10 u9 t9 m9 c0 e0 e1 b9 o9 s9 B9 u8 t8 m8 b8 s8 B8 t7 m7 b7 B7 t6 m6 X6 B6 HE HF HG HN BX MX q1 q2
      go_loopw [109] (WlRel j w) (fun i _ => j - (intOf i).toNat)
      case atStart => exact ⟨0, Nat.zero_le _, rfl, B11⟩
      case round =>
        obtain ⟨i, hi, rfl, BZ⟩ := hrel
        by_cases hlt2 : i < j
        · have HS := hid (fun w => has_in P i w H6.out.1 (by omega))
          have HT := hid (fun w => has_in Q i w H6.out.2 (by omega))
          rw [HA.out i hlt2] at HS
          rw [HB.out i hlt2] at HT
          by_cases hme : i = me.toNat
          · rw [decide_eq_true hme] at HT
            have hb : ((i : Int) == me) = true := by rw [beq_iff_eq]; omega
            clear hme
            go_wp2_with (first
              | (go_at_call 22; (with_reducible refine (HS.out _).mono ?_); rintro e w' ⟨rfl, rfl⟩)
              | (go_at_call 22; (with_reducible refine (HT.out _).mono ?_); rintro e w' ⟨rfl, rfl⟩))
            exact ⟨⟨i + 1, by omega, by go_num, BZ⟩, by simp [intOf]; omega⟩
          · rw [decide_eq_false hme] at HT
            have hb : ((i : Int) == me) = false := by rw [beq_eq_false_iff_ne]; omega
            clear hme
            go_wp2_with (first
              | (go_at_call 22; (with_reducible refine (HS.out _).mono ?_); rintro e w' ⟨rfl, rfl⟩)
              | (go_at_call 22; (with_reducible refine (HT.out _).mono ?_); rintro e w' ⟨rfl, rfl⟩))
            exact ⟨⟨i + 1, by omega, by go_num, BZ⟩, by simp [intOf]; omega⟩
        · obtain rfl : i = j := by omega
          go_wp2_with fail
          go_ret
          exact ⟨rfl, BZ.out⟩
theorem whole_walk (n s l0 f0 d me k : Int) (own : Nat) (w : World) (hk : 0 ≤ k) (ho : own < 65536) :
    Calls Try.prog 7 #[mv ⟨n, s, l0, f0, d⟩, .int .i64 me, .int .u16 (own : Int), .int .u64 k] w (TrueB w) := by
  by_cases hx : Ok ⟨n, s, l0, f0, d⟩
  · by_cases h1 : me < 0
    · exact whole_lo n s l0 f0 d me k own w hx h1
    · by_cases h2 : n ≤ me
      · exact whole_hi n s l0 f0 d me k own w hx (by omega) h2
      · by_cases h3 : 2147483648 < k
        · exact whole_far n s l0 f0 d me k own w hx (by omega) (by omega) h3
        · obtain ⟨N, rfl⟩ : ∃ N : Nat, n = N := ⟨n.toNat, by omega⟩
          exact whole_main N s l0 f0 d me k own w hx (by omega) (by omega) hk (by omega) ho
  · exact whole_bad n s l0 f0 d me k own w hx
end Go.Proofs.Ytbfaebobainhjaa
