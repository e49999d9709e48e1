/-
  guard.reckoned and guard.slotOf: what they answer, at every guardian, schedule, period and node that may be, and every time.
-/
import Derived.Test.YtpncbfhbiifncaaS
import Derived.Test.YtpncbfhbiifncaaU
namespace Go.Proofs.Ytpncbfhbiifncaa
open Go Go.RowKit
/-- The slot is that one, where it passes. -/
def SlP (S : Int) (B : Bool) (w : World) (e : Ending) (w' : World) : Prop := ∃ k : Int, e = .returned (.tuple #[.int .u64 k, .bool B]) ∧ (B = true → k = S) ∧ Below w.heap.size w w'
/-- What is sent later than that by so much passes. -/
def recB (g : Gd) (m : Md) (p q b : Int) : Bool :=
  timeB (b - g.a) && (decide (0 ≤ nrN (m.s * p) (b - g.a)) && (decide (-(m.d * p) ≤ nrR (m.s * p) (b - g.a)) && (decide (nrR (m.s * p) (b - g.a) ≤ m.d * p) && ownB m q (g.s + nrN (m.s * p) (b - g.a)))))
theorem rec_over (go gk : Bool) (gs ga n s l f d p q b : Int) (w : World) (a1 : -1152921504606846976 ≤ ga) (a2 : ga ≤ 1152921504606846976) (t1 : -1152921504606846976 ≤ b) (t2 : b ≤ 1152921504606846976) (h : b - ga < -1152921504606846976 ∨ 1152921504606846976 < b - ga) :
    Calls Try.prog 30 #[gv ⟨go, gk, gs, ga⟩, mv ⟨n, s, l, f, d⟩, .int .i64 p, .int .i64 q, .int .i64 b] w (SlP (gs + nrN (s * p) (b - ga)) (recB ⟨go, gk, gs, ga⟩ ⟨n, s, l, f, d⟩ p q b) w) := by
  rw [show recB ⟨go, gk, gs, ga⟩ ⟨n, s, l, f, d⟩ p q b = false by unfold recB; simp only [timeB_no h]; rfl]
  have HU := hid (fun w => sub_over b ga w t1 t2 a1 a2 h)
  generalize gs + nrN (s * p) (b - ga) = S
  clear h t1 t2 a1 a2
  go_enter Try.func30, Try.ntmps30
  go_wp2_with (first
    | (go_at_call 37; (with_reducible refine (HU.out w2).mono ?_); rintro e w3 ⟨rfl, b3⟩; have vm3 := vm2.keep b3; have vg3 := vg2.keep b3; have B3 : Hid (Below w.heap.size w w3) := hid (B2.out.trans (b3.mono B2.out.size)); clear b3 c3)
    | (refine wpList_boxm (x := ⟨n, s, l, f, d⟩) rfl (.tmp 1) rfl rfl ?_; intro w2 vm2 b2 s2; have vg2 := vg1.keep b2; have c3 : w2.cell? ⟨w.heap.size, 3, none⟩ = some (.int .i64 ga) := vg2.c3; have B2 : Hid (Below w.heap.size w w2) := hid (b1.trans (b2.mono b1.size)); clear b2 s2)
    | (refine wpList_boxg (x := ⟨go, gk, gs, ga⟩) rfl (.tmp 0) rfl rfl ?_; intro w1 vg1 b1 s1))
  go_ret2
  exact ⟨_, rfl, (fun h => by cases h), B3.out⟩
theorem rec_neg (go gk : Bool) (gs ga n s l f d p q b : Int) (w : World) (a1 : -1152921504606846976 ≤ ga) (a2 : ga ≤ 1152921504606846976) (t1 : -1152921504606846976 ≤ b) (t2 : b ≤ 1152921504606846976) (h : Ok ⟨n, s, l, f, d⟩ ∧ 1 ≤ p ∧ p ≤ 1000000000) (h1 : -1152921504606846976 ≤ b - ga) (h2 : b - ga ≤ 1152921504606846976) (hn : decide (nrN (s * p) (b - ga) < 0) = true) :
    Calls Try.prog 30 #[gv ⟨go, gk, gs, ga⟩, mv ⟨n, s, l, f, d⟩, .int .i64 p, .int .i64 q, .int .i64 b] w (SlP (gs + nrN (s * p) (b - ga)) (recB ⟨go, gk, gs, ga⟩ ⟨n, s, l, f, d⟩ p q b) w) := by
  rw [show recB ⟨go, gk, gs, ga⟩ ⟨n, s, l, f, d⟩ p q b = false by unfold recB; simp at hn; simp; intros; omega]
  have HU := hid (fun w => sub_ok b ga w t1 t2 a1 a2 h1 h2)
  have HS := hid (fun w => slots_ok ⟨n, s, l, f, d⟩ p (b - ga) (s * p) w h h1 h2 rfl)
  clear h t1 t2 a1 a2 h1 h2
  generalize b - ga = x at *
  generalize nrN (s * p) x = N at *
  generalize nrR (s * p) x = R at *
  generalize gs + N = S
  go_enter Try.func30, Try.ntmps30
  go_wp2_with (first
    | (go_at_call 11; (with_reducible refine (HS.out w3).mono ?_); rintro e w4 ⟨rfl, b4⟩; have vm4 := vm3.keep b4; have vg4 := vg3.keep b4; have d2 : w4.cell? ⟨w.heap.size, 2, none⟩ = some (.int .u64 gs) := vg4.c2; have d4 : w4.cell? ⟨w1.heap.size, 4, none⟩ = some (.int .i64 d) := vm4.c4; have B4 : Hid (Below w.heap.size w w4) := hid (B3.out.trans (b4.mono B3.out.size)); clear b4)
    | (refine wpList_ldm rfl (.tmp 6) rfl rfl vm3 ?_)
    | (go_at_call 37; (with_reducible refine (HU.out w2).mono ?_); rintro e w3 ⟨rfl, b3⟩; have vm3 := vm2.keep b3; have vg3 := vg2.keep b3; have B3 : Hid (Below w.heap.size w w3) := hid (B2.out.trans (b3.mono B2.out.size)); clear b3 c3)
    | (refine wpList_boxm (x := ⟨n, s, l, f, d⟩) rfl (.tmp 1) rfl rfl ?_; intro w2 vm2 b2 s2; have vg2 := vg1.keep b2; have c3 : w2.cell? ⟨w.heap.size, 3, none⟩ = some (.int .i64 ga) := vg2.c3; have B2 : Hid (Below w.heap.size w w2) := hid (b1.trans (b2.mono b1.size)); clear b2 s2)
    | (refine wpList_boxg (x := ⟨go, gk, gs, ga⟩) rfl (.tmp 0) rfl rfl ?_; intro w1 vg1 b1 s1))
  go_ret2
  exact ⟨_, rfl, (fun h => by cases h), B4.out⟩
set_option maxHeartbeats 1000000 in
theorem rec_in (C1 C2 C3 : Bool) (W N R S x : Int) (go gk : Bool) (gs ga n s l f d p q b : Int) (w : World) (g1 : 0 ≤ gs) (g2 : gs ≤ 4294967296)
    (U : ∀ w : World, Calls Try.prog 37 #[.int .i64 b, .int .i64 ga] w fun e w' => e = .returned (.tuple #[.int .i64 x, .int .i64 0]) ∧ Below w.heap.size w w')
    (HSl : ∀ w : World, Calls Try.prog 11 #[mv ⟨n, s, l, f, d⟩, .int .i64 p, .int .i64 x] w fun e w' => e = .returned (.tuple #[.int .i64 N, .int .i64 R, .int .i64 0]) ∧ Below w.heap.size w w')
    (hN0 : 0 ≤ N) (hN1 : N ≤ 1152921504606846977) (hS : gs + N = S) (hW : d * p = W) (W0 : 0 ≤ W) (W1 : W ≤ 1048576000000000)
    (f1 : decide (-W ≤ R) = C1) (f2 : decide (R ≤ W) = C2) (f3 : ownB ⟨n, s, l, f, d⟩ q S = C3) :
    Calls Try.prog 30 #[gv ⟨go, gk, gs, ga⟩, mv ⟨n, s, l, f, d⟩, .int .i64 p, .int .i64 q, .int .i64 b] w (SlP S (C1 && (C2 && C3)) w) := by
  have HU := hid U
  have HS := hid HSl
  have HW := hid (fun w => ticks_any d p W w (wrap_in hW (by omega) (by omega)))
  have HO := hid (fun w => (f3 ▸ owns_any ⟨n, s, l, f, d⟩ q S w (by omega) : Calls Try.prog 38 #[mv ⟨n, s, l, f, d⟩, .int .i64 q, .int .u64 S] w fun e w' => e = .returned (.bool C3) ∧ Below w.heap.size w w'))
  have e1 : IntKind.u64.wrap N = N := by rw [IntKind.wrap_u64]; omega
  have e2 : IntKind.u64.wrap (gs + N) = S := by rw [hS, IntKind.wrap_u64]; omega
  have hneg : decide (N < 0) = false := by simp; omega
  clear U HSl hS hW f3
  go_enter Try.func30, Try.ntmps30
  go_wp2_with (first
    | (go_at_call 11; (with_reducible refine (HS.out w3).mono ?_); rintro e w4 ⟨rfl, b4⟩; have vm4 := vm3.keep b4; have vg4 := vg3.keep b4; have d2 : w4.cell? ⟨w.heap.size, 2, none⟩ = some (.int .u64 gs) := vg4.c2; have d4 : w4.cell? ⟨w1.heap.size, 4, none⟩ = some (.int .i64 d) := vm4.c4; have B4 : Hid (Below w.heap.size w w4) := hid (B3.out.trans (b4.mono B3.out.size)); clear b4)
    | (refine wpList_ldm rfl (.tmp 6) rfl rfl vm3 ?_)
    | (go_at_call 37; (with_reducible refine (HU.out w2).mono ?_); rintro e w3 ⟨rfl, b3⟩; have vm3 := vm2.keep b3; have vg3 := vg2.keep b3; have B3 : Hid (Below w.heap.size w w3) := hid (B2.out.trans (b3.mono B2.out.size)); clear b3 c3)
    | (refine wpList_boxm (x := ⟨n, s, l, f, d⟩) rfl (.tmp 1) rfl rfl ?_; intro w2 vm2 b2 s2; have vg2 := vg1.keep b2; have c3 : w2.cell? ⟨w.heap.size, 3, none⟩ = some (.int .i64 ga) := vg2.c3; have B2 : Hid (Below w.heap.size w w2) := hid (b1.trans (b2.mono b1.size)); clear b2 s2)
    | (refine wpList_boxg (x := ⟨go, gk, gs, ga⟩) rfl (.tmp 0) rfl rfl ?_; intro w1 vg1 b1 s1))
  go_quiet (first | (go_at_call 19; exact Calls.quiet_of_same (HW.out _)))
  generalize hw5 : w4.drewN _ = w5
  have b5 : Below w4.heap.size w4 w5 := by rw [← hw5]; exact bel_drewN (Below.refl _ _) _
  have vm5 := vm4.keep b5
  have B5 : Hid (Below w.heap.size w w5) := hid (B4.out.trans (b5.mono B4.out.size))
  clear hw5 b5 vm4 vg4 d2 d4 vm3 vg3 vm2 vg2
  cases C1 <;> cases C2
  all_goals
    go_wp2_with (first
      | (go_at_call 38; (with_reducible refine (HO.out w5).mono ?_); rintro e w6 ⟨rfl, b6⟩; have B6 : Hid (Below w.heap.size w w6) := hid (B5.out.trans (b6.mono B5.out.size)); clear b6)
      | (refine wpList_ldm rfl (.tmp 6) rfl rfl vm5 ?_))
  all_goals
    go_ret2
    refine ⟨_, rfl, (fun _ => rfl), ?_⟩
    first | exact B6.out | exact B5.out
theorem nrN_in (L x : Int) (hL : 16 ≤ L) (h1 : -1152921504606846976 ≤ x) (h2 : x ≤ 1152921504606846976) : -1152921504606846976 ≤ nrN L x ∧ nrN L x ≤ 1152921504606846976 := by
  have q1 : x / L < 1152921504606846976 := by
    rw [Int.ediv_lt_iff_lt_mul (by omega)]
    omega
  have q0 : -1152921504606846976 ≤ x / L := by
    rw [Int.le_ediv_iff_mul_le (by omega)]
    omega
  unfold nrN
  split <;> omega
theorem win_in {d s p : Int} (h1 : 1 ≤ d) (h2 : d < s) (h4 : s ≤ 1048576) (p1 : 1 ≤ p) (p2 : p ≤ 1000000000) : 1 ≤ d * p ∧ d * p ≤ 1048576000000000 := by
  have a := Int.mul_le_mul h1 p1 (by omega) (by omega)
  have b := Int.mul_le_mul (show d ≤ 1048576 by omega) p2 (by omega) (by omega)
  omega
theorem rec_any (g : Gd) (m : Md) (p q b : Int) (w : World) (g1 : 0 ≤ g.s) (hg : OkG g) (h : Ok m ∧ 1 ≤ p ∧ p ≤ 1000000000) (t1 : -1152921504606846976 ≤ b) (t2 : b ≤ 1152921504606846976) :
    Calls Try.prog 30 #[gv g, mv m, .int .i64 p, .int .i64 q, .int .i64 b] w (SlP (g.s + nrN (m.s * p) (b - g.a)) (recB g m p q b) w) := by
  obtain ⟨o, k, s, a⟩ := g
  obtain ⟨n, ms, l, f, d⟩ := m
  obtain ⟨g2, ga, _⟩ := hg
  simp only [timeB, decide_eq_true_eq] at g1 g2 ga
  obtain ⟨a1, a2⟩ := ga
  by_cases hx : b - a < -1152921504606846976 ∨ 1152921504606846976 < b - a
  · exact rec_over o k s a n ms l f d p q b w a1 a2 t1 t2 hx
  · have hx1 : -1152921504606846976 ≤ b - a := by omega
    have hx2 : b - a ≤ 1152921504606846976 := by omega
    obtain ⟨⟨o1, o2, o3, o4, o5, o6, o7, o8, o9⟩, p1, p2⟩ := id h
    simp only at o1 o2 o3 o4 o5 o6 o7 o8 o9
    obtain ⟨N0, N1⟩ := nrN_in (ms * p) (b - a) (len_in o3 o4 p1 p2).1 hx1 hx2
    by_cases hn : nrN (ms * p) (b - a) < 0
    · exact rec_neg o k s a n ms l f d p q b w a1 a2 t1 t2 h hx1 hx2 (by simpa using hn)
    · obtain ⟨W0, W1⟩ := win_in o7 (by omega) o4 p1 p2
      have := rec_in (decide (-(d * p) ≤ nrR (ms * p) (b - a))) (decide (nrR (ms * p) (b - a) ≤ d * p)) (ownB ⟨n, ms, l, f, d⟩ q (s + nrN (ms * p) (b - a))) _ _ _ _ (b - a) o k s a n ms l f d p q b w g1 g2
        (fun w => sub_ok b a w t1 t2 a1 a2 hx1 hx2) (fun w => slots_ok ⟨n, ms, l, f, d⟩ p (b - a) (ms * p) w h hx1 hx2 rfl) (by omega) (by omega) rfl rfl (by omega) W1 rfl rfl rfl
      have e : recB ⟨o, k, s, a⟩ ⟨n, ms, l, f, d⟩ p q b = (decide (-(d * p) ≤ nrR (ms * p) (b - a)) && (decide (nrR (ms * p) (b - a) ≤ d * p) && ownB ⟨n, ms, l, f, d⟩ q (s + nrN (ms * p) (b - a)))) := by
        unfold recB
        simp only [timeB_yes hx1 hx2, decide_eq_true (show 0 ≤ nrN (ms * p) (b - a) by omega), Bool.true_and]
      rw [e]
      exact this
/-- What passes, and of which slot it is. -/
def slB (g : Gd) (m : Md) (p q : Int) (f : Fr) (b : Int) : Bool := if knB g = true then recB g m p q b else toldB m q f
def slS (g : Gd) (m : Md) (p : Int) (f : Fr) (b : Int) : Int := if knB g = true then g.s + nrN (m.s * p) (b - g.a) else (f.s : Int)
theorem slotOf_any (g : Gd) (m : Md) (p q : Int) (f : Fr) (b : Int) (w : World) (g1 : 0 ≤ g.s) (hg : OkG g) (h : Ok m ∧ 1 ≤ p ∧ p ≤ 1000000000) (t1 : -1152921504606846976 ≤ b) (t2 : b ≤ 1152921504606846976) :
    Calls Try.prog 22 #[gv g, mv m, .int .i64 p, .int .i64 q, fv f, .int .i64 b] w (SlP (slS g m p f b) (slB g m p q f b) w) := by
  have HR := hid (fun w => rec_any g m p q b w g1 hg h t1 t2)
  have HT := hid (fun w => told_any m q f w)
  cases hk : knB g with
  | true =>
    have HK := hid (fun w => (hk ▸ knows_any g w : Calls Try.prog 17 #[gv g] w fun e w' => e = .returned (.bool true) ∧ Below w.heap.size w w'))
    rw [show slS g m p f b = g.s + nrN (m.s * p) (b - g.a) from if_pos hk, show slB g m p q f b = recB g m p q b from if_pos hk]
    generalize g.s + nrN (m.s * p) (b - g.a) = S at *
    generalize recB g m p q b = B at *
    clear g1 hg h t1 t2 hk HT
    go_enter Try.func22, Try.ntmps22
    go_wp2_with (first
      | (go_at_call 30; (with_reducible refine (HR.out w4).mono ?_); rintro e w5 ⟨k, rfl, hB, b5⟩; have B5 : Hid (Below w.heap.size w w5) := hid (B4.out.trans (b5.mono B4.out.size)); have HB := hid hB; clear b5 hB)
      | (refine wpList_ldm rfl (.tmp 7) rfl rfl vm4 ?_)
      | (refine wpList_ldg rfl (.tmp 6) rfl rfl vg4 ?_)
      | (go_at_call 17; (with_reducible refine (HK.out w3).mono ?_); rintro e w4 ⟨rfl, b4⟩; have vm4 := vm3.keep b4; have vg4 := vg3.keep b4; have vf4 := vf3.keep b4; have B4 : Hid (Below w.heap.size w w4) := hid (B3.out.trans (b4.mono B3.out.size)); clear b4)
      | (refine wpList_ldg rfl (.tmp 6) rfl rfl vg3 ?_)
      | (refine wpList_boxf (x := f) rfl (.tmp 4) rfl rfl ?_; intro w3 vf3 b3 s3; have vm3 := vm2.keep b3; have vg3 := vg2.keep b3; have B3 : Hid (Below w.heap.size w w3) := hid (B2.out.trans (b3.mono B2.out.size)); clear b3 s3)
      | (refine wpList_boxm (x := m) rfl (.tmp 1) rfl rfl ?_; intro w2 vm2 b2 s2; have vg2 := vg1.keep b2; have B2 : Hid (Below w.heap.size w w2) := hid (b1.trans (b2.mono b1.size)); clear b2 s2)
      | (refine wpList_boxg (x := g) rfl (.tmp 0) rfl rfl ?_; intro w1 vg1 b1 s1))
    go_ret2
    exact ⟨_, rfl, HB.out, B5.out⟩
  | false =>
    have HK := hid (fun w => (hk ▸ knows_any g w : Calls Try.prog 17 #[gv g] w fun e w' => e = .returned (.bool false) ∧ Below w.heap.size w w'))
    rw [show slS g m p f b = (f.s : Int) from if_neg (by rw [hk]; simp), show slB g m p q f b = toldB m q f from if_neg (by rw [hk]; simp)]
    generalize toldB m q f = B at *
    clear g1 hg h t1 t2 hk HR
    go_enter Try.func22, Try.ntmps22
    go_wp2_with (first
      | (go_at_call 31; (with_reducible refine (HT.out w4).mono ?_); rintro e w5 ⟨rfl, b5⟩; have B5 : Hid (Below w.heap.size w w5) := hid (B4.out.trans (b5.mono B4.out.size)); clear b5)
      | (refine wpList_ldm rfl (.tmp 7) rfl rfl vm4 ?_)
      | (refine wpList_ldf rfl (.tmp 10) rfl rfl vf4 ?_)
      | (go_at_call 17; (with_reducible refine (HK.out w3).mono ?_); rintro e w4 ⟨rfl, b4⟩; have vm4 := vm3.keep b4; have vg4 := vg3.keep b4; have vf4 := vf3.keep b4; have B4 : Hid (Below w.heap.size w w4) := hid (B3.out.trans (b4.mono B3.out.size)); clear b4)
      | (refine wpList_ldg rfl (.tmp 6) rfl rfl vg3 ?_)
      | (refine wpList_boxf (x := f) rfl (.tmp 4) rfl rfl ?_; intro w3 vf3 b3 s3; have vm3 := vm2.keep b3; have vg3 := vg2.keep b3; have B3 : Hid (Below w.heap.size w w3) := hid (B2.out.trans (b3.mono B2.out.size)); clear b3 s3)
      | (refine wpList_boxm (x := m) rfl (.tmp 1) rfl rfl ?_; intro w2 vm2 b2 s2; have vg2 := vg1.keep b2; have B2 : Hid (Below w.heap.size w w2) := hid (b1.trans (b2.mono b1.size)); clear b2 s2)
      | (refine wpList_boxg (x := g) rfl (.tmp 0) rfl rfl ?_; intro w1 vg1 b1 s1))
    go_ret2
    exact ⟨_, rfl, (fun _ => rfl), B5.out⟩
end Go.Proofs.Ytpncbfhbiifncaa
