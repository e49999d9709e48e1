/-
  The walk of GuardCold: it returns true at every schedule, period, node, frame and time.
-/
import Derived.Test.YtpncbfhbiifncaaWS
import Derived.Test.YtpncbfhbiifncaaJ
import Derived.Test.YtpncbfhbiifncaaQ
namespace Go.Proofs.Ytpncbfhbiifncaa
open Go Go.RowKit
set_option maxRecDepth 100000 in
theorem cold_sched (n s l f d p q fk ff : Int) (fs fm : Nat) (t : Int) (w : World) (h : ¬ Ok ⟨n, s, l, f, d⟩) : Calls Try.prog 5 #[mv ⟨n, s, l, f, d⟩, .int .i64 p, .int .i64 q, fv ⟨fk, ff, fs, fm⟩, .int .i64 t] w fun e w' => e = .returned (.bool true) ∧ Below w.heap.size w w' := by
  have HC := hid (fun w => (okE_bad h ▸ check_any ⟨n, s, l, f, d⟩ w : Calls Try.prog 12 #[mv ⟨n, s, l, f, d⟩] w fun e w' => e = .returned (.int .i64 1) ∧ Below w.heap.size w w'))
  clear h
  go_enter Try.func5, Try.ntmps5
  go_wp2_with (first
    | (go_at_call 12; (with_reducible refine (HC.out w3).mono ?_); rintro e w4 ⟨rfl, b4⟩; have vm4 := vm3.keep b4; have vf4 := vf3.keep b4; have B4 : Hid (Below w.heap.size w w4) := hid (B3.out.trans (b4.mono B3.out.size)); have cm0_4 : w4.cell? ⟨w.heap.size, 0, none⟩ = some (.int .i64 n) := vm4.c0; have cf0_4 : w4.cell? ⟨w1.heap.size, 0, none⟩ = some (.int .i64 fk) := vf4.c0; have cf1_4 : w4.cell? ⟨w1.heap.size, 1, none⟩ = some (.int .i64 ff) := vf4.c1; have cf2_4 : w4.cell? ⟨w1.heap.size, 2, none⟩ = some (.int .u64 (fs : Int)) := vf4.c2; clear b4 vm3 cm0_3 vf3 cf0_3 cf1_3 cf2_3)
    | (refine wpList_ldm2 (.tmp 5) rfl rfl vm3 rfl ?_)
    | (go_at_call 7; (with_reducible refine (live_any w2).mono ?_); rintro e w3 ⟨rfl, b3⟩; have vm3 := vm2.keep b3; have vf3 := vf2.keep b3; have B3 : Hid (Below w.heap.size w w3) := hid (B2.out.trans (b3.mono B2.out.size)); have cm0_3 : w3.cell? ⟨w.heap.size, 0, none⟩ = some (.int .i64 n) := vm3.c0; have cf0_3 : w3.cell? ⟨w1.heap.size, 0, none⟩ = some (.int .i64 fk) := vf3.c0; have cf1_3 : w3.cell? ⟨w1.heap.size, 1, none⟩ = some (.int .i64 ff) := vf3.c1; have cf2_3 : w3.cell? ⟨w1.heap.size, 2, none⟩ = some (.int .u64 (fs : Int)) := vf3.c2; clear b3 vm2 cm0_2 vf2 cf0_2 cf1_2 cf2_2)
    | (refine wpList_boxf (x := ⟨fk, ff, fs, fm⟩) rfl (.tmp 3) rfl rfl ?_; intro w2 vf2 b2 s2; have vm2 := vm1.keep b2; have B2 : Hid (Below w.heap.size w w2) := hid (B1.out.trans (b2.mono B1.out.size)); have Nmf : Hid (w.heap.size ≠ w1.heap.size) := hid (by have := vm1.lt; omega); have cm0_2 : w2.cell? ⟨w.heap.size, 0, none⟩ = some (.int .i64 n) := vm2.c0; have cf0_2 : w2.cell? ⟨w1.heap.size, 0, none⟩ = some (.int .i64 fk) := vf2.c0; have cf1_2 : w2.cell? ⟨w1.heap.size, 1, none⟩ = some (.int .i64 ff) := vf2.c1; have cf2_2 : w2.cell? ⟨w1.heap.size, 2, none⟩ = some (.int .u64 (fs : Int)) := vf2.c2; clear b2 s2 vm1 cm0_1)
    | (refine wpList_boxm (x := ⟨n, s, l, f, d⟩) rfl (.tmp 0) rfl rfl ?_; intro w1 vm1 b1 s1; have B1 : Hid (Below w.heap.size w w1) := hid b1; have cm0_1 : w1.cell? ⟨w.heap.size, 0, none⟩ = some (.int .i64 n) := vm1.c0; clear b1 s1))
  go_ret
  exact ⟨rfl, B4.out⟩
set_option maxHeartbeats 1000000 in
set_option maxRecDepth 100000 in
theorem cold_args (n s l f d p q fk ff : Int) (fs fm : Nat) (t : Int) (w : World) (h : Ok ⟨n, s, l, f, d⟩) (hb : decide (p < 1) = true ∨ (decide (p < 1) = false ∧ decide (1000000000 < p) = true) ∨ (decide (p < 1) = false ∧ decide (1000000000 < p) = false ∧ decide (q < 0) = true) ∨ (decide (p < 1) = false ∧ decide (1000000000 < p) = false ∧ decide (q < 0) = false ∧ decide (n ≤ q) = true) ∨ (decide (p < 1) = false ∧ decide (1000000000 < p) = false ∧ decide (q < 0) = false ∧ decide (n ≤ q) = false ∧ decide (t < 0) = true)) : Calls Try.prog 5 #[mv ⟨n, s, l, f, d⟩, .int .i64 p, .int .i64 q, fv ⟨fk, ff, fs, fm⟩, .int .i64 t] w fun e w' => e = .returned (.bool true) ∧ Below w.heap.size w w' := by
  have HC := hid (fun w => (okE_ok h ▸ check_any ⟨n, s, l, f, d⟩ w : Calls Try.prog 12 #[mv ⟨n, s, l, f, d⟩] w fun e w' => e = .returned (.int .i64 0) ∧ Below w.heap.size w w'))
  clear h
  rcases hb with h1 | ⟨h1, h2⟩ | ⟨h1, h2, h3⟩ | ⟨h1, h2, h3, h4⟩ | ⟨h1, h2, h3, h4, h5⟩
  all_goals
    go_enter Try.func5, Try.ntmps5
    go_wp2_with (first
      | (go_at_call 12; (with_reducible refine (HC.out w3).mono ?_); rintro e w4 ⟨rfl, b4⟩; have vm4 := vm3.keep b4; have vf4 := vf3.keep b4; have B4 : Hid (Below w.heap.size w w4) := hid (B3.out.trans (b4.mono B3.out.size)); have cm0_4 : w4.cell? ⟨w.heap.size, 0, none⟩ = some (.int .i64 n) := vm4.c0; have cf0_4 : w4.cell? ⟨w1.heap.size, 0, none⟩ = some (.int .i64 fk) := vf4.c0; have cf1_4 : w4.cell? ⟨w1.heap.size, 1, none⟩ = some (.int .i64 ff) := vf4.c1; have cf2_4 : w4.cell? ⟨w1.heap.size, 2, none⟩ = some (.int .u64 (fs : Int)) := vf4.c2; clear b4 vm3 cm0_3 vf3 cf0_3 cf1_3 cf2_3)
      | (refine wpList_ldm2 (.tmp 5) rfl rfl vm3 rfl ?_)
      | (go_at_call 7; (with_reducible refine (live_any w2).mono ?_); rintro e w3 ⟨rfl, b3⟩; have vm3 := vm2.keep b3; have vf3 := vf2.keep b3; have B3 : Hid (Below w.heap.size w w3) := hid (B2.out.trans (b3.mono B2.out.size)); have cm0_3 : w3.cell? ⟨w.heap.size, 0, none⟩ = some (.int .i64 n) := vm3.c0; have cf0_3 : w3.cell? ⟨w1.heap.size, 0, none⟩ = some (.int .i64 fk) := vf3.c0; have cf1_3 : w3.cell? ⟨w1.heap.size, 1, none⟩ = some (.int .i64 ff) := vf3.c1; have cf2_3 : w3.cell? ⟨w1.heap.size, 2, none⟩ = some (.int .u64 (fs : Int)) := vf3.c2; clear b3 vm2 cm0_2 vf2 cf0_2 cf1_2 cf2_2)
      | (refine wpList_boxf (x := ⟨fk, ff, fs, fm⟩) rfl (.tmp 3) rfl rfl ?_; intro w2 vf2 b2 s2; have vm2 := vm1.keep b2; have B2 : Hid (Below w.heap.size w w2) := hid (B1.out.trans (b2.mono B1.out.size)); have Nmf : Hid (w.heap.size ≠ w1.heap.size) := hid (by have := vm1.lt; omega); have cm0_2 : w2.cell? ⟨w.heap.size, 0, none⟩ = some (.int .i64 n) := vm2.c0; have cf0_2 : w2.cell? ⟨w1.heap.size, 0, none⟩ = some (.int .i64 fk) := vf2.c0; have cf1_2 : w2.cell? ⟨w1.heap.size, 1, none⟩ = some (.int .i64 ff) := vf2.c1; have cf2_2 : w2.cell? ⟨w1.heap.size, 2, none⟩ = some (.int .u64 (fs : Int)) := vf2.c2; clear b2 s2 vm1 cm0_1)
      | (refine wpList_boxm (x := ⟨n, s, l, f, d⟩) rfl (.tmp 0) rfl rfl ?_; intro w1 vm1 b1 s1; have B1 : Hid (Below w.heap.size w w1) := hid b1; have cm0_1 : w1.cell? ⟨w.heap.size, 0, none⟩ = some (.int .i64 n) := vm1.c0; clear b1 s1))
    go_ret
    exact ⟨rfl, B4.out⟩
set_option maxRecDepth 100000 in
theorem cold_time (n s l f d p q fk ff : Int) (fs fm : Nat) (t : Int) (w : World) (h : Ok ⟨n, s, l, f, d⟩) (p1 : 1 ≤ p) (p2 : p ≤ 1000000000) (q1 : 0 ≤ q) (q2 : q < n) (t1 : 0 ≤ t) (hm : timeB t = false) : Calls Try.prog 5 #[mv ⟨n, s, l, f, d⟩, .int .i64 p, .int .i64 q, fv ⟨fk, ff, fs, fm⟩, .int .i64 t] w fun e w' => e = .returned (.bool true) ∧ Below w.heap.size w w' := by
  have HM := hid hm
  have HC := hid (fun w => (okE_ok h ▸ check_any ⟨n, s, l, f, d⟩ w : Calls Try.prog 12 #[mv ⟨n, s, l, f, d⟩] w fun e w' => e = .returned (.int .i64 0) ∧ Below w.heap.size w w'))
  have i1 : decide (p < 1) = false := by simp; omega
  have i2 : decide (1000000000 < p) = false := by simp; omega
  have i3 : decide (q < 0) = false := by simp; omega
  have i4 : decide (n ≤ q) = false := by simp; omega
  have i5 : decide (t < 0) = false := by simp; omega
  clear h p1 p2 q1 q2 t1
  clear hm
  go_enter Try.func5, Try.ntmps5
  go_wp2_with (first
    | (go_at_call 9; (refine (rmay_1 _ _ t false HM.out _ (by simp)).mono ?_); rintro e w5 ⟨rfl, e5⟩; have b5 : Below w4.heap.size w4 w5 := e5 ▸ ((Below.refl _ _).alloc (Nat.le_refl _) _); have vm5 := vm4.keep b5; have vf5 := vf4.keep b5; have B5 : Hid (Below w.heap.size w w5) := hid (B4.out.trans (b5.mono B4.out.size)); clear e5; have cm0_5 : w5.cell? ⟨w.heap.size, 0, none⟩ = some (.int .i64 n) := vm5.c0; have cf0_5 : w5.cell? ⟨w1.heap.size, 0, none⟩ = some (.int .i64 fk) := vf5.c0; have cf1_5 : w5.cell? ⟨w1.heap.size, 1, none⟩ = some (.int .i64 ff) := vf5.c1; have cf2_5 : w5.cell? ⟨w1.heap.size, 2, none⟩ = some (.int .u64 (fs : Int)) := vf5.c2; clear b5 vm4 cm0_4 vf4 cf0_4 cf1_4 cf2_4)
    | (go_at_call 12; (with_reducible refine (HC.out w3).mono ?_); rintro e w4 ⟨rfl, b4⟩; have vm4 := vm3.keep b4; have vf4 := vf3.keep b4; have B4 : Hid (Below w.heap.size w w4) := hid (B3.out.trans (b4.mono B3.out.size)); have cm0_4 : w4.cell? ⟨w.heap.size, 0, none⟩ = some (.int .i64 n) := vm4.c0; have cf0_4 : w4.cell? ⟨w1.heap.size, 0, none⟩ = some (.int .i64 fk) := vf4.c0; have cf1_4 : w4.cell? ⟨w1.heap.size, 1, none⟩ = some (.int .i64 ff) := vf4.c1; have cf2_4 : w4.cell? ⟨w1.heap.size, 2, none⟩ = some (.int .u64 (fs : Int)) := vf4.c2; clear b4 vm3 cm0_3 vf3 cf0_3 cf1_3 cf2_3)
    | (refine wpList_ldm2 (.tmp 5) rfl rfl vm3 rfl ?_)
    | (go_at_call 7; (with_reducible refine (live_any w2).mono ?_); rintro e w3 ⟨rfl, b3⟩; have vm3 := vm2.keep b3; have vf3 := vf2.keep b3; have B3 : Hid (Below w.heap.size w w3) := hid (B2.out.trans (b3.mono B2.out.size)); have cm0_3 : w3.cell? ⟨w.heap.size, 0, none⟩ = some (.int .i64 n) := vm3.c0; have cf0_3 : w3.cell? ⟨w1.heap.size, 0, none⟩ = some (.int .i64 fk) := vf3.c0; have cf1_3 : w3.cell? ⟨w1.heap.size, 1, none⟩ = some (.int .i64 ff) := vf3.c1; have cf2_3 : w3.cell? ⟨w1.heap.size, 2, none⟩ = some (.int .u64 (fs : Int)) := vf3.c2; clear b3 vm2 cm0_2 vf2 cf0_2 cf1_2 cf2_2)
    | (refine wpList_boxf (x := ⟨fk, ff, fs, fm⟩) rfl (.tmp 3) rfl rfl ?_; intro w2 vf2 b2 s2; have vm2 := vm1.keep b2; have B2 : Hid (Below w.heap.size w w2) := hid (B1.out.trans (b2.mono B1.out.size)); have Nmf : Hid (w.heap.size ≠ w1.heap.size) := hid (by have := vm1.lt; omega); have cm0_2 : w2.cell? ⟨w.heap.size, 0, none⟩ = some (.int .i64 n) := vm2.c0; have cf0_2 : w2.cell? ⟨w1.heap.size, 0, none⟩ = some (.int .i64 fk) := vf2.c0; have cf1_2 : w2.cell? ⟨w1.heap.size, 1, none⟩ = some (.int .i64 ff) := vf2.c1; have cf2_2 : w2.cell? ⟨w1.heap.size, 2, none⟩ = some (.int .u64 (fs : Int)) := vf2.c2; clear b2 s2 vm1 cm0_1)
    | (refine wpList_boxm (x := ⟨n, s, l, f, d⟩) rfl (.tmp 0) rfl rfl ?_; intro w1 vm1 b1 s1; have B1 : Hid (Below w.heap.size w w1) := hid b1; have cm0_1 : w1.cell? ⟨w.heap.size, 0, none⟩ = some (.int .i64 n) := vm1.c0; clear b1 s1))
  go_ret
  exact ⟨rfl, B5.out⟩
set_option maxHeartbeats 4000000 in
set_option maxRecDepth 100000 in
theorem cold_no (n s l f d p q fk ff : Int) (fs fm : Nat) (t : Int) (w : World) (O i : Int) (h : Ok ⟨n, s, l, f, d⟩) (p1 : 1 ≤ p) (p2 : p ≤ 1000000000) (q1 : 0 ≤ q) (q2 : q < n) (t1 : 0 ≤ t) (hm : timeB t = true) (P0 : ∀ w : World, Calls Try.prog 10 #[.agg #[.bool false, .bool false, .int .u64 0, .int .i64 0], mv ⟨n, s, l, f, d⟩, .int .i64 p, .int .i64 q, fv ⟨fk, ff, fs, fm⟩, .int .i64 t] w fun e w' => e = .returned (.tuple #[gv ⟨false, false, 0, 0⟩, .bool true, .int .i64 0]) ∧ Below w.heap.size w w')
    (P1 : ∀ w : World, Calls Try.prog 10 #[.agg #[.bool true, .bool false, .int .u64 0, .int .i64 0], mv ⟨n, s, l, f, d⟩, .int .i64 p, .int .i64 q, fv ⟨fk, ff, fs, fm⟩, .int .i64 t] w fun e w' => e = .returned (.tuple #[gv ⟨true, false, 0, 0⟩, .bool false, .int .i64 0]) ∧ Below w.heap.size w w') (OW : ∀ w : World, Calls Try.prog 13 #[mv ⟨n, s, l, f, d⟩, .int .u64 (fs : Int)] w fun e w' => e = .returned (.tuple #[.int .i64 O, .int .i64 i]) ∧ Below w.heap.size w w')
    (hc : ¬ fk = 2 ∨ ((fk == 2) = true ∧ (ff == q) = false) ∨ ((fk == 2) = true ∧ (ff == q) = true ∧ i = 1) ∨ ((fk == 2) = true ∧ (ff == q) = true ∧ i = 0 ∧ (O == q) = false)) : Calls Try.prog 5 #[mv ⟨n, s, l, f, d⟩, .int .i64 p, .int .i64 q, fv ⟨fk, ff, fs, fm⟩, .int .i64 t] w fun e w' => e = .returned (.bool true) ∧ Below w.heap.size w w' := by
  have HM := hid hm
  have H0 := hid P0
  have H1 := hid P1
  have HO := hid OW
  have y1 : ∀ w, (binOp .eql 24 (gv ⟨true, false, 0, 0⟩) (.agg #[.bool true, .bool false, .int .u64 0, .int .i64 0])).run Try.prog w = .ok (.bool true) w := eq_lit _ _ _ _
  have y2 : ∀ op x y w, (eqGuard op 24 x y (gv ⟨true, false, 0, 0⟩) (.agg #[.bool true, .bool false, .int .u64 0, .int .i64 0])).run Try.prog w = .ok () w := fun op x y w => gu_lit _ _ _ _ _ op x y w
  have z1 : ∀ w, (binOp .neq 24 (gv ⟨false, false, 0, 0⟩) (.agg #[.bool false, .bool false, .int .u64 0, .int .i64 0])).run Try.prog w = .ok (.bool false) w := ne_lit _ _ _ _
  have z2 : ∀ op x y w, (eqGuard op 24 x y (gv ⟨false, false, 0, 0⟩) (.agg #[.bool false, .bool false, .int .u64 0, .int .i64 0])).run Try.prog w = .ok () w := fun op x y w => gu_lit _ _ _ _ _ op x y w
  have HC := hid (fun w => (okE_ok h ▸ check_any ⟨n, s, l, f, d⟩ w : Calls Try.prog 12 #[mv ⟨n, s, l, f, d⟩] w fun e w' => e = .returned (.int .i64 0) ∧ Below w.heap.size w w'))
  have i1 : decide (p < 1) = false := by simp; omega
  have i2 : decide (1000000000 < p) = false := by simp; omega
  have i3 : decide (q < 0) = false := by simp; omega
  have i4 : decide (n ≤ q) = false := by simp; omega
  have i5 : decide (t < 0) = false := by simp; omega
  clear h p1 p2 q1 q2 t1
  clear hm P0 P1 OW
  rcases hc with k1 | ⟨k1, k2⟩ | ⟨k1, k2, rfl⟩ | ⟨k1, k2, rfl, k3⟩
  all_goals
    go_enter Try.func5, Try.ntmps5
    go_wp2_with (first
      | (refine wpList_ldg2 (.tmp 15) rfl rfl vb12 rfl ?_)
      | (go_at_call 13; (with_reducible refine (HO.out w11).mono ?_); rintro e w12 ⟨rfl, b12⟩; have vm12 := vm11.keep b12; have vf12 := vf11.keep b12; have vb12 := vb11.keep b12; have B12 : Hid (Below w.heap.size w w12) := hid (B11.out.trans (b12.mono B11.out.size)); have cm0_12 : w12.cell? ⟨w.heap.size, 0, none⟩ = some (.int .i64 n) := vm12.c0; have cf0_12 : w12.cell? ⟨w1.heap.size, 0, none⟩ = some (.int .i64 fk) := vf12.c0; have cf1_12 : w12.cell? ⟨w1.heap.size, 1, none⟩ = some (.int .i64 ff) := vf12.c1; have cf2_12 : w12.cell? ⟨w1.heap.size, 2, none⟩ = some (.int .u64 (fs : Int)) := vf12.c2; clear b12 vm11 cm0_11 vf11 cf0_11 cf1_11 cf2_11 vb11)
      | (refine wpList_ldm2 (.tmp 5) rfl rfl vm11 rfl ?_)
      | (refine wpList_svg (x := ⟨true, false, 0, 0⟩) rfl (.tmp 15) (.tmp 88) rfl rfl rfl vb10 ?_; intro w11 vb11 b11 o11 _; have vm11 := vm10.other o11 Nmb.out; have vf11 := vf10.other o11 Nfb.out; have B11 : Hid (Below w.heap.size w w11) := hid (B10.out.trans (b11.mono (B9.out.size))); have cm0_11 : w11.cell? ⟨w.heap.size, 0, none⟩ = some (.int .i64 n) := vm11.c0; have cf0_11 : w11.cell? ⟨w1.heap.size, 0, none⟩ = some (.int .i64 fk) := vf11.c0; have cf1_11 : w11.cell? ⟨w1.heap.size, 1, none⟩ = some (.int .i64 ff) := vf11.c1; have cf2_11 : w11.cell? ⟨w1.heap.size, 2, none⟩ = some (.int .u64 (fs : Int)) := vf11.c2; clear b11 o11 vm10 cm0_10 vf10 cf0_10 cf1_10 cf2_10 vb10)
      | (refine wpList_alg rfl rfl ?_; intro w10 vb10 b10 s10; have vm10 := vm9.keep b10; have vf10 := vf9.keep b10; have B10 : Hid (Below w.heap.size w w10) := hid (B9.out.trans (b10.mono B9.out.size)); have Nmb : Hid (w.heap.size ≠ w9.heap.size) := hid (by have := vm9.lt; omega); have Nfb : Hid (w1.heap.size ≠ w9.heap.size) := hid (by have := vf9.lt; omega); have cm0_10 : w10.cell? ⟨w.heap.size, 0, none⟩ = some (.int .i64 n) := vm10.c0; have cf0_10 : w10.cell? ⟨w1.heap.size, 0, none⟩ = some (.int .i64 fk) := vf10.c0; have cf1_10 : w10.cell? ⟨w1.heap.size, 1, none⟩ = some (.int .i64 ff) := vf10.c1; have cf2_10 : w10.cell? ⟨w1.heap.size, 2, none⟩ = some (.int .u64 (fs : Int)) := vf10.c2; clear b10 s10 vm9 cm0_9 vf9 cf0_9 cf1_9 cf2_9)
      | (go_at_call 10; (with_reducible refine (H1.out w8).mono ?_); rintro e w9 ⟨rfl, b9⟩; have vm9 := vm8.keep b9; have vf9 := vf8.keep b9; have B9 : Hid (Below w.heap.size w w9) := hid (B8.out.trans (b9.mono B8.out.size)); have cm0_9 : w9.cell? ⟨w.heap.size, 0, none⟩ = some (.int .i64 n) := vm9.c0; have cf0_9 : w9.cell? ⟨w1.heap.size, 0, none⟩ = some (.int .i64 fk) := vf9.c0; have cf1_9 : w9.cell? ⟨w1.heap.size, 1, none⟩ = some (.int .i64 ff) := vf9.c1; have cf2_9 : w9.cell? ⟨w1.heap.size, 2, none⟩ = some (.int .u64 (fs : Int)) := vf9.c2; clear b9 vm8 cm0_8 vf8 cf0_8 cf1_8 cf2_8)
      | (refine wpList_ldf2 (.tmp 8) rfl rfl vf8 rfl ?_)
      | (refine wpList_ldm2 (.tmp 5) rfl rfl vm8 rfl ?_)
      | (refine wpList_ldg2 (.tmp 12) rfl rfl va8 rfl ?_)
      | (refine wpList_svg (x := ⟨false, false, 0, 0⟩) rfl (.tmp 12) (.tmp 66) rfl rfl rfl va7 ?_; intro w8 va8 b8 o8 _; have vm8 := vm7.other o8 Nma.out; have vf8 := vf7.other o8 Nfa.out; have B8 : Hid (Below w.heap.size w w8) := hid (B7.out.trans (b8.mono (B6.out.size))); have cm0_8 : w8.cell? ⟨w.heap.size, 0, none⟩ = some (.int .i64 n) := vm8.c0; have cf0_8 : w8.cell? ⟨w1.heap.size, 0, none⟩ = some (.int .i64 fk) := vf8.c0; have cf1_8 : w8.cell? ⟨w1.heap.size, 1, none⟩ = some (.int .i64 ff) := vf8.c1; have cf2_8 : w8.cell? ⟨w1.heap.size, 2, none⟩ = some (.int .u64 (fs : Int)) := vf8.c2; clear b8 o8 vm7 cm0_7 vf7 cf0_7 cf1_7 cf2_7 va7)
      | (refine wpList_alg rfl rfl ?_; intro w7 va7 b7 s7; have vm7 := vm6.keep b7; have vf7 := vf6.keep b7; have B7 : Hid (Below w.heap.size w w7) := hid (B6.out.trans (b7.mono B6.out.size)); have Nma : Hid (w.heap.size ≠ w6.heap.size) := hid (by have := vm6.lt; omega); have Nfa : Hid (w1.heap.size ≠ w6.heap.size) := hid (by have := vf6.lt; omega); have cm0_7 : w7.cell? ⟨w.heap.size, 0, none⟩ = some (.int .i64 n) := vm7.c0; have cf0_7 : w7.cell? ⟨w1.heap.size, 0, none⟩ = some (.int .i64 fk) := vf7.c0; have cf1_7 : w7.cell? ⟨w1.heap.size, 1, none⟩ = some (.int .i64 ff) := vf7.c1; have cf2_7 : w7.cell? ⟨w1.heap.size, 2, none⟩ = some (.int .u64 (fs : Int)) := vf7.c2; clear b7 s7 vm6 cm0_6 vf6 cf0_6 cf1_6 cf2_6)
      | (go_at_call 10; (with_reducible refine (H0.out w5).mono ?_); rintro e w6 ⟨rfl, b6⟩; have vm6 := vm5.keep b6; have vf6 := vf5.keep b6; have B6 : Hid (Below w.heap.size w w6) := hid (B5.out.trans (b6.mono B5.out.size)); have cm0_6 : w6.cell? ⟨w.heap.size, 0, none⟩ = some (.int .i64 n) := vm6.c0; have cf0_6 : w6.cell? ⟨w1.heap.size, 0, none⟩ = some (.int .i64 fk) := vf6.c0; have cf1_6 : w6.cell? ⟨w1.heap.size, 1, none⟩ = some (.int .i64 ff) := vf6.c1; have cf2_6 : w6.cell? ⟨w1.heap.size, 2, none⟩ = some (.int .u64 (fs : Int)) := vf6.c2; clear b6 vm5 cm0_5 vf5 cf0_5 cf1_5 cf2_5)
      | (refine wpList_ldf2 (.tmp 8) rfl rfl vf5 rfl ?_)
      | (refine wpList_ldm2 (.tmp 5) rfl rfl vm5 rfl ?_)
      | (go_at_call 9; (refine (rmay_1 _ _ t true HM.out _ (by simp)).mono ?_); rintro e w5 ⟨rfl, e5⟩; have b5 : Below w4.heap.size w4 w5 := e5 ▸ ((Below.refl _ _).alloc (Nat.le_refl _) _); have vm5 := vm4.keep b5; have vf5 := vf4.keep b5; have B5 : Hid (Below w.heap.size w w5) := hid (B4.out.trans (b5.mono B4.out.size)); clear e5; have cm0_5 : w5.cell? ⟨w.heap.size, 0, none⟩ = some (.int .i64 n) := vm5.c0; have cf0_5 : w5.cell? ⟨w1.heap.size, 0, none⟩ = some (.int .i64 fk) := vf5.c0; have cf1_5 : w5.cell? ⟨w1.heap.size, 1, none⟩ = some (.int .i64 ff) := vf5.c1; have cf2_5 : w5.cell? ⟨w1.heap.size, 2, none⟩ = some (.int .u64 (fs : Int)) := vf5.c2; clear b5 vm4 cm0_4 vf4 cf0_4 cf1_4 cf2_4)
      | (go_at_call 12; (with_reducible refine (HC.out w3).mono ?_); rintro e w4 ⟨rfl, b4⟩; have vm4 := vm3.keep b4; have vf4 := vf3.keep b4; have B4 : Hid (Below w.heap.size w w4) := hid (B3.out.trans (b4.mono B3.out.size)); have cm0_4 : w4.cell? ⟨w.heap.size, 0, none⟩ = some (.int .i64 n) := vm4.c0; have cf0_4 : w4.cell? ⟨w1.heap.size, 0, none⟩ = some (.int .i64 fk) := vf4.c0; have cf1_4 : w4.cell? ⟨w1.heap.size, 1, none⟩ = some (.int .i64 ff) := vf4.c1; have cf2_4 : w4.cell? ⟨w1.heap.size, 2, none⟩ = some (.int .u64 (fs : Int)) := vf4.c2; clear b4 vm3 cm0_3 vf3 cf0_3 cf1_3 cf2_3)
      | (refine wpList_ldm2 (.tmp 5) rfl rfl vm3 rfl ?_)
      | (go_at_call 7; (with_reducible refine (live_any w2).mono ?_); rintro e w3 ⟨rfl, b3⟩; have vm3 := vm2.keep b3; have vf3 := vf2.keep b3; have B3 : Hid (Below w.heap.size w w3) := hid (B2.out.trans (b3.mono B2.out.size)); have cm0_3 : w3.cell? ⟨w.heap.size, 0, none⟩ = some (.int .i64 n) := vm3.c0; have cf0_3 : w3.cell? ⟨w1.heap.size, 0, none⟩ = some (.int .i64 fk) := vf3.c0; have cf1_3 : w3.cell? ⟨w1.heap.size, 1, none⟩ = some (.int .i64 ff) := vf3.c1; have cf2_3 : w3.cell? ⟨w1.heap.size, 2, none⟩ = some (.int .u64 (fs : Int)) := vf3.c2; clear b3 vm2 cm0_2 vf2 cf0_2 cf1_2 cf2_2)
      | (refine wpList_boxf (x := ⟨fk, ff, fs, fm⟩) rfl (.tmp 3) rfl rfl ?_; intro w2 vf2 b2 s2; have vm2 := vm1.keep b2; have B2 : Hid (Below w.heap.size w w2) := hid (B1.out.trans (b2.mono B1.out.size)); have Nmf : Hid (w.heap.size ≠ w1.heap.size) := hid (by have := vm1.lt; omega); have cm0_2 : w2.cell? ⟨w.heap.size, 0, none⟩ = some (.int .i64 n) := vm2.c0; have cf0_2 : w2.cell? ⟨w1.heap.size, 0, none⟩ = some (.int .i64 fk) := vf2.c0; have cf1_2 : w2.cell? ⟨w1.heap.size, 1, none⟩ = some (.int .i64 ff) := vf2.c1; have cf2_2 : w2.cell? ⟨w1.heap.size, 2, none⟩ = some (.int .u64 (fs : Int)) := vf2.c2; clear b2 s2 vm1 cm0_1)
      | (refine wpList_boxm (x := ⟨n, s, l, f, d⟩) rfl (.tmp 0) rfl rfl ?_; intro w1 vm1 b1 s1; have B1 : Hid (Below w.heap.size w w1) := hid b1; have cm0_1 : w1.cell? ⟨w.heap.size, 0, none⟩ = some (.int .i64 n) := vm1.c0; clear b1 s1))
    go_ret
    exact ⟨rfl, B12.out⟩
end Go.Proofs.Ytpncbfhbiifncaa
