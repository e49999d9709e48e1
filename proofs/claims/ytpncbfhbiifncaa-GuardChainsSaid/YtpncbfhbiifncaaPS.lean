/-
  guard.Pass: what it answers, at every argument.
-/
import Derived.Test.YtpncbfhbiifncaaRK
namespace Go.Proofs.Ytpncbfhbiifncaa
open Go Go.RowKit
theorem pass_unfit (g : Gd) (m : Md) (p q : Int) (f : Fr) (t : Int) (w : World) (h : decide (Fit g m p q) = false) :
    Calls Try.prog 10 #[gv g, mv m, .int .i64 p, .int .i64 q, fv f, .int .i64 t] w fun e w' => e = .returned (.tuple #[gv g, .bool false, .int .i64 1]) ∧ Below w.heap.size w w' := by
  have HF := hid (fun w => (show Calls Try.prog 16 #[gv g, mv m, .int .i64 p, .int .i64 q] w fun e w' => e = .returned (.bool false) ∧ Below w.heap.size w w' from by have hf := fits_any g m p q w; rw [h] at hf; exact hf))
  clear h
  go_enter Try.func10, Try.ntmps10
  go_wp2_with (first
    | (refine wpList_svg (x := g) rfl (.tmp 12) (.tmp 34) rfl rfl rfl va5 ?_; intro w6 va6 b6 o6 _; have B6 : Hid (Below w.heap.size w w6) := hid (B5.out.trans (b6.mono B3.out.size)); clear b6 o6)
    | (refine wpList_ldg rfl (.tmp 6) rfl rfl vg5 ?_)
    | (go_at_call 16; (with_reducible refine (HF.out w4).mono ?_); rintro e w5 ⟨rfl, b5⟩; have va5 := va4.keep b5; have vm5 := vm4.keep b5; have vg5 := vg4.keep b5; have vf5 := vf4.keep b5; have B5 : Hid (Below w.heap.size w w5) := hid (B4.out.trans (b5.mono B4.out.size)); clear b5 vm4 vg4 vf4 va4)
    | (refine wpList_ldm rfl (.tmp 7) rfl rfl vm4 ?_)
    | (refine wpList_ldg rfl (.tmp 6) rfl rfl vg4 ?_)
    | (refine wpList_alg rfl rfl ?_; intro w4 va4 b4 s4; have vm4 := vm3.keep b4; have vg4 := vg3.keep b4; have vf4 := vf3.keep b4; have B4 : Hid (Below w.heap.size w w4) := hid (B3.out.trans (b4.mono B3.out.size)); have N4 : Hid (w.heap.size ≠ w3.heap.size) := hid (by have := vg3.lt; omega); clear b4 s4 vm3 vg3 vf3)
    | (refine wpList_boxf (x := f) rfl (.tmp 4) rfl rfl ?_; intro w3 vf3 b3 s3; have vm3 := vm2.keep b3; have vg3 := vg2.keep b3; have B3 : Hid (Below w.heap.size w w3) := hid (B2.out.trans (b3.mono B2.out.size)); clear b3 s3 vm2 vg2)
    | (refine wpList_boxm (x := m) rfl (.tmp 1) rfl rfl ?_; intro w2 vm2 b2 s2; have vg2 := vg1.keep b2; have B2 : Hid (Below w.heap.size w w2) := hid (b1.trans (b2.mono b1.size)); clear b2 s2 vg1)
    | (refine wpList_boxg (x := g) rfl (.tmp 0) rfl rfl ?_; intro w1 vg1 b1 s1))
  refine bodyPost_ret (w := w6) (results_g3 Try.results10 _ rfl va6) rfl ?_
  exact ⟨rfl, B6.out⟩
theorem pass_early (g : Gd) (m : Md) (p q : Int) (f : Fr) (t : Int) (w : World) (h : decide (Fit g m p q) = true) (ht : decide (t < 0) = true) :
    Calls Try.prog 10 #[gv g, mv m, .int .i64 p, .int .i64 q, fv f, .int .i64 t] w fun e w' => e = .returned (.tuple #[gv g, .bool false, .int .i64 1]) ∧ Below w.heap.size w w' := by
  have HF := hid (fun w => (show Calls Try.prog 16 #[gv g, mv m, .int .i64 p, .int .i64 q] w fun e w' => e = .returned (.bool true) ∧ Below w.heap.size w w' from by have hf := fits_any g m p q w; rw [h] at hf; exact hf))
  clear h
  go_enter Try.func10, Try.ntmps10
  go_wp2_with (first
    | (refine wpList_svg (x := g) rfl (.tmp 12) (.tmp 34) rfl rfl rfl va5 ?_; intro w6 va6 b6 o6 _; have B6 : Hid (Below w.heap.size w w6) := hid (B5.out.trans (b6.mono B3.out.size)); clear b6 o6)
    | (refine wpList_ldg rfl (.tmp 6) rfl rfl vg5 ?_)
    | (go_at_call 16; (with_reducible refine (HF.out w4).mono ?_); rintro e w5 ⟨rfl, b5⟩; have va5 := va4.keep b5; have vm5 := vm4.keep b5; have vg5 := vg4.keep b5; have vf5 := vf4.keep b5; have B5 : Hid (Below w.heap.size w w5) := hid (B4.out.trans (b5.mono B4.out.size)); clear b5 vm4 vg4 vf4 va4)
    | (refine wpList_ldm rfl (.tmp 7) rfl rfl vm4 ?_)
    | (refine wpList_ldg rfl (.tmp 6) rfl rfl vg4 ?_)
    | (refine wpList_alg rfl rfl ?_; intro w4 va4 b4 s4; have vm4 := vm3.keep b4; have vg4 := vg3.keep b4; have vf4 := vf3.keep b4; have B4 : Hid (Below w.heap.size w w4) := hid (B3.out.trans (b4.mono B3.out.size)); have N4 : Hid (w.heap.size ≠ w3.heap.size) := hid (by have := vg3.lt; omega); clear b4 s4 vm3 vg3 vf3)
    | (refine wpList_boxf (x := f) rfl (.tmp 4) rfl rfl ?_; intro w3 vf3 b3 s3; have vm3 := vm2.keep b3; have vg3 := vg2.keep b3; have B3 : Hid (Below w.heap.size w w3) := hid (B2.out.trans (b3.mono B2.out.size)); clear b3 s3 vm2 vg2)
    | (refine wpList_boxm (x := m) rfl (.tmp 1) rfl rfl ?_; intro w2 vm2 b2 s2; have vg2 := vg1.keep b2; have B2 : Hid (Below w.heap.size w w2) := hid (b1.trans (b2.mono b1.size)); clear b2 s2 vg1)
    | (refine wpList_boxg (x := g) rfl (.tmp 0) rfl rfl ?_; intro w1 vg1 b1 s1))
  refine bodyPost_ret (w := w6) (results_g3 Try.results10 _ rfl va6) rfl ?_
  exact ⟨rfl, B6.out⟩
theorem pass_late (g : Gd) (m : Md) (p q : Int) (f : Fr) (t : Int) (w : World) (h : decide (Fit g m p q) = true) (ht : decide (t < 0) = false) (hm : timeB t = false) :
    Calls Try.prog 10 #[gv g, mv m, .int .i64 p, .int .i64 q, fv f, .int .i64 t] w fun e w' => e = .returned (.tuple #[gv g, .bool false, .int .i64 1]) ∧ Below w.heap.size w w' := by
  have HF := hid (fun w => (show Calls Try.prog 16 #[gv g, mv m, .int .i64 p, .int .i64 q] w fun e w' => e = .returned (.bool true) ∧ Below w.heap.size w w' from by have hf := fits_any g m p q w; rw [h] at hf; exact hf))
  have HM := hid hm
  clear h hm
  go_enter Try.func10, Try.ntmps10
  go_wp2_with (first
    | (refine wpList_svg (x := g) rfl (.tmp 12) (.tmp 34) rfl rfl rfl va6 ?_; intro w7 va7 b7 o7 _; have B7 : Hid (Below w.heap.size w w7) := hid (B6.out.trans (b7.mono B3.out.size)); clear b7 o7)
    | (refine wpList_ldg rfl (.tmp 6) rfl rfl vg6 ?_)
    | (go_at_call 21; (refine (may_1 _ _ t false HM.out _ (by simp)).mono ?_); rintro e w6 ⟨rfl, e6⟩; have b6 : Below w5.heap.size w5 w6 := e6 ▸ ((Below.refl _ _).alloc (Nat.le_refl _) _); have va6 := va5.keep b6; have vm6 := vm5.keep b6; have vg6 := vg5.keep b6; have vf6 := vf5.keep b6; have B6 : Hid (Below w.heap.size w w6) := hid (B5.out.trans (b6.mono B5.out.size)); clear b6 e6 vm5 vg5 vf5 va5)
    | (go_at_call 16; (with_reducible refine (HF.out w4).mono ?_); rintro e w5 ⟨rfl, b5⟩; have va5 := va4.keep b5; have vm5 := vm4.keep b5; have vg5 := vg4.keep b5; have vf5 := vf4.keep b5; have B5 : Hid (Below w.heap.size w w5) := hid (B4.out.trans (b5.mono B4.out.size)); clear b5 vm4 vg4 vf4 va4)
    | (refine wpList_ldm rfl (.tmp 7) rfl rfl vm4 ?_)
    | (refine wpList_ldg rfl (.tmp 6) rfl rfl vg4 ?_)
    | (refine wpList_alg rfl rfl ?_; intro w4 va4 b4 s4; have vm4 := vm3.keep b4; have vg4 := vg3.keep b4; have vf4 := vf3.keep b4; have B4 : Hid (Below w.heap.size w w4) := hid (B3.out.trans (b4.mono B3.out.size)); have N4 : Hid (w.heap.size ≠ w3.heap.size) := hid (by have := vg3.lt; omega); clear b4 s4 vm3 vg3 vf3)
    | (refine wpList_boxf (x := f) rfl (.tmp 4) rfl rfl ?_; intro w3 vf3 b3 s3; have vm3 := vm2.keep b3; have vg3 := vg2.keep b3; have B3 : Hid (Below w.heap.size w w3) := hid (B2.out.trans (b3.mono B2.out.size)); clear b3 s3 vm2 vg2)
    | (refine wpList_boxm (x := m) rfl (.tmp 1) rfl rfl ?_; intro w2 vm2 b2 s2; have vg2 := vg1.keep b2; have B2 : Hid (Below w.heap.size w w2) := hid (b1.trans (b2.mono b1.size)); clear b2 s2 vg1)
    | (refine wpList_boxg (x := g) rfl (.tmp 0) rfl rfl ?_; intro w1 vg1 b1 s1))
  refine bodyPost_ret (w := w7) (results_g3 Try.results10 _ rfl va7) rfl ?_
  exact ⟨rfl, B7.out⟩
theorem pass_off (gk : Bool) (gs ga : Int) (m : Md) (p q : Int) (f : Fr) (t : Int) (w : World) (h : decide (Fit ⟨false, gk, gs, ga⟩ m p q) = true) (ht : decide (t < 0) = false) (hm : timeB t = true) :
    Calls Try.prog 10 #[gv ⟨false, gk, gs, ga⟩, mv m, .int .i64 p, .int .i64 q, fv f, .int .i64 t] w fun e w' => e = .returned (.tuple #[gv ⟨false, gk, gs, ga⟩, .bool true, .int .i64 0]) ∧ Below w.heap.size w w' := by
  have HF := hid (fun w => (show Calls Try.prog 16 #[gv ⟨false, gk, gs, ga⟩, mv m, .int .i64 p, .int .i64 q] w fun e w' => e = .returned (.bool true) ∧ Below w.heap.size w w' from by have hf := fits_any ⟨false, gk, gs, ga⟩ m p q w; rw [h] at hf; exact hf))
  have HM := hid hm
  clear h hm
  go_enter Try.func10, Try.ntmps10
  go_wp2_with (first
    | (refine wpList_svg (x := ⟨false, gk, gs, ga⟩) rfl (.tmp 12) (.tmp 38) rfl rfl rfl va6 ?_; intro w7 va7 b7 o7 _; have B7 : Hid (Below w.heap.size w w7) := hid (B6.out.trans (b7.mono B3.out.size)); clear b7 o7)
    | (refine wpList_ldg rfl (.tmp 6) rfl rfl vg6 ?_)
    | (go_at_call 21; (refine (may_1 _ _ t true HM.out _ (by simp)).mono ?_); rintro e w6 ⟨rfl, e6⟩; have b6 : Below w5.heap.size w5 w6 := e6 ▸ ((Below.refl _ _).alloc (Nat.le_refl _) _); have va6 := va5.keep b6; have vm6 := vm5.keep b6; have vg6 := vg5.keep b6; have vf6 := vf5.keep b6; have B6 : Hid (Below w.heap.size w w6) := hid (B5.out.trans (b6.mono B5.out.size)); clear b6 e6 vm5 vg5 vf5 va5; have c0 : w6.cell? ⟨w.heap.size, 0, none⟩ = some (.bool false) := vg6.c0)
    | (go_at_call 16; (with_reducible refine (HF.out w4).mono ?_); rintro e w5 ⟨rfl, b5⟩; have va5 := va4.keep b5; have vm5 := vm4.keep b5; have vg5 := vg4.keep b5; have vf5 := vf4.keep b5; have B5 : Hid (Below w.heap.size w w5) := hid (B4.out.trans (b5.mono B4.out.size)); clear b5 vm4 vg4 vf4 va4)
    | (refine wpList_ldm rfl (.tmp 7) rfl rfl vm4 ?_)
    | (refine wpList_ldg rfl (.tmp 6) rfl rfl vg4 ?_)
    | (refine wpList_alg rfl rfl ?_; intro w4 va4 b4 s4; have vm4 := vm3.keep b4; have vg4 := vg3.keep b4; have vf4 := vf3.keep b4; have B4 : Hid (Below w.heap.size w w4) := hid (B3.out.trans (b4.mono B3.out.size)); have N4 : Hid (w.heap.size ≠ w3.heap.size) := hid (by have := vg3.lt; omega); clear b4 s4 vm3 vg3 vf3)
    | (refine wpList_boxf (x := f) rfl (.tmp 4) rfl rfl ?_; intro w3 vf3 b3 s3; have vm3 := vm2.keep b3; have vg3 := vg2.keep b3; have B3 : Hid (Below w.heap.size w w3) := hid (B2.out.trans (b3.mono B2.out.size)); clear b3 s3 vm2 vg2)
    | (refine wpList_boxm (x := m) rfl (.tmp 1) rfl rfl ?_; intro w2 vm2 b2 s2; have vg2 := vg1.keep b2; have B2 : Hid (Below w.heap.size w w2) := hid (b1.trans (b2.mono b1.size)); clear b2 s2 vg1)
    | (refine wpList_boxg (x := ⟨false, gk, gs, ga⟩) rfl (.tmp 0) rfl rfl ?_; intro w1 vg1 b1 s1))
  refine bodyPost_ret (w := w7) (results_g3 Try.results10 _ rfl va7) rfl ?_
  exact ⟨rfl, B7.out⟩
set_option maxHeartbeats 1000000 in
theorem pass_no (gk : Bool) (gs ga n s l fr d p q : Int) (f : Fr) (t L b S : Int) (w : World) (h : decide (Fit ⟨true, gk, gs, ga⟩ ⟨n, s, l, fr, d⟩ p q) = true) (ht : decide (t < 0) = false) (hm : timeB t = true)
    (hL : l * p = L) (L0 : 0 ≤ L) (L1 : L ≤ 1048576000000000) (hb : t - L = b) (t0 : 0 ≤ t) (t1 : t ≤ 1152921504606846976) (HSl : ∀ w : World, Calls Try.prog 22 #[gv ⟨true, gk, gs, ga⟩, mv ⟨n, s, l, fr, d⟩, .int .i64 p, .int .i64 q, fv f, .int .i64 b] w (SlP S false w)) :
    Calls Try.prog 10 #[gv ⟨true, gk, gs, ga⟩, mv ⟨n, s, l, fr, d⟩, .int .i64 p, .int .i64 q, fv f, .int .i64 t] w fun e w' => e = .returned (.tuple #[gv ⟨true, gk, gs, ga⟩, .bool false, .int .i64 0]) ∧ Below w.heap.size w w' := by
  have HF := hid (fun w => (show Calls Try.prog 16 #[gv ⟨true, gk, gs, ga⟩, mv ⟨n, s, l, fr, d⟩, .int .i64 p, .int .i64 q] w fun e w' => e = .returned (.bool true) ∧ Below w.heap.size w w' from by have hf := fits_any ⟨true, gk, gs, ga⟩ ⟨n, s, l, fr, d⟩ p q w; rw [h] at hf; exact hf))
  have HM := hid hm
  have HL := hid (fun w => ticks_any l p L w (wrap_in hL (by omega) (by omega)))
  have HS := hid HSl
  clear h hm hL HSl
  go_enter Try.func10, Try.ntmps10
  go_wp2_with (first
    | (refine wpList_svg (x := ⟨true, gk, gs, ga⟩) rfl (.tmp 12) (.tmp 57) rfl rfl rfl va7 ?_; intro w8 va8 b8 o8 _; have B8 : Hid (Below w.heap.size w w8) := hid (B7.out.trans (b8.mono B3.out.size)); clear b8 o8)
    | (refine wpList_ldg rfl (.tmp 6) rfl rfl vg7 ?_)
    | (go_at_call 22; (with_reducible refine (HS.out w6).mono ?_); rintro e w7 ⟨k, rfl, hB, b7⟩; have va7 := va6.keep b7; have vg7 := vg6.keep b7; have B7 : Hid (Below w.heap.size w w7) := hid (B6.out.trans (b7.mono B6.out.size)); have HB := hid hB; clear b7 hB vm6 vg6 vf6 va6)
    | (refine wpList_ldm rfl (.tmp 7) rfl rfl vm6 ?_)
    | (refine wpList_ldg rfl (.tmp 6) rfl rfl vg6 ?_)
    | (refine wpList_ldf rfl (.tmp 10) rfl rfl vf6 ?_)
    | (go_at_call 19; (with_reducible refine (HL.out w6).mono ?_); rintro e w' ⟨rfl, e5⟩; rw [e5]; clear e5 w')
    | (go_at_call 21; (refine (may_1 _ _ t true HM.out _ (by simp)).mono ?_); rintro e w6 ⟨rfl, e6⟩; have b6 : Below w5.heap.size w5 w6 := e6 ▸ ((Below.refl _ _).alloc (Nat.le_refl _) _); have va6 := va5.keep b6; have vm6 := vm5.keep b6; have vg6 := vg5.keep b6; have vf6 := vf5.keep b6; have B6 : Hid (Below w.heap.size w w6) := hid (B5.out.trans (b6.mono B5.out.size)); clear b6 e6 vm5 vg5 vf5 va5; have c0 : w6.cell? ⟨w.heap.size, 0, none⟩ = some (.bool true) := vg6.c0; have d2 : w6.cell? ⟨w1.heap.size, 2, none⟩ = some (.int .i64 l) := vm6.c2)
    | (go_at_call 16; (with_reducible refine (HF.out w4).mono ?_); rintro e w5 ⟨rfl, b5⟩; have va5 := va4.keep b5; have vm5 := vm4.keep b5; have vg5 := vg4.keep b5; have vf5 := vf4.keep b5; have B5 : Hid (Below w.heap.size w w5) := hid (B4.out.trans (b5.mono B4.out.size)); clear b5 vm4 vg4 vf4 va4)
    | (refine wpList_ldm rfl (.tmp 7) rfl rfl vm4 ?_)
    | (refine wpList_ldg rfl (.tmp 6) rfl rfl vg4 ?_)
    | (refine wpList_alg rfl rfl ?_; intro w4 va4 b4 s4; have vm4 := vm3.keep b4; have vg4 := vg3.keep b4; have vf4 := vf3.keep b4; have B4 : Hid (Below w.heap.size w w4) := hid (B3.out.trans (b4.mono B3.out.size)); have N4 : Hid (w.heap.size ≠ w3.heap.size) := hid (by have := vg3.lt; omega); clear b4 s4 vm3 vg3 vf3)
    | (refine wpList_boxf (x := f) rfl (.tmp 4) rfl rfl ?_; intro w3 vf3 b3 s3; have vm3 := vm2.keep b3; have vg3 := vg2.keep b3; have B3 : Hid (Below w.heap.size w w3) := hid (B2.out.trans (b3.mono B2.out.size)); clear b3 s3 vm2 vg2)
    | (refine wpList_boxm (x := ⟨n, s, l, fr, d⟩) rfl (.tmp 1) rfl rfl ?_; intro w2 vm2 b2 s2; have vg2 := vg1.keep b2; have B2 : Hid (Below w.heap.size w w2) := hid (b1.trans (b2.mono b1.size)); clear b2 s2 vg1)
    | (refine wpList_boxg (x := ⟨true, gk, gs, ga⟩) rfl (.tmp 0) rfl rfl ?_; intro w1 vg1 b1 s1))
  refine bodyPost_ret (w := w8) (results_g3 Try.results10 _ rfl va8) rfl ?_
  exact ⟨rfl, B8.out⟩
set_option maxHeartbeats 1000000 in
theorem pass_yes (gk : Bool) (gs ga n s l fr d p q : Int) (f : Fr) (t L b S : Int) (w : World) (h : decide (Fit ⟨true, gk, gs, ga⟩ ⟨n, s, l, fr, d⟩ p q) = true) (ht : decide (t < 0) = false) (hm : timeB t = true)
    (hL : l * p = L) (L0 : 0 ≤ L) (L1 : L ≤ 1048576000000000) (hb : t - L = b) (t0 : 0 ≤ t) (t1 : t ≤ 1152921504606846976) (HSl : ∀ w : World, Calls Try.prog 22 #[gv ⟨true, gk, gs, ga⟩, mv ⟨n, s, l, fr, d⟩, .int .i64 p, .int .i64 q, fv f, .int .i64 b] w (SlP S true w)) :
    Calls Try.prog 10 #[gv ⟨true, gk, gs, ga⟩, mv ⟨n, s, l, fr, d⟩, .int .i64 p, .int .i64 q, fv f, .int .i64 t] w fun e w' => e = .returned (.tuple #[gv ⟨true, true, S, b⟩, .bool true, .int .i64 0]) ∧ Below w.heap.size w w' := by
  have HF := hid (fun w => (show Calls Try.prog 16 #[gv ⟨true, gk, gs, ga⟩, mv ⟨n, s, l, fr, d⟩, .int .i64 p, .int .i64 q] w fun e w' => e = .returned (.bool true) ∧ Below w.heap.size w w' from by have hf := fits_any ⟨true, gk, gs, ga⟩ ⟨n, s, l, fr, d⟩ p q w; rw [h] at hf; exact hf))
  have HM := hid hm
  have HL := hid (fun w => ticks_any l p L w (wrap_in hL (by omega) (by omega)))
  have HS := hid HSl
  clear h hm hL HSl
  go_enter Try.func10, Try.ntmps10
  go_wp2_with (first
    | (refine wpList_svg (x := ⟨true, true, k, b⟩) rfl (.tmp 12) (.tmp 60) rfl rfl rfl va7 ?_; intro w8 va8 b8 o8 _; have B8 : Hid (Below w.heap.size w w8) := hid (B7.out.trans (b8.mono B3.out.size)); clear b8 o8)
    | (refine wpList_ldg rfl (.tmp 6) rfl rfl vg7 ?_)
    | (go_at_call 22; (with_reducible refine (HS.out w6).mono ?_); rintro e w7 ⟨k, rfl, hB, b7⟩; have va7 := va6.keep b7; have vg7 := vg6.keep b7; have B7 : Hid (Below w.heap.size w w7) := hid (B6.out.trans (b7.mono B6.out.size)); have HB := hid hB; clear b7 hB vm6 vg6 vf6 va6)
    | (refine wpList_ldm rfl (.tmp 7) rfl rfl vm6 ?_)
    | (refine wpList_ldg rfl (.tmp 6) rfl rfl vg6 ?_)
    | (refine wpList_ldf rfl (.tmp 10) rfl rfl vf6 ?_)
    | (go_at_call 19; (with_reducible refine (HL.out w6).mono ?_); rintro e w' ⟨rfl, e5⟩; rw [e5]; clear e5 w')
    | (go_at_call 21; (refine (may_1 _ _ t true HM.out _ (by simp)).mono ?_); rintro e w6 ⟨rfl, e6⟩; have b6 : Below w5.heap.size w5 w6 := e6 ▸ ((Below.refl _ _).alloc (Nat.le_refl _) _); have va6 := va5.keep b6; have vm6 := vm5.keep b6; have vg6 := vg5.keep b6; have vf6 := vf5.keep b6; have B6 : Hid (Below w.heap.size w w6) := hid (B5.out.trans (b6.mono B5.out.size)); clear b6 e6 vm5 vg5 vf5 va5; have c0 : w6.cell? ⟨w.heap.size, 0, none⟩ = some (.bool true) := vg6.c0; have d2 : w6.cell? ⟨w1.heap.size, 2, none⟩ = some (.int .i64 l) := vm6.c2)
    | (go_at_call 16; (with_reducible refine (HF.out w4).mono ?_); rintro e w5 ⟨rfl, b5⟩; have va5 := va4.keep b5; have vm5 := vm4.keep b5; have vg5 := vg4.keep b5; have vf5 := vf4.keep b5; have B5 : Hid (Below w.heap.size w w5) := hid (B4.out.trans (b5.mono B4.out.size)); clear b5 vm4 vg4 vf4 va4)
    | (refine wpList_ldm rfl (.tmp 7) rfl rfl vm4 ?_)
    | (refine wpList_ldg rfl (.tmp 6) rfl rfl vg4 ?_)
    | (refine wpList_alg rfl rfl ?_; intro w4 va4 b4 s4; have vm4 := vm3.keep b4; have vg4 := vg3.keep b4; have vf4 := vf3.keep b4; have B4 : Hid (Below w.heap.size w w4) := hid (B3.out.trans (b4.mono B3.out.size)); have N4 : Hid (w.heap.size ≠ w3.heap.size) := hid (by have := vg3.lt; omega); clear b4 s4 vm3 vg3 vf3)
    | (refine wpList_boxf (x := f) rfl (.tmp 4) rfl rfl ?_; intro w3 vf3 b3 s3; have vm3 := vm2.keep b3; have vg3 := vg2.keep b3; have B3 : Hid (Below w.heap.size w w3) := hid (B2.out.trans (b3.mono B2.out.size)); clear b3 s3 vm2 vg2)
    | (refine wpList_boxm (x := ⟨n, s, l, fr, d⟩) rfl (.tmp 1) rfl rfl ?_; intro w2 vm2 b2 s2; have vg2 := vg1.keep b2; have B2 : Hid (Below w.heap.size w w2) := hid (b1.trans (b2.mono b1.size)); clear b2 s2 vg1)
    | (refine wpList_boxg (x := ⟨true, gk, gs, ga⟩) rfl (.tmp 0) rfl rfl ?_; intro w1 vg1 b1 s1))
  refine bodyPost_ret (w := w8) (results_g3 Try.results10 _ rfl va8) rfl ?_
  exact ⟨by rw [(HB.out trivial : k = S)]; rfl, B8.out⟩
/-- What passes: whether, and what the guardian is then. -/
def psI (g : Gd) (m : Md) (p q : Int) (f : Fr) (t : Int) : Bool := !g.o || slB g m p q f (t - m.l * p)
def psG (g : Gd) (m : Md) (p q : Int) (f : Fr) (t : Int) : Gd := if g.o = true ∧ slB g m p q f (t - m.l * p) = true then ⟨true, true, slS g m p f (t - m.l * p), t - m.l * p⟩ else g
theorem pass_bad (g : Gd) (m : Md) (p q : Int) (f : Fr) (t : Int) (w : World) (h : ¬ (Fit g m p q ∧ 0 ≤ t ∧ t ≤ 1152921504606846976)) :
    Calls Try.prog 10 #[gv g, mv m, .int .i64 p, .int .i64 q, fv f, .int .i64 t] w fun e w' => e = .returned (.tuple #[gv g, .bool false, .int .i64 1]) ∧ Below w.heap.size w w' := by
  by_cases hf : Fit g m p q
  · by_cases ht : t < 0
    · exact pass_early g m p q f t w (decide_eq_true hf) (decide_eq_true ht)
    · exact pass_late g m p q f t w (decide_eq_true hf) (decide_eq_false ht) (timeB_no (by
        by_cases h2 : t ≤ 1152921504606846976
        · exact absurd ⟨hf, by omega, h2⟩ h
        · omega))
  · exact pass_unfit g m p q f t w (decide_eq_false hf)
theorem pass_any (g : Gd) (m : Md) (p q : Int) (f : Fr) (t : Int) (w : World) (g1 : 0 ≤ g.s) (h : Fit g m p q) (t0 : 0 ≤ t) (t1 : t ≤ 1152921504606846976) :
    Calls Try.prog 10 #[gv g, mv m, .int .i64 p, .int .i64 q, fv f, .int .i64 t] w fun e w' => e = .returned (.tuple #[gv (psG g m p q f t), .bool (psI g m p q f t), .int .i64 0]) ∧ Below w.heap.size w w' := by
  have hT := timeB_yes (n := t) (by omega) t1
  obtain ⟨o, k, s, a⟩ := g
  obtain ⟨n, ms, l, fr, d⟩ := m
  cases o with
  | false =>
    rw [show psG ⟨false, k, s, a⟩ ⟨n, ms, l, fr, d⟩ p q f t = ⟨false, k, s, a⟩ from if_neg (fun hh => by cases hh.1), show psI ⟨false, k, s, a⟩ ⟨n, ms, l, fr, d⟩ p q f t = true by unfold psI; rfl]
    exact pass_off k s a _ p q f t w (decide_eq_true h) (decide_eq_false (by omega)) hT
  | true =>
    obtain ⟨hg, hm, p1, p2, _⟩ := id h
    obtain ⟨o1, o2, o3, o4, o5, o6, o7, o8, o9⟩ := id hm
    simp only at o1 o2 o3 o4 o5 o6 o7 o8 o9
    obtain ⟨L0, L1⟩ := win_in o5 (by omega) o4 p1 p2
    have HS := fun w => slotOf_any ⟨true, k, s, a⟩ ⟨n, ms, l, fr, d⟩ p q f (t - l * p) w g1 hg ⟨hm, p1, p2⟩ (by omega) (by omega)
    cases hB : slB ⟨true, k, s, a⟩ ⟨n, ms, l, fr, d⟩ p q f (t - l * p) with
    | false =>
      rw [show psG ⟨true, k, s, a⟩ ⟨n, ms, l, fr, d⟩ p q f t = ⟨true, k, s, a⟩ from if_neg (fun hh => by have := hh.2; simp only at this; rw [hB] at this; cases this), show psI ⟨true, k, s, a⟩ ⟨n, ms, l, fr, d⟩ p q f t = false by unfold psI; simp only [hB]; rfl]
      rw [hB] at HS
      exact pass_no k s a n ms l fr d p q f t (l * p) (t - l * p) _ w (decide_eq_true h) (decide_eq_false (by omega)) hT rfl (by omega) (by omega) rfl t0 t1 HS
    | true =>
      rw [show psG ⟨true, k, s, a⟩ ⟨n, ms, l, fr, d⟩ p q f t = ⟨true, true, slS ⟨true, k, s, a⟩ ⟨n, ms, l, fr, d⟩ p f (t - l * p), t - l * p⟩ from if_pos ⟨rfl, hB⟩, show psI ⟨true, k, s, a⟩ ⟨n, ms, l, fr, d⟩ p q f t = true by unfold psI; simp only [hB]; rfl]
      rw [hB] at HS
      exact pass_yes k s a n ms l fr d p q f t (l * p) (t - l * p) _ w (decide_eq_true h) (decide_eq_false (by omega)) hT rfl (by omega) (by omega) rfl t0 t1 HS
end Go.Proofs.Ytpncbfhbiifncaa
