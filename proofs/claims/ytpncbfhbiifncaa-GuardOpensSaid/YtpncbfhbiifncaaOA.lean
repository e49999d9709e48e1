/-
  The walk of GuardOpens: what it does where it is not told when it opens.
-/
import Derived.Test.YtpncbfhbiifncaaWC
import Derived.Test.YtpncbfhbiifncaaQ
import Derived.Test.YtpncbfhbiifncaaSO
namespace Go.Proofs.Ytpncbfhbiifncaa
open Go Go.RowKit
set_option maxHeartbeats 1000000 in
set_option maxRecDepth 100000 in
theorem opens_err (o k : Bool) (s a n ms l f d p q q2 at_ x y e : Int) (w : World) (H : ∀ w : World, Calls Try.prog 8 #[gv ⟨true, k, s, a⟩, mv ⟨n, ms, l, f, d⟩, .int .i64 p, .int .i64 q] w fun r w' => r = .returned (.tuple #[.int .i64 x, .int .i64 y, .int .i64 e]) ∧ Below w.heap.size w w') (he : e = 1 ∨ e = 2 ∨ (e = 0 ∧ decide (x < 1) = true)) : Calls Try.prog 3 #[gv ⟨o, k, s, a⟩, mv ⟨n, ms, l, f, d⟩, .int .i64 p, .int .i64 q, .int .i64 q2, .int .i64 at_] w fun e w' => e = .returned (.bool true) ∧ Below w.heap.size w w' := by
  have HO := hid H
  clear H
  rcases he with rfl | rfl | ⟨rfl, h1⟩
  all_goals
    go_enter Try.func3, Try.ntmps3
    go_wp2_with (first
      | (go_at_call 8; (with_reducible refine (HO.out w4).mono ?_); rintro e w5 ⟨rfl, b5⟩; have vg5 := vg4.keep b5; have vm5 := vm4.keep b5; have B5 : Hid (Below w.heap.size w w5) := hid (B4.out.trans (b5.mono B4.out.size)); clear b5 vg4 vm4)
      | (refine wpList_ldg2 (.tmp 6) rfl rfl vg4 rfl ?_)
      | (refine wpList_ldm2 (.tmp 7) rfl rfl vm4 rfl ?_)
      | (refine wpList_son rfl (.tmp 33) _ rfl rfl rfl vg3 ?_; intro w4 vg4 b4 o4 _; replace vg4 : VarG w4 w.heap.size ⟨true, k, s, a⟩ := vg4; have vm4 := vm3.other o4 Ngm.out.symm; have B4 : Hid (Below w.heap.size w w4) := hid (B3.out.trans (b4.mono (Nat.le_refl _))); clear b4 o4 vm3 vg3)
      | (go_at_call 7; (with_reducible refine (live_any w2).mono ?_); rintro e w3 ⟨rfl, b3⟩; have vg3 := vg2.keep b3; have vm3 := vm2.keep b3; have B3 : Hid (Below w.heap.size w w3) := hid (B2.out.trans (b3.mono B2.out.size)); clear b3 vg2 vm2)
      | (refine wpList_boxm (x := ⟨n, ms, l, f, d⟩) rfl (.tmp 1) rfl rfl ?_; intro w2 vm2 b2 s2; have vg2 := vg1.keep b2; have B2 : Hid (Below w.heap.size w w2) := hid (B1.out.trans (b2.mono B1.out.size)); have Ngm : Hid (w.heap.size ≠ w1.heap.size) := hid (by have := vg1.lt; omega); clear b2 s2 vg1)
      | (refine wpList_boxg (x := ⟨o, k, s, a⟩) rfl (.tmp 0) rfl rfl ?_; intro w1 vg1 b1 s1; have B1 : Hid (Below w.heap.size w w1) := hid b1; clear b1 s1))
    go_ret
    exact ⟨rfl, B5.out⟩
set_option maxHeartbeats 1000000 in
set_option maxRecDepth 100000 in
theorem opens_end (o k : Bool) (s a n ms l f d p q q2 at_ x y : Int) (w : World) (H : ∀ w : World, Calls Try.prog 8 #[gv ⟨true, k, s, a⟩, mv ⟨n, ms, l, f, d⟩, .int .i64 p, .int .i64 q] w fun r w' => r = .returned (.tuple #[.int .i64 x, .int .i64 y, .int .i64 0]) ∧ Below w.heap.size w w') (h1 : decide (x < 1) = false) (h2 : decide (y < x) = false) (hm : timeB (y + 1) = false) (y0 : -1152921504606846976 ≤ y) (y1 : y ≤ 1152921504606846976) : Calls Try.prog 3 #[gv ⟨o, k, s, a⟩, mv ⟨n, ms, l, f, d⟩, .int .i64 p, .int .i64 q, .int .i64 q2, .int .i64 at_] w fun e w' => e = .returned (.bool true) ∧ Below w.heap.size w w' := by
  have HO := hid H
  have HM := hid hm
  clear H hm
  go_enter Try.func3, Try.ntmps3
  go_wp2_with (first
    | (go_at_call 9; (refine (rmay_1 _ _ (y + 1) false HM.out _ (by simp)).mono ?_); rintro e w6 ⟨rfl, e6⟩; have b6 : Below w5.heap.size w5 w6 := e6 ▸ ((Below.refl _ _).alloc (Nat.le_refl _) _); have vg6 := vg5.keep b6; have vm6 := vm5.keep b6; have B6 : Hid (Below w.heap.size w w6) := hid (B5.out.trans (b6.mono B5.out.size)); clear e6; clear b6 vg5 vm5)
    | (go_at_call 8; (with_reducible refine (HO.out w4).mono ?_); rintro e w5 ⟨rfl, b5⟩; have vg5 := vg4.keep b5; have vm5 := vm4.keep b5; have B5 : Hid (Below w.heap.size w w5) := hid (B4.out.trans (b5.mono B4.out.size)); clear b5 vg4 vm4)
    | (refine wpList_ldg2 (.tmp 6) rfl rfl vg4 rfl ?_)
    | (refine wpList_ldm2 (.tmp 7) rfl rfl vm4 rfl ?_)
    | (refine wpList_son rfl (.tmp 33) _ rfl rfl rfl vg3 ?_; intro w4 vg4 b4 o4 _; replace vg4 : VarG w4 w.heap.size ⟨true, k, s, a⟩ := vg4; have vm4 := vm3.other o4 Ngm.out.symm; have B4 : Hid (Below w.heap.size w w4) := hid (B3.out.trans (b4.mono (Nat.le_refl _))); clear b4 o4 vm3 vg3)
    | (go_at_call 7; (with_reducible refine (live_any w2).mono ?_); rintro e w3 ⟨rfl, b3⟩; have vg3 := vg2.keep b3; have vm3 := vm2.keep b3; have B3 : Hid (Below w.heap.size w w3) := hid (B2.out.trans (b3.mono B2.out.size)); clear b3 vg2 vm2)
    | (refine wpList_boxm (x := ⟨n, ms, l, f, d⟩) rfl (.tmp 1) rfl rfl ?_; intro w2 vm2 b2 s2; have vg2 := vg1.keep b2; have B2 : Hid (Below w.heap.size w w2) := hid (B1.out.trans (b2.mono B1.out.size)); have Ngm : Hid (w.heap.size ≠ w1.heap.size) := hid (by have := vg1.lt; omega); clear b2 s2 vg1)
    | (refine wpList_boxg (x := ⟨o, k, s, a⟩) rfl (.tmp 0) rfl rfl ?_; intro w1 vg1 b1 s1; have B1 : Hid (Below w.heap.size w w1) := hid b1; clear b1 s1))
  go_ret
  exact ⟨rfl, B6.out⟩
end Go.Proofs.Ytpncbfhbiifncaa
