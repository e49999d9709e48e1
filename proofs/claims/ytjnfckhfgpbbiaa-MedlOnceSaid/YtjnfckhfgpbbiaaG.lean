/-
  The chapter's example (live): it comes out true.
-/
import Derived.Test.YtjnfckhfgpbbiaaD
namespace Go.Proofs.Ytjnfckhfgpbbiaa
open Go Go.RowKit
theorem four_any (w : World) : Calls Try.prog 20 #[] w fun e w' => e = .returned (mv ⟨4, 100, 20, 30, 10⟩) ∧ Below w.heap.size w w' := by
  go_enter Try.func20, Try.ntmps20
  go_wp2_with (first
    | (refine wpList_svm (x := ⟨4, 100, 20, 30, 10⟩) rfl (.tmp 0) (.tmp 1) rfl rfl rfl v1 ?_; intro w2 v2 b2 o2 _; have B2 : Hid (Below w.heap.size w w2) := hid (b1.trans b2))
    | (refine wpList_alm rfl rfl ?_; intro w1 v1 b1 s1))
  refine bodyPost_ret (w := w2) (results_1 Try.results20 _ rfl v2) rfl ?_
  exact ⟨rfl, B2.out⟩
theorem live_any (w : World) : Calls Try.prog 8 #[] w fun e w' => e = .returned (.bool true) ∧ Below w.heap.size w w' := by
  have HO := hid (fun w => own_ok 4 100 20 30 10 6 2 w (by decide) (by decide) (by decide) (by decide))
  have HB := hid (fun w => begin_ok 4 100 20 30 10 6 600 w (by decide) (by decide) (by decide) (by decide))
  go_enter Try.func8, Try.ntmps8
  go_wp2_with (first
    | (go_at_call 18; (with_reducible refine (HB.out w3).mono ?_); rintro e w4 ⟨rfl, b4⟩; have B4 : Hid (Below w.heap.size w w4) := hid (B3.out.trans (b4.mono B3.out.size)))
    | (go_at_call 20; (with_reducible refine (four_any w2).mono ?_); rintro e w3 ⟨rfl, b3⟩; have B3 : Hid (Below w.heap.size w w3) := hid (B2.out.trans (b3.mono B2.out.size)))
    | (go_at_call 16; (with_reducible refine (HO.out w1).mono ?_); rintro e w2 ⟨rfl, b2⟩; have B2 : Hid (Below w.heap.size w w2) := hid (b1.trans (b2.mono b1.size)))
    | (go_at_call 20; (with_reducible refine (four_any w).mono ?_); rintro e w1 ⟨rfl, b1⟩))
  go_ret
  exact ⟨rfl, B4.out⟩
end Go.Proofs.Ytjnfckhfgpbbiaa
