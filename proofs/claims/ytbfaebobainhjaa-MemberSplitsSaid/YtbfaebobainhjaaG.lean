/-
  The chapter's example (live): it comes out true.
-/
import Derived.Test.YtbfaebobainhjaaJ
namespace Go.Proofs.Ytbfaebobainhjaa
open Go Go.RowKit
theorem four_any (w : World) : Calls Try.prog 26 #[] w fun e w' => e = .returned (mv ⟨4, 100, 20, 30, 10⟩) ∧ Below w.heap.size w w' := by
  go_enter Try.func26, Try.ntmps26
  go_wp2_with (first
    | (refine wpList_svm (x := ⟨4, 100, 20, 30, 10⟩) rfl (.tmp 0) (.tmp 1) rfl rfl rfl v1 ?_; intro w2 v2 b2 o2 _; have B2 : Hid (Below w.heap.size w w2) := hid (b1.trans b2))
    | (refine wpList_alm rfl rfl ?_; intro w1 v1 b1 s1))
  refine bodyPost_ret (w := w2) (results_1 Try.results26 _ rfl v2) rfl ?_
  exact ⟨rfl, B2.out⟩
theorem live_7 (w : World) : Calls Try.prog 11 #[mv ⟨4, 100, 20, 30, 10⟩, .int .i64 0, .int .u16 3, .int .u64 2, fv ⟨1, 2, 2, 7⟩] w (RetO 1 0 w) := by
  have h := judge_any ⟨4, 100, 20, 30, 10⟩ 0 2 3 ⟨1, 2, 2, 7⟩ w (by decide) (by decide)
  rw [show judV ⟨4, 100, 20, 30, 10⟩ 0 2 3 ⟨1, 2, 2, 7⟩ = 1 by decide, show judE ⟨4, 100, 20, 30, 10⟩ 0 2 ⟨1, 2, 2, 7⟩ = 0 by decide] at h
  exact h
theorem live_6 (w : World) : Calls Try.prog 11 #[mv ⟨4, 100, 20, 30, 10⟩, .int .i64 0, .int .u16 3, .int .u64 2, fv ⟨1, 2, 2, 6⟩] w (RetO 2 0 w) := by
  have h := judge_any ⟨4, 100, 20, 30, 10⟩ 0 2 3 ⟨1, 2, 2, 6⟩ w (by decide) (by decide)
  rw [show judV ⟨4, 100, 20, 30, 10⟩ 0 2 3 ⟨1, 2, 2, 6⟩ = 2 by decide, show judE ⟨4, 100, 20, 30, 10⟩ 0 2 ⟨1, 2, 2, 6⟩ = 0 by decide] at h
  exact h
theorem live_any (w : World) : Calls Try.prog 10 #[] w fun e w' => e = .returned (.bool true) ∧ Below w.heap.size w w' := by
  have H7 := hid live_7
  have H6 := hid live_6
  go_enter Try.func10, Try.ntmps10
  go_wp2_with (first
    | (go_at_call 11; (with_reducible refine (H6.out w3).mono ?_); rintro e w4 ⟨rfl, b4⟩; have B4 : Hid (Below w.heap.size w w4) := hid (B3.out.trans (b4.mono B3.out.size)))
    | (go_at_call 11; refine (H6.out w3).mono ?_; rintro e w4 ⟨rfl, b4⟩; have B4 : Hid (Below w.heap.size w w4) := hid (B3.out.trans (b4.mono B3.out.size)))
    | (go_at_call 26; (with_reducible refine (four_any w2).mono ?_); rintro e w3 ⟨rfl, b3⟩; have B3 : Hid (Below w.heap.size w w3) := hid (B2.out.trans (b3.mono B2.out.size)))
    | (go_at_call 11; refine (H7.out w1).mono ?_; rintro e w2 ⟨rfl, b2⟩; have B2 : Hid (Below w.heap.size w w2) := hid (b1.trans (b2.mono b1.size)))
    | (go_at_call 26; (with_reducible refine (four_any w).mono ?_); rintro e w1 ⟨rfl, b1⟩))
  go_ret
  exact ⟨rfl, B4.out⟩
end Go.Proofs.Ytbfaebobainhjaa
