/-
  The chapter's example (live): it comes out true.
-/
import Derived.Test.YtldegdhpblkhhaaT
namespace Go.Proofs.Ytldegdhpblkhhaa
open Go Go.RowKit
theorem bare_live : bare ⟨1, 3, 300, 9⟩ = [161, 1, 3, 130, 44, 0, 9] := by decide +kernel
theorem live_any (w : World) : Calls Try.prog 8 #[] w fun e w' => e = .returned (.bool true) ∧ Below w.heap.size w w' := by
  have HW := hid (write_ok ⟨1, 3, 300, 9⟩ w (by decide) (by decide))
  have HO : Hid (Oct [161, 1, 3, 130, 44, 0, 9]) := hid (by rw [← bare_live]; exact bare_oct _ (by decide))
  have HS : Hid (sealedF ⟨1, 3, 300, 9⟩ = [161, 1, 3, 130, 44, 0, 9] ++ tail24 (bare ⟨1, 3, 300, 9⟩)) := hid (by unfold sealedF; rw [bare_live])
  go_enter Try.func8, Try.ntmps8
  go_wp2_with fail
  refine (HW.out).mono ?_
  rintro e w1 ⟨A1, n1, c1, rfl, own1, b1⟩
  rw [HS.out] at own1
  have hn : n1 = 10 := by have := own1.len; rw [bv_len, List.length_append] at this; simp [tail24] at this; omega
  subst hn
  have hc := own1.cap
  obtain ⟨g, rfl, _, _⟩ := own1.at_ (by omega)
  have HR : Hid (Row w1 w1.heap.size (some ⟨g, 0, none⟩) 7 (bv [161, 1, 3, 130, 44, 0, 9])) := hid (by
    have := own1.row.take (show 7 ≤ 10 by omega)
    rw [bv_take] at this; exact this)
  have B1 := hid b1
  clear own1 b1 HS HW
  go_wp2_with fail
  refine (same_any _ _ 7 c1 7 7 w1.heap.size (w1.heap.size + 1) [161, 1, 3, 130, 44, 0, 9] [161, 1, 3, 130, 44, 0, 9] true _ (HR.out.alloc (Nat.le_refl _) _) (Row.laid w1 5 (bv [161, 1, 3, 130, 44, 0, 9])) HO.out HO.out (by simp)).mono ?_
  rintro e w' ⟨rfl, rfl⟩
  go_wp2_with fail
  go_ret
  exact ⟨rfl, B1.out.alloc B1.out.size _⟩
end Go.Proofs.Ytldegdhpblkhhaa
