/-
  The walk of WireOrders.
-/
import Derived.Test.YtldegdhpblkhhaaWD
namespace Go.Proofs.Ytldegdhpblkhhaa
open Go Go.RowKit

theorem varies1 (x : Nat) : varies [x] = vary x := by simp [varies]

/-- A number that varies, behind nothing: as a call of Vary with a new slice of one. -/
theorem vary_one (x g : Nat) (w : World) (hg : g = w.heap.size) (hx : x < 18446744073709551616) :
    Calls Try.prog 27 #[.slice none 0 0, .slice (some ⟨g, 0, none⟩) 1 1] (w.alloc (.cells #[.int .u64 (x : Int)] 22)) fun e w' => ∃ A n c, e = .returned (.slice A n c) ∧ Own w' w.heap.size 5 A n c (bv (vary x)) ∧ Below w.heap.size w w' := by
  refine (vary_any none _ 0 0 1 1 0 (g + 1) [] [x] _ (Row.nil _ _ _) (Nat.zero_le _) (Row.laid' w 22 [.int .u64 (x : Int)] g hg) (by simp; omega) (by intro y hy; simp at hy; omega) (by omega) (by omega)).mono ?_
  rintro e w3 ⟨A3, n3, c3, rfl, own3, bel3⟩
  rw [List.nil_append, varies1] at own3
  exact ⟨A3, n3, c3, rfl, own3.base_le (by simp), ((Below.refl _ w).alloc (Nat.le_refl _) _).trans (bel3.mono (by simp))⟩

end Go.Proofs.Ytldegdhpblkhhaa
