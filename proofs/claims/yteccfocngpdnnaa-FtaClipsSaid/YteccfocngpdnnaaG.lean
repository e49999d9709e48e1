/-
  The chapter's example holds: what the laws ask first.
-/
import Derived.Test.YteccfocngpdnnaaD
namespace Go.Proofs.Yteccfocngpdnnaa
open Go Go.RowKit

theorem srt_live : srt [5, -100, 7, 100] = [-100, 5, 7, 100] := (srt_of (a := [-100, 5, 7, 100]) (b := [5, -100, 7, 100]) (by decide) (by decide)).symm
theorem avg_live : avg [5, -100, 7, 100] = 6 := by unfold avg kept; rw [srt_live]; rfl
def LiveP (w : World) (e : Ending) (w' : World) : Prop := e = .returned (.bool true) ∧ Below w.heap.size w w'
theorem live_any (w : World) : Calls Try.prog 6 #[] w (LiveP w) := by
  have HR := hid (Row.laid w 2 (sv [5, -100, 7, 100]))
  have HA := hid (average_any (some ⟨w.heap.size, 0, none⟩) 4 4 (w.heap.size + 1) [5, -100, 7, 100] (w.alloc (.cells (sv [5, -100, 7, 100]).toArray 2)) HR.out (by simp) (by intro x hx; simp at hx; omega) (by omega) 6 0
    (by unfold mean; rw [if_neg (by decide), if_neg (by decide)]; exact avg_live) (by unfold meanE; rw [if_neg (by decide), if_neg (by decide)]))
  go_enter Try.func6, Try.ntmps6
  go_wp2_with (go_at_call 7; refine (HA.out).mono ?_; rintro e w1 ⟨rfl, bel1⟩)
  go_ret
  exact ⟨rfl, ((Below.refl _ w).alloc (Nat.le_refl _) _).trans (bel1.mono (by simp))⟩
end Go.Proofs.Yteccfocngpdnnaa
