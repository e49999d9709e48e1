/-
  Contracts of what writes: ref's Same, wire's copied, addVary, Vary, isWidth, Fixed: conditions as each head says (slices that read as bytes, lengths of some thousands).
-/
import Derived.Test.YtldegdhpblkhhaaD
import Derived.Test.YtldegdhpblkhhaaWP
import Derived.Test.YtldegdhpblkhhaaShelf
namespace Go.Proofs.Ytldegdhpblkhhaa
open Go Go.RowKit

set_option maxHeartbeats 400000 in
theorem copied_any (A : Option Addr) (n c B r : Nat) (vs : List Value) (w : World) (ha : Row w B A n vs) (h1 : ∀ u ∈ vs, u.oneCell' = true) (hn : n + r ≤ 10000000) (hB : B ≤ w.heap.size) :
    Calls Try.prog 41 #[.slice A n c, .int .i64 (r : Int)] w (RetB w.heap.size vs w) := by
  obtain ⟨i, hi0, hi1, hi2, hi3⟩ := info_parts info5
  have HA := hid ha
  have H1 := hid h1
  clear ha h1
  go_enter Try.func41, Try.ntmps41
  go_wp2_with (first
    | (refine wpList_make_own _ rfl (.const (.int .i64 0)) (.tmp 8) 26 rfl w.heap.size 5 i (.int .u8 0) 1 Try.underlying26 hi0 hi1 hi2 .i64 .i64 ((n : Int) + (r : Int)) (n + r) rfl rfl (by omega) (by rw [hi3]; omega) (by unfold maxLen; omega) (Nat.le_refl _) ?_
       intro w1 own1 gr1)
    | (at_builtin
       refine wpList_app _ rfl (.tmp 9) (.tmp 10) 26 rfl w.heap.size 5 (.int .u8 0) 1 Try.underlying26 info5 rfl _ 0 _ [] rfl own1 B A n c vs rfl ((HA.out).keep (fun p hp => World.cell?_of_block (gr1.block p.block (by omega) (by simp)))) H1.out (by omega) (by omega) gr1.size ?_
       intro A1 c1 w2 own2 bel2))
  go_ret
  exact ⟨A1, _, c1, rfl, by simpa using own2, ((Below.refl _ _).grown gr1 (Nat.le_refl _) (by simp)).trans bel2⟩
end Go.Proofs.Ytldegdhpblkhhaa
