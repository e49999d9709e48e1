/-
  Contracts of what writes: ref's Same, wire's copied, addVary, Vary, isWidth, Fixed: conditions as each head says (slices that read as bytes, lengths of some thousands).
-/
import Derived.Test.YtkbcmnheecihiaaA
import Derived.Test.YtkbcmnheecihiaaShelf
namespace Go.Proofs.Ytkbcmnheecihiaa
open Go Go.RowKit

theorem same_any (A A2 : Option Addr) (n c m c2 B B2 : Nat) (a b : List Nat) (r : Bool) (w : World) (ha : Row w B A n (bv a)) (hb : Row w B2 A2 m (bv b)) (oa : Oct a) (ob : Oct b) (hr : decide (a = b) = r) :
    Calls Try.prog 12 #[.slice A n c, .slice A2 m c2] w fun e w' => e = .returned (.bool r) ∧ w = w' := by
  have h1 := run_str (P := Try.prog) w 22 5 Try.underlying22 Try.underlying5 B A n c a ha 9 Try.underlying9
  have h2 := run_str (P := Try.prog) w 22 5 Try.underlying22 Try.underlying5 B2 A2 m c2 b hb 9 Try.underlying9
  have HE := hid (str_eq oa ob)
  have HR := hid hr
  clear hr ha hb
  go_enter Try.func12, Try.ntmps12
  go_wp2
  go_ret
  exact ⟨ret_bool (by rw [← HR.out, ← HE.out]), rfl⟩

/-- What is told is a new row of these cells. -/
def RetB (base : Nat) (vs : List Value) (w : World) (e : Ending) (w' : World) : Prop := ∃ A n c, e = .returned (.slice A n c) ∧ Own w' base 5 A n c vs ∧ Below base w w'

set_option maxHeartbeats 400000 in
theorem copied_any (A : Option Addr) (n c B r : Nat) (vs : List Value) (w : World) (ha : Row w B A n vs) (h1 : ∀ u ∈ vs, u.oneCell' = true) (hn : n + r ≤ 10000000) (hB : B ≤ w.heap.size) :
    Calls Try.prog 26 #[.slice A n c, .int .i64 (r : Int)] w (RetB w.heap.size vs w) := by
  obtain ⟨i, hi0, hi1, hi2, hi3⟩ := info_parts info5
  have HA := hid ha
  have H1 := hid h1
  clear ha h1
  go_enter Try.func26, Try.ntmps26
  go_wp2_with (first
    | (refine wpList_make_own _ rfl (.const (.int .i64 0)) (.tmp 8) 22 rfl w.heap.size 5 i (.int .u8 0) 1 Try.underlying22 hi0 hi1 hi2 .i64 .i64 ((n : Int) + (r : Int)) (n + r) rfl rfl (by omega) (by rw [hi3]; omega) (by unfold maxLen; omega) (Nat.le_refl _) ?_
       intro w1 own1 gr1)
    | (at_builtin
       refine wpList_app _ rfl (.tmp 9) (.tmp 10) 22 rfl w.heap.size 5 (.int .u8 0) 1 Try.underlying22 info5 rfl _ 0 _ [] rfl own1 B A n c vs rfl ((HA.out).keep (fun p hp => World.cell?_of_block (gr1.block p.block (by omega) (by simp)))) H1.out (by omega) (by omega) gr1.size ?_
       intro A1 c1 w2 own2 bel2))
  go_ret
  exact ⟨A1, _, c1, rfl, by simpa using own2, ((Below.refl _ _).grown gr1 (Nat.le_refl _) (by simp)).trans bel2⟩
end Go.Proofs.Ytkbcmnheecihiaa
