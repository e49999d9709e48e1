/-
  The chapter's examples (live) and few, as each statement asks them.
-/
import Derived.Test.YtkbcmnheecihiaaD
namespace Go.Proofs.Ytkbcmnheecihiaa
open Go Go.RowKit

/-- A row of a new block that was laid whole, its number as it is spelled. -/
theorem Row.laid' (w : World) (t : TypeId) (cs : List Value) (g : Nat) (hg : g = w.heap.size) : Row (w.alloc (.cells cs.toArray t)) (g + 1) (some ⟨g, 0, none⟩) cs.length cs := by
  subst hg; exact Row.laid w t cs

def LiveP (w : World) (e : Ending) (w' : World) : Prop := e = .returned (.bool true) ∧ Below w.heap.size w w'

theorem vary300 : vary 300 = [130, 44] := by decide +kernel
theorem fix300 : fixb 300 2 = [1, 44] := by decide
theorem tv300 : tv true 0 0 (([130, 44] : List Nat).drop 0) = (300, 2, 0) := by decide +kernel
theorem oct2 (a b : Nat) (ha : a < 256) (hb : b < 256) : Oct [a, b] := Oct.cons ha (Oct.cons hb Oct.nil)

theorem takeVary_3 (A : Option Addr) (n c B k0 a p e : Nat) (bs : List Nat) (w : World) (hr : Row w B A n (bv bs)) (ho : Oct bs) (hn : n ≤ 9000000000000000000) (hR : tv true 0 k0 (bs.drop k0) = (a, p, e)) :
    Calls Try.prog 19 #[.slice A n c, .int .i64 (k0 : Int)] w fun r w' => r = .returned (.tuple #[.int .u64 (a : Int), .int .i64 (p : Int), .int .i64 (e : Int)]) ∧ w = w' :=
  takeVary_R A n c B k0 bs (a, p, e) w hr ho hn hR

set_option maxHeartbeats 200000 in
theorem live_any (w : World) : Calls Try.prog 8 #[] w (LiveP w) := by
  go_enter Try.func8, Try.ntmps8
  go_wp2_with fail
  refine (fixed_ok none 0 0 w.heap.size 2 300 [] w (Row.nil _ _ _) (Nat.le_refl _) (by omega) (by omega) (by omega) (by omega)).mono ?_
  rintro e w1 ⟨A1, n1, c1, rfl, own1, bel1⟩
  rw [fix300] at own1
  have HO1 := hid own1
  have HB1 := hid bel1
  clear own1 bel1
  go_wp2_with fail
  refine (takeVary_3 _ 2 2 (w1.heap.size + 1) 0 300 2 0 [130, 44] _ (Row.laid w1 5 [.int .u8 130, .int .u8 44]) (oct2 _ _ (by omega) (by omega)) (by omega) tv300).mono ?_
  rintro e w2 ⟨rfl, rfl⟩
  go_wp2_with fail
  have hz : w1.heap.size + 1 = (w1.alloc (Obj.cells #[Value.int IntKind.u8 130, Value.int IntKind.u8 44] 5)).heap.size := by simp
  have HB2 : Hid (Below w.heap.size w (w1.alloc (Obj.cells #[Value.int IntKind.u8 130, Value.int IntKind.u8 44] 5))) := hid (HB1.out.alloc HB1.out.size _)
  have HO2 : Hid (Own (w1.alloc (Obj.cells #[Value.int IntKind.u8 130, Value.int IntKind.u8 44] 5)) w.heap.size 5 A1 n1 c1 (bv ([] ++ [1, 44]))) := hid (HO1.out.alloc _)
  clear HB1 HO1
  generalize w1.alloc (Obj.cells #[Value.int IntKind.u8 130, Value.int IntKind.u8 44] 5) = W at hz HB2 HO2 ⊢
  refine (vary_any none _ 0 0 1 1 0 (w1.heap.size + 1 + 1) [] [300] _ (Row.nil _ _ _) (Nat.zero_le _) (Row.laid' W 27 [.int .u64 300] _ hz) (by simp; omega) (by intro x hx; simp at hx; omega) (by omega) (by omega)).mono ?_
  rintro e w3 ⟨A3, n3, c3, rfl, own3, bel3⟩
  have hz' : W.heap.size + 1 ≤ w3.heap.size := by have := bel3.size; simpa using this
  have bel3' : Below W.heap.size W w3 := ((Below.refl _ W).alloc (Nat.le_refl _) _).trans (bel3.mono (by simp))
  have e3 : varies [300] = [130, 44] := by rw [← vary300]; simp [varies]
  rw [e3] at own3
  have HO3 := hid own3
  have HO4 : Hid (Own w3 w.heap.size 5 A1 n1 c1 (bv ([] ++ [1, 44]))) := hid (HO2.out.below bel3')
  have HB3 : Hid (Below w.heap.size w w3) := hid (HB2.out.trans (bel3'.mono HB2.out.size))
  clear own3 bel3 bel3' e3 HO2 HB2 hz hz'
  go_wp2_with fail
  refine (same_any A3 _ n3 c3 2 2 w3.heap.size (w3.heap.size + 1) [130, 44] [130, 44] true _ (HO3.out.row.alloc (Nat.le_refl _) _) (Row.laid w3 5 [.int .u8 130, .int .u8 44]) (oct2 _ _ (by omega) (by omega)) (oct2 _ _ (by omega) (by omega)) (by decide)).mono ?_
  rintro e w4 ⟨rfl, rfl⟩
  go_wp2_with fail
  refine (same_any A1 _ n1 c1 2 2 w3.heap.size (w3.heap.size + 1 + 1) [1, 44] [1, 44] true _ ((HO4.out.row.alloc (Nat.le_refl _) _).alloc (by simp) _) (Row.laid' _ 5 [.int .u8 1, .int .u8 44] _ (by simp)) (oct2 _ _ (by omega) (by omega)) (oct2 _ _ (by omega) (by omega)) (by decide)).mono ?_
  rintro e w5 ⟨rfl, rfl⟩
  go_wp2_with fail
  go_ret
  exact ⟨rfl, (HB3.out.alloc HB3.out.size _).alloc (Nat.le_trans HB3.out.size (by simp)) _⟩

end Go.Proofs.Ytkbcmnheecihiaa
