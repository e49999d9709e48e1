/-
  From a statement's arguments to the walks' words: a schedule that came in is its five numbers. No condition of its own.
-/
import Derived.Test.YtjnfckhfgpbbiaaRows
import Derived.Test.YtjnfckhfgpbbiaaV
import Derived.WalkKit
import Derived.ProofKit
import Derived.OpenShut
import Derived.ChangeOld
import Derived.SizedLaws
import Derived.Carry
namespace Go.Proofs.Ytjnfckhfgpbbiaa
open Go Go.ChangeShapes Go.WideShapes Go.ChangeAt Go.RowKit

theorem own : ownKnob Try.prog.godebug = none := by kernel_rfl
theorem laidOut : laidOutB Try.prog = true := by kernel_rfl
/-- What is known of a number of 64 bits that came in. -/
def In64 (z : Int) : Prop := -9223372036854775808 ≤ z ∧ z ≤ 9223372036854775807
section
variable {H : Type} {hv : TypeId × Value → H} {W : World} {base : Nat}
set_option maxRecDepth 100000 in
/-- What came in as a schedule is five numbers of 64 bits. -/
theorem came_m {r : Reach} {v : Value} {d : DataW H} {p : List MemPlace} (hok : Value.okWide Try.prog W r base 23 v) (h : DataW.Trod hv Try.prog W 0 (fun _ => true) true 23 v d p) :
    ∃ z0 z1 z2 z3 z4 : Int, v = mv ⟨z0, z1, z2, z3, z4⟩ ∧ In64 z0 ∧ In64 z1 ∧ In64 z2 ∧ In64 z3 ∧ In64 z4 := by
  obtain ⟨cs, rfl, _⟩ := okWide_struct Try.underlying23 hok
  obtain ⟨fuel, hf⟩ := h
  obtain ⟨xs, n, _, _, hl, hx, hf⟩ := DataW.trod_struct Try.underlying23 hf
  have hl5 : (Value.agg cs).cells.toList.length = 5 := hl.trans (by kernel_rfl)
  have hx5 : xs.length = 5 := hx
  have c2 : Try.prog.cellsOf 2 = 1 := by kernel_rfl
  have c3 : Try.prog.cellsOf 3 = 1 := by kernel_rfl
  have f0 : DataW.trod hv Try.prog W 0 (fun _ => true) true n 3 (((Value.agg cs).cells.toList.drop 0).take (Try.prog.cellsOf 3)) = xs[0]? := hf 0 _ rfl
  have f1 : DataW.trod hv Try.prog W 0 (fun _ => true) true n 2 (((Value.agg cs).cells.toList.drop 1).take (Try.prog.cellsOf 2)) = xs[1]? := hf 1 _ rfl
  have f2 : DataW.trod hv Try.prog W 0 (fun _ => true) true n 2 (((Value.agg cs).cells.toList.drop 2).take (Try.prog.cellsOf 2)) = xs[2]? := hf 2 _ rfl
  have f3 : DataW.trod hv Try.prog W 0 (fun _ => true) true n 2 (((Value.agg cs).cells.toList.drop 3).take (Try.prog.cellsOf 2)) = xs[3]? := hf 3 _ rfl
  have f4 : DataW.trod hv Try.prog W 0 (fun _ => true) true n 2 (((Value.agg cs).cells.toList.drop 4).take (Try.prog.cellsOf 2)) = xs[4]? := hf 4 _ rfl
  rw [c2] at f1 f2 f3 f4
  rw [c3] at f0
  rw [List.getElem?_eq_getElem (by omega)] at f0 f1 f2 f3 f4
  obtain ⟨z0, e0, _, w0⟩ := DataW.trod_int Try.underlying3 f0
  obtain ⟨z1, e1, _, w1⟩ := DataW.trod_int Try.underlying2 f1
  obtain ⟨z2, e2, _, w2⟩ := DataW.trod_int Try.underlying2 f2
  obtain ⟨z3, e3, _, w3⟩ := DataW.trod_int Try.underlying2 f3
  obtain ⟨z4, e4, _, w4⟩ := DataW.trod_int Try.underlying2 f4
  refine ⟨z0, z1, z2, z3, z4, ?_, bounds_i64 w0, bounds_i64 w1, bounds_i64 w2, bounds_i64 w3, bounds_i64 w4⟩
  have hcs : (Value.agg cs).cells = cs := rfl
  rw [hcs] at hl5 e0 e1 e2 e3 e4
  obtain ⟨cl⟩ := cs
  match cl, hl5 with
  | [a0, a1, a2, a3, a4], _ =>
    simp at e0 e1 e2 e3 e4
    subst e0 e1 e2 e3 e4
    rfl
theorem trod_lt0 {t : TypeId} {v : Value} {d : DataW H} {p : List MemPlace} (h : DataW.Trod hv Try.prog W 0 (fun _ => true) true t v d p) : ∀ x ∈ p, x.block < W.heap.size := by
  obtain ⟨m, hm⟩ := h; exact DataW.trod_lt m _ _ _ hm
end
end Go.Proofs.Ytjnfckhfgpbbiaa
