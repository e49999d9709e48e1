/-
  Words for memory: a map from numbers to closures, as the list of its entries: what makeMap, insert and a look-up do to it. No condition but what each head says.
-/
import Derived.Test.YtbfaebobainhjaaVT
import Derived.Test.YtbfaebobainhjaaM
import Derived.Maps.OwnSet
namespace Go.Proofs.Ytbfaebobainhjaa
open Go Go.RowKit Go.Maps

/-! ### A variable of one cell -/
/-- Block g is a variable that holds v. -/
def VarC (w : World) (g : Nat) (v : Value) : Prop := w.rangeAt g 0 [v] ∧ w.there g 0 1
section
variable {w w' : World} {g : Nat} {v : Value}
theorem VarC.below (h : VarC w g v) {B : Nat} (hk : Below B w w') (hb : g < B) : VarC w' g v := ⟨range_keep h.1 hb hk, there_keep h.2 hb hk⟩
theorem VarC.other (h : VarC w g v) {b : Nat} (ho : Oth b w w') (hb : g ≠ b) : VarC w' g v := ⟨range_other h.1 hb ho, there_other h.2 hb ho⟩
theorem VarC.c0 (h : VarC w g v) : w.cell? ⟨g, 0, none⟩ = some v := h.1 0 _ rfl
theorem VarC.lt (h : VarC w g v) : g < w.heap.size := World.block_lt_of_cell? w _ h.c0
theorem VarC.keep (h : VarC w g v) (hk : Below w.heap.size w w') : VarC w' g v := h.below hk h.lt
theorem varc_new (w : World) (v : Value) (t : TypeId) : VarC (w.alloc (.cells #[v] t)) w.heap.size v := by
  have h1 : (w.alloc (.cells #[v] t)).rangeAt w.heap.size 0 [v] := fun j u hu => by
    rw [Nat.zero_add, cell_of_row _ _ _ _ _ _ (heap_alloc_new w _)]
    simpa using hu
  refine ⟨h1, fun j hj => ⟨?_, frozen_of_row _ _ _ _ _ (heap_alloc_new w _)⟩⟩
  obtain rfl : j = 0 := by omega
  rw [h1 0 v rfl]; rfl
variable {ops : Array Oper} {rest : List Oper} {o : Oper} {a : Act} {Q : Exit → Act → World → Prop}
theorem wpList_box1 (hg : o.guard = none) {t : TypeId} (y : Operand) (ho : o.op = .box t y) (hx : a.eval y = v) (hc : v.cells = #[v])
    (h : ∀ w', VarC w' w.heap.size v → Below w.heap.size w w' → Hid (w'.heap.size = w.heap.size + 1) → wpList Try.prog ops Q rest (a.put o.dst (.pointer (some ⟨w.heap.size, 0, none⟩))) w') : wpList Try.prog ops Q (o :: rest) a w := by
  refine wpList_plain hg fun K hK => ?_
  unfold Oper.wp execOp
  simp only [ho, hx, Sem.run_bind, Instr.box, newVar, newRow, hc, run_newObj_alloc, Sem.run_pure, Result.andThen_ok]
  exact hK _ _ (h _ (varc_new w v t) ((Below.refl _ _).alloc (Nat.le_refl _) _) (hid (by simp)))
theorem wpList_al1 (hg : o.guard = none) {t : TypeId} (ho : o.op = .alloc t) (hz : (zeroValue t).run Try.prog w = .ok v w) (hc : v.cells = #[v])
    (h : ∀ w', VarC w' w.heap.size v → Below w.heap.size w w' → Hid (w'.heap.size = w.heap.size + 1) → wpList Try.prog ops Q rest (a.put o.dst (.pointer (some ⟨w.heap.size, 0, none⟩))) w') : wpList Try.prog ops Q (o :: rest) a w := by
  refine wpList_plain hg fun K hK => ?_
  unfold Oper.wp execOp
  simp only [ho, Sem.run_bind, Instr.alloc, hz, newVar, newRow, hc, run_newObj_alloc, Sem.run_pure, Result.andThen_ok]
  exact hK _ _ (h _ (varc_new w v t) ((Below.refl _ _).alloc (Nat.le_refl _) _) (hid (by simp)))
theorem wpList_sc (hg : o.guard = none) {ty : TypeId} (y z : Operand) (ho : o.op = .store ty y z) {u : Value} (hx : a.eval y = .pointer (some ⟨g, 0, none⟩)) (hy : a.eval z = v) (hc : v.cells = #[v]) (h1 : v.oneCell' = true) (hs : (Try.prog.info? ty).map (·.size) = some 1)
    (hv : VarC w g u) (h : ∀ w', VarC w' g v → Below g w w' → Oth g w w' → Hid (w'.heap.size = w.heap.size) → wpList Try.prog ops Q rest (a.put o.dst undef) w') : wpList Try.prog ops Q (o :: rest) a w := by
  refine wpList_plain hg fun K hK => ?_
  have := run_storeCells_cells (P := Try.prog) g 0 [v] 0 w (fun i hi => by simpa using (hv.2 i (by simpa using hi)).1) (fun i hi => by simpa using (hv.2 i (by simpa using hi)).2) (fun u hu => by simp at hu; rw [hu]; exact h1)
  unfold Oper.wp execOp
  cases hq : Try.prog.info? ty with
  | none => simp [hq] at hs
  | some i =>
    have hz : i.size = 1 := by simpa [hq] using hs
    simp only [Nat.add_zero] at this
    have hsv : (storeVar ty ⟨g, 0, none⟩ v).run Try.prog w = .ok () (w.setCells g 0 [v]) := by
      simp [storeVar, sizeOf, typeInfo, hq, hc, hz, this]
    simp only [ho, hx, hy, Instr.storeAt, Instr.sureAddr, Sem.run_bind, Sem.run_pure, Result.andThen_ok, hsv]
    exact hK _ _ (h _ ⟨World.rangeAt_setCells_same w g 0 [v] hv.2, there_set _ _ hv.2⟩ (setCells_oth g _ _ _).1 (setCells_oth g _ _ _).2 (hid (setCells_size _ _ _ _)))
end
/-! ### Maps -/
/-- Block B is a map of the entries es. -/
def Mp (w : World) (B : Nat) (es : Array MapEntry) (n : Nat) : Prop := w.heap[B]? = some (.map es n)
theorem Mp.lt {w : World} {B n : Nat} {es : Array MapEntry} (h : Mp w B es n) : B < w.heap.size := (Array.getElem?_eq_some_iff.1 h).1
theorem Mp.below {w w' : World} {B n C : Nat} {es : Array MapEntry} (h : Mp w B es n) (hb : Below C w w') (hc : B < C) : Mp w' B es n := (hb.block B hc).trans h
theorem Mp.keep {w w' : World} {B n : Nat} {es : Array MapEntry} (h : Mp w B es n) (hb : Below w.heap.size w w') : Mp w' B es n := h.below hb h.lt
theorem key3 : Keyed Try.prog 3 := int_keyed Try.underlying3
/-- A number that is a key. -/
def KeyI (k : Int) : Prop := -9223372036854775808 ≤ k ∧ k ≤ 9223372036854775807
theorem key_i (k : Int) (h : KeyI k) : keyOf Try.prog 3 (.int .i64 k) = some (.int .i64 k) := keyOf_int_mk Try.underlying3 (WalkArith.wf_i64 h)
/-- What is found at key k among entries. -/
def fnd (k : Int) (es : List MapEntry) : Option (Option (Nat × Value)) := Instr.findNow (.int .i64) (.int .i64 k) es 0
theorem find_run {k : Int} {es : List MapEntry} {r : Option (Nat × Value)} (h : fnd k es = some r) (w : World) : (Instr.findKey 3 (.int .i64 k) es).run Try.prog w = .ok r w := by
  unfold fnd at h
  simp [Instr.findKey, run_underlying Try.underlying3, h, Result.andThen]
section
variable {w : World} {B n : Nat} {es : Array MapEntry} {ops : Array Oper} {rest : List Oper} {o : Oper} {a : Act} {Q : Exit → Act → World → Prop}
theorem wpList_mk (hg : o.guard = none) {t : TypeId} (ho : o.op = .makeMap t none)
    (h : ∀ w', Mp w' w.heap.size #[] 0 → Below w.heap.size w w' → Hid (w'.heap.size = w.heap.size + 1) → wpList Try.prog ops Q rest (a.put o.dst (.map (some w.heap.size))) w') : wpList Try.prog ops Q (o :: rest) a w := by
  refine wpList_plain hg fun K hK => ?_
  unfold Oper.wp execOp
  simp only [ho, Option.map_none, Instr.makeMap, Sem.run_bind, run_newObj_alloc, Sem.run_pure, Result.andThen_ok]
  exact hK _ _ (h _ (heap_alloc_new w _) ((Below.refl _ _).alloc (Nat.le_refl _) _) (hid (by simp)))
theorem wpList_ins (hg : o.guard = none) (m x v : Operand) {t e : TypeId} (ho : o.op = .insert t m x v) (ht : Try.prog.underlying t = some (.map 3 e)) {k : Int} {u : Value}
    (hm : a.eval m = .map (some B)) (hx : a.eval x = .int .i64 k) (hv : a.eval v = u) (hw : Mp w B es n) (hk : KeyI k) (hf : fnd k es.toList = some none)
    (h : ∀ w', Mp w' B (es.push ⟨.int .i64 k, u, n⟩) (n + 1) → Below B w w' → Oth B w w' → Hid (w'.heap.size = w.heap.size) → wpList Try.prog ops Q rest (a.put o.dst undef) w') : wpList Try.prog ops Q (o :: rest) a w := by
  refine wpList_plain hg fun K hK => ?_
  unfold Oper.wp execOp
  have hrun : (Instr.mapUpdate t (.map (some B)) (.int .i64 k) u).run Try.prog w = .ok () { w with heap := w.heap.setIfInBounds B (.map (es.push ⟨.int .i64 k, u, n⟩) (n + 1)) } := by
    simp [Instr.mapUpdate, run_underlying ht, MapKept.run_getObj_map hw, key3.check w false (key_i k hk), find_run hf, MapKept.run_setObj_map _ hw, Result.andThen]
  simp only [ho, hm, hx, hv, Sem.run_bind, hrun, Sem.run_pure, Result.andThen_ok]
  have hoth : ∀ j, j ≠ B → (w.heap.setIfInBounds B (.map (es.push ⟨.int .i64 k, u, n⟩) (n + 1)))[j]? = w.heap[j]? := fun j hj => by
    rw [Array.getElem?_setIfInBounds_ne (by omega)]
  refine hK _ _ (h _ ?_ ⟨rfl, rfl, rfl, by simp, fun j hj => hoth j (by omega)⟩ hoth (hid (by simp)))
  show (w.heap.setIfInBounds B _)[B]? = _
  rw [Array.getElem?_setIfInBounds_self_of_lt hw.lt]
theorem wpList_lk (hg : o.guard = none) (m x : Operand) {t e : TypeId} (ho : o.op = .lookup t m x true) (ht : Try.prog.underlying t = some (.map 3 e)) {k : Int} {r : Option (Nat × Value)} (z : Value)
    (hm : a.eval m = .map (some B)) (hx : a.eval x = .int .i64 k) (hw : Mp w B es n) (hk : KeyI k) (hf : fnd k es.toList = some r) (hz : (zeroValue e).run Try.prog w = .ok z w)
    (h : wpList Try.prog ops Q rest (a.put o.dst (.tuple #[(r.map (·.2)).getD z, .bool r.isSome])) w) : wpList Try.prog ops Q (o :: rest) a w := by
  refine wpList_plain hg fun K hK => ?_
  unfold Oper.wp execOp
  have hrun : (Instr.lookup t (.map (some B)) (.int .i64 k) true).run Try.prog w = .ok (.tuple #[(r.map (·.2)).getD z, .bool r.isSome]) w := by
    cases r with
    | none => simp [Instr.lookup, run_underlying ht, MapKept.run_getObj_map hw, key3.check w _ (key_i k hk), find_run hf, hz, Result.andThen]
    | some r => obtain ⟨i, u⟩ := r; simp [Instr.lookup, run_underlying ht, MapKept.run_getObj_map hw, key3.check w _ (key_i k hk), find_run hf, Result.andThen]
  simp only [ho, hm, hx, Sem.run_bind, hrun, Sem.run_pure, Result.andThen_ok]
  exact hK _ _ h
end
/-- Four entries at 0 to 3; what is found there. -/
def es4 (a b c d : Value) : Array MapEntry := #[⟨.int .i64 0, a, 0⟩, ⟨.int .i64 1, b, 1⟩, ⟨.int .i64 2, c, 2⟩, ⟨.int .i64 3, d, 3⟩]
theorem fnd0 (a b c d : Value) : fnd 0 (es4 a b c d).toList = some (some (0, a)) := rfl
theorem fnd1 (a b c d : Value) : fnd 1 (es4 a b c d).toList = some (some (1, b)) := rfl
theorem fnd2 (a b c d : Value) : fnd 2 (es4 a b c d).toList = some (some (2, c)) := rfl
theorem fnd3 (a b c d : Value) : fnd 3 (es4 a b c d).toList = some (some (3, d)) := rfl
theorem fnd_no (a b c d : Value) (k : Int) (h : k < 0 ∨ 3 < k) : fnd k (es4 a b c d).toList = some none := by
  have e0 : (k == 0) = false := by rw [beq_eq_false_iff_ne]; omega
  have e1 : (k == 1) = false := by rw [beq_eq_false_iff_ne]; omega
  have e2 : (k == 2) = false := by rw [beq_eq_false_iff_ne]; omega
  have e3 : (k == 3) = false := by rw [beq_eq_false_iff_ne]; omega
  simp [fnd, es4, Instr.findNow, Instr.sameNow, e0, e1, e2, e3]
end Go.Proofs.Ytbfaebobainhjaa
