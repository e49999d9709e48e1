/-
  Words for memory: a tally's four cells (Ty), a variable that holds one (VarT), what box, alloc, loads and stores do to it. No condition but what each head says.
-/
import Derived.Test.YtbfaebobainhjaaV
import Derived.WalkKit
import Derived.WalkSpells
import Derived.WalkLawsBesides
import Derived.LoopTactic
import Derived.RegionTactic
import Derived.Deep.QuietTactic
import Derived.BigQuiet
import Derived.Deep.Light
import Derived.Below
import Derived.Maps.AppendAt
import Derived.OwnWalk
import Derived.Laws.OwnMore
import Derived.Deep.MidRow
namespace Go.Proofs.Ytbfaebobainhjaa
open Go Go.RowKit

/-- A tally: good, bad. -/
structure Ty where
  g : Int
  b : Int
deriving DecidableEq
def tz : Ty := ⟨0, 0⟩
/-- A tally's cells, its value. -/
def enct (x : Ty) : List Value := [.int .i64 x.g, .int .i64 x.b]
def tv (x : Ty) : Value := .agg (enct x).toArray
theorem enct_len (x : Ty) : (enct x).length = 2 := rfl
theorem enct_one (x : Ty) : ∀ u ∈ enct x, u.oneCell' = true := by
  intro u hu; simp [enct] at hu; rcases hu with rfl | rfl <;> rfl
theorem size29 : (Try.prog.info? 29).map (·.size) = some 2 := by kernel_rfl
theorem zero29 (w : World) : (zeroValue 29).run Try.prog w = .ok (tv tz) w := by kernel_rfl

/-- Block g is a variable that holds the tally. -/
def VarT (w : World) (g : Nat) (x : Ty) : Prop := w.rangeAt g 0 (enct x) ∧ w.there g 0 2

section
variable {w w' : World} {g : Nat} {x : Ty}
theorem VarT.below (h : VarT w g x) {B : Nat} (hk : Below B w w') (hb : g < B) : VarT w' g x := ⟨range_keep h.1 hb hk, there_keep h.2 hb hk⟩
theorem VarT.other (h : VarT w g x) {b : Nat} (ho : Oth b w w') (hb : g ≠ b) : VarT w' g x := ⟨range_other h.1 hb ho, there_other h.2 hb ho⟩
theorem VarT.lt (h : VarT w g x) : g < w.heap.size := World.block_lt_of_cell? w _ (h.1 0 _ rfl)
theorem VarT.keep (h : VarT w g x) (hk : Below w.heap.size w w') : VarT w' g x := h.below hk h.lt
theorem VarT.c0 (h : VarT w g x) : w.cell? ⟨g, 0, none⟩ = some (.int .i64 x.g) := h.1 0 _ rfl
theorem VarT.c1 (h : VarT w g x) : w.cell? ⟨g, 1, none⟩ = some (.int .i64 x.b) := h.1 1 _ rfl
/-- A new variable. -/
theorem vart_new (w : World) (x : Ty) : VarT (w.alloc (.cells (enct x).toArray 29)) w.heap.size x := by
  have h1 : (w.alloc (.cells (enct x).toArray 29)).rangeAt w.heap.size 0 (enct x) := fun j v hv => by
    rw [Nat.zero_add, cell_of_row _ _ _ _ _ _ (heap_alloc_new w _)]
    simpa using hv
  refine ⟨h1, fun j hj => ⟨?_, frozen_of_row _ _ _ _ _ (heap_alloc_new w _)⟩⟩
  rw [h1 j _ (List.getElem?_eq_getElem (by rw [enct_len]; exact hj))]; rfl

theorem vart_stored (ht : w.there g 0 2) (x : Ty) : VarT (w.setCells g 0 (enct x)) g x := ⟨World.rangeAt_setCells_same w g 0 (enct x) ht, there_set _ _ ht⟩

/-! ### At the operation, for the walk -/
variable {ops : Array Oper} {rest : List Oper} {o : Oper} {a : Act} {Q : Exit → Act → World → Prop}
theorem wpList_boxt (hg : o.guard = none) (y : Operand) (ho : o.op = .box 29 y) (hx : a.eval y = tv x)
    (h : ∀ w', VarT w' w.heap.size x → Below w.heap.size w w' → Hid (w'.heap.size = w.heap.size + 1) → wpList Try.prog ops Q rest (a.put o.dst (.pointer (some ⟨w.heap.size, 0, none⟩))) w') : wpList Try.prog ops Q (o :: rest) a w := by
  refine wpList_plain hg fun K hK => ?_
  unfold Oper.wp execOp
  simp only [ho, hx, Sem.run_bind, Instr.box, newVar, newRow, run_newObj_alloc, Sem.run_pure, Result.andThen_ok]
  exact hK _ _ (h _ (vart_new w x) ((Below.refl _ _).alloc (Nat.le_refl _) _) (hid (by simp)))
theorem wpList_alt (hg : o.guard = none) (ho : o.op = .alloc 29)
    (h : ∀ w', VarT w' w.heap.size tz → Below w.heap.size w w' → Hid (w'.heap.size = w.heap.size + 1) → wpList Try.prog ops Q rest (a.put o.dst (.pointer (some ⟨w.heap.size, 0, none⟩))) w') : wpList Try.prog ops Q (o :: rest) a w := by
  refine wpList_plain hg fun K hK => ?_
  unfold Oper.wp execOp
  simp only [ho, Sem.run_bind, Instr.alloc, zero29, newVar, newRow, run_newObj_alloc, Sem.run_pure, Result.andThen_ok]
  exact hK _ _ (h _ (vart_new w tz) ((Below.refl _ _).alloc (Nat.le_refl _) _) (hid (by simp)))
theorem wpList_ldt (hw : Region.wanted o (yielded ops a.tmps) = true) (y : Operand) (ho : o.op = .load 29 y) (hx : a.eval y = .pointer (some ⟨g, 0, none⟩)) (hv : VarT w g x)
    (h : wpList Try.prog ops Q rest (a.put o.dst (tv x)) w) : wpList Try.prog ops Q (o :: rest) a w :=
  wpList_step fun _ hK => by rw [if_pos hw]; exact wp_load_mid 29 y ho g 0 hx (enct x) _ hv.1 Try.underlying29 rfl (by rw [size29]; rfl) (hK _ _ h)
theorem wpList_svt (hg : o.guard = none) (y z : Operand) (ho : o.op = .store 29 y z) {p : Ty} (hx : a.eval y = .pointer (some ⟨g, 0, none⟩)) (hy : a.eval z = tv x) (hv : VarT w g p)
    (h : ∀ w', VarT w' g x → Below g w w' → Oth g w w' → Hid (w'.heap.size = w.heap.size) → wpList Try.prog ops Q rest (a.put o.dst undef) w') : wpList Try.prog ops Q (o :: rest) a w :=
  wpList_store_mid hg 29 y z ho g 0 (enct x).toArray hx hy hv.2 (by rw [size29]; rfl) (all_oneCell_toArray (enct_one x)) (h _ (vart_stored hv.2 x) (setCells_oth g _ _ _).1 (setCells_oth g _ _ _).2 (hid (setCells_size _ _ _ _)))
/-- One cell stored. -/
theorem wpList_st1 (hg : o.guard = none) (ty : TypeId) (y z : Operand) (ho : o.op = .store ty y z) (j : Nat) (v : Value) (hx : a.eval y = .pointer (some ⟨g, j, none⟩)) (hy : a.eval z = v) (hc : v.cells = #[v]) (h1 : v.oneCell' = true) (hs : (Try.prog.info? ty).map (·.size) = some 1)
    (hv : w.there g 0 2) (hj : j < 2) (h : wpList Try.prog ops Q rest (a.put o.dst undef) (w.setCells g j [v])) : wpList Try.prog ops Q (o :: rest) a w := by
  refine wpList_plain hg fun K hK => ?_
  have ht : w.there g j 1 := fun i hi => by have := hv (j + i) (by omega); rwa [Nat.zero_add] at this
  have := run_storeCells_cells (P := Try.prog) g j [v] 0 w (fun i hi => by simpa using (ht i (by simpa using hi)).1) (fun i hi => by simpa using (ht i (by simpa using hi)).2) (fun u hu => by simp at hu; rw [hu]; exact h1)
  unfold Oper.wp execOp
  cases hq : Try.prog.info? ty with
  | none => simp [hq] at hs
  | some i =>
    have hz : i.size = 1 := by simpa [hq] using hs
    simp only [Nat.add_zero] at this
    have hsv : (storeVar ty ⟨g, j, none⟩ v).run Try.prog w = .ok () (w.setCells g j [v]) := by
      simp [storeVar, sizeOf, typeInfo, hq, hc, hz, this]
    simp only [ho, hx, hy, Instr.storeAt, Instr.sureAddr, Sem.run_bind, Sem.run_pure, Result.andThen_ok, hsv]
    exact hK _ _ h
theorem range_set {cs : List Value} {j : Nat} {v : Value} (h : w.rangeAt g 0 cs) (ht : w.there g 0 cs.length) (hj : j < cs.length) : (w.setCells g j [v]).rangeAt g 0 (cs.set j v) := by
  intro i u hu
  rw [Nat.zero_add]
  have hil : i < cs.length := by have := (List.getElem?_eq_some_iff.1 hu).1; simpa using this
  by_cases e : i = j
  · subst e
    have h2 := World.rangeAt_setCells_same w g i [v] (fun k hk => by have := ht (i + k) (by simp at hk; omega); rwa [Nat.zero_add] at this) 0 v rfl
    rw [List.getElem?_set_self hil] at hu
    injection hu with hu; subst hu; simpa using h2
  · rw [List.getElem?_set_ne (by omega)] at hu
    have h2 : w.rangeAt g i [u] := fun k x hx => by
      rcases k with _ | k
      · simp at hx; subst hx; have := h i _ hu; rwa [Nat.zero_add] at this
      · simp at hx
    have h3 := World.rangeAt_setCells_apart h2 g j [v] (by simp; omega) 0 u rfl
    simpa using h3
theorem size3 : (Try.prog.info? 3).map (·.size) = some 1 := by kernel_rfl
theorem wpList_sg (hg : o.guard = none) (y z : Operand) (ho : o.op = .store 3 y z) {n : Int} (hx : a.eval y = .pointer (some ⟨g, 0, none⟩)) (hy : a.eval z = .int .i64 n) (hv : VarT w g x)
    (h : ∀ w', VarT w' g { x with g := n } → Below g w w' → Oth g w w' → Hid (w'.heap.size = w.heap.size) → wpList Try.prog ops Q rest (a.put o.dst undef) w') : wpList Try.prog ops Q (o :: rest) a w :=
  wpList_st1 hg 3 y z ho 0 (.int .i64 n) hx hy rfl rfl size3 hv.2 (by omega) (h _ ⟨range_set (cs := enct x) hv.1 hv.2 (by rw [enct_len]; omega), there_set _ _ hv.2⟩ (setCells_oth g _ _ _).1 (setCells_oth g _ _ _).2 (hid (setCells_size _ _ _ _)))
theorem wpList_sb (hg : o.guard = none) (y z : Operand) (ho : o.op = .store 3 y z) {n : Int} (hx : a.eval y = .pointer (some ⟨g, 1, none⟩)) (hy : a.eval z = .int .i64 n) (hv : VarT w g x)
    (h : ∀ w', VarT w' g { x with b := n } → Below g w w' → Oth g w w' → Hid (w'.heap.size = w.heap.size) → wpList Try.prog ops Q rest (a.put o.dst undef) w') : wpList Try.prog ops Q (o :: rest) a w :=
  wpList_st1 hg 3 y z ho 1 (.int .i64 n) hx hy rfl rfl size3 hv.2 (by omega) (h _ ⟨range_set (cs := enct x) hv.1 hv.2 (by rw [enct_len]; omega), there_set _ _ hv.2⟩ (setCells_oth g _ _ _).1 (setCells_oth g _ _ _).2 (hid (setCells_size _ _ _ _)))
/-! ### Results that lie in cells -/
theorem ldtv (h : VarT w g x) : (loadVar 29 ⟨g, 0, none⟩).run Try.prog w = .ok (tv x) w := run_loadVar_mid w g 0 29 (enct x) _ h.1 Try.underlying29 rfl (by rw [size29]; rfl)
theorem results_t {fn : Func} {p : Tmp} (h : fn.results = #[.cell p 29]) (tmps : Array Value) (hp : tmps.getD p undef = .pointer (some ⟨g, 0, none⟩)) (hx : VarT w g x) :
    (results fn tmps).run Try.prog w = .ok (tv x) w := by
  have := ldtv hx
  have hp' : tmps[p]?.getD undef = .pointer (some ⟨g, 0, none⟩) := by simpa using hp
  simp only [results, h]
  simp [hp', this, asAddr]
end
end Go.Proofs.Ytbfaebobainhjaa
