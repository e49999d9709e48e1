/-
  Words for memory: a schedule's five cells (Md), a variable that holds one (VarM), what box, alloc, loads and stores do to it. No condition but what each head says.
-/
import Derived.Test.YtpncbfhbiifncaaB
import Derived.WalkKit
import Derived.WalkSpells
import Derived.WalkLawsBesides
import Derived.LoopTactic
import Derived.RegionTactic
import Derived.Deep.QuietTactic
import Derived.BigQuiet
import Derived.Deep.Light
import Derived.Below
import Derived.Maps.AppendAt
import Derived.OwnWalk
import Derived.Laws.OwnMore
import Derived.Deep.MidRow
namespace Go.Proofs.Ytpncbfhbiifncaa
open Go Go.RowKit

/-- A schedule: nodes, slot, lead, frame, window. -/
structure Md where
  n : Int
  s : Int
  l : Int
  f : Int
  d : Int
def encm (x : Md) : List Value := [.int .i64 x.n, .int .i64 x.s, .int .i64 x.l, .int .i64 x.f, .int .i64 x.d]
def mv (x : Md) : Value := .agg (encm x).toArray
def mz : Md := ⟨0, 0, 0, 0, 0⟩
theorem encm_len (x : Md) : (encm x).length = 5 := rfl
theorem encm_one (x : Md) : ∀ u ∈ encm x, u.oneCell' = true := by
  intro u hu; simp [encm] at hu; rcases hu with rfl | rfl | rfl | rfl | rfl <;> rfl
theorem size23 : (Try.prog.info? 26).map (·.size) = some 5 := by kernel_rfl
theorem zero23 (w : World) : (zeroValue 26).run Try.prog w = .ok (mv mz) w := by kernel_rfl

/-- Block g is a variable that holds the schedule. -/
def VarM (w : World) (g : Nat) (x : Md) : Prop := w.rangeAt g 0 (encm x) ∧ w.there g 0 5
/-- Only block g is another one. -/
def Oth (g : Nat) (w w' : World) : Prop := ∀ k, k ≠ g → w'.heap[k]? = w.heap[k]?
theorem range_keep {w w' : World} {b o : Nat} {cs : List Value} (h : w.rangeAt b o cs) {B : Nat} (hb : b < B) (hk : Below B w w') : w'.rangeAt b o cs := fun j v hv => (hk.cell (p := ⟨b, o + j, none⟩) hb).trans (h j v hv)
theorem there_keep {w w' : World} {b o n : Nat} (h : w.there b o n) {B : Nat} (hb : b < B) (hk : Below B w w') : w'.there b o n := fun j hj =>
  ⟨by rw [hk.cell (p := ⟨b, o + j, none⟩) hb]; exact (h j hj).1, by rw [hk.frozen (p := ⟨b, o + j, none⟩) hb]; exact (h j hj).2⟩
theorem range_other {w w' : World} {b o g : Nat} {cs : List Value} (h : w.rangeAt b o cs) (hb : b ≠ g) (ho : Oth g w w') : w'.rangeAt b o cs := fun j v hv => (World.cell?_of_block (a := ⟨b, o + j, none⟩) (ho b hb)).trans (h j v hv)
theorem there_other {w w' : World} {b o n g : Nat} (h : w.there b o n) (hb : b ≠ g) (ho : Oth g w w') : w'.there b o n := fun j hj =>
  ⟨by rw [World.cell?_of_block (a := ⟨b, o + j, none⟩) (ho b hb)]; exact (h j hj).1, by rw [World.frozen?_of_block (a := ⟨b, o + j, none⟩) (ho b hb)]; exact (h j hj).2⟩
section
variable {w w' : World} {g : Nat} {x : Md}
theorem VarM.below (h : VarM w g x) {B : Nat} (hk : Below B w w') (hb : g < B) : VarM w' g x := ⟨range_keep h.1 hb hk, there_keep h.2 hb hk⟩
theorem VarM.other (h : VarM w g x) {b : Nat} (ho : Oth b w w') (hb : g ≠ b) : VarM w' g x := ⟨range_other h.1 hb ho, there_other h.2 hb ho⟩
theorem VarM.lt (h : VarM w g x) : g < w.heap.size := World.block_lt_of_cell? w _ (h.1 0 _ rfl)
theorem VarM.keep (h : VarM w g x) (hk : Below w.heap.size w w') : VarM w' g x := h.below hk h.lt
theorem VarM.c0 (h : VarM w g x) : w.cell? ⟨g, 0, none⟩ = some (.int .i64 x.n) := h.1 0 _ rfl
theorem VarM.c1 (h : VarM w g x) : w.cell? ⟨g, 1, none⟩ = some (.int .i64 x.s) := h.1 1 _ rfl
theorem VarM.c2 (h : VarM w g x) : w.cell? ⟨g, 2, none⟩ = some (.int .i64 x.l) := h.1 2 _ rfl
theorem VarM.c3 (h : VarM w g x) : w.cell? ⟨g, 3, none⟩ = some (.int .i64 x.f) := h.1 3 _ rfl
theorem VarM.c4 (h : VarM w g x) : w.cell? ⟨g, 4, none⟩ = some (.int .i64 x.d) := h.1 4 _ rfl
/-- A new variable. -/
theorem varm_new (w : World) (x : Md) : VarM (w.alloc (.cells (encm x).toArray 26)) w.heap.size x := by
  have h1 : (w.alloc (.cells (encm x).toArray 26)).rangeAt w.heap.size 0 (encm x) := fun j v hv => by
    rw [Nat.zero_add, cell_of_row _ _ _ _ _ _ (heap_alloc_new w _)]
    simpa using hv
  refine ⟨h1, fun j hj => ⟨?_, frozen_of_row _ _ _ _ _ (heap_alloc_new w _)⟩⟩
  rw [h1 j _ (List.getElem?_eq_getElem (by rw [encm_len]; exact hj))]; rfl
/-- Cells of a block set: no other one is touched. -/
theorem setCells_oth (g : Nat) : ∀ (vs : List Value) (o : Nat) (w : World), Below g w (w.setCells g o vs) ∧ Oth g w (w.setCells g o vs) := by
  intro vs
  induction vs with
  | nil => exact fun o w => ⟨Below.refl _ _, fun _ _ => rfl⟩
  | cons v r ih => exact fun o w => ⟨((Below.refl _ _).setCell (p := ⟨g, o, none⟩) (Nat.le_refl _) v).trans (ih (o + 1) _).1, fun k hk => ((ih (o + 1) _).2 k hk).trans (Below.heap_setCell w ⟨g, o, none⟩ v k hk)⟩
theorem setCells_size (g : Nat) : ∀ (vs : List Value) (o : Nat) (w : World), (w.setCells g o vs).heap.size = w.heap.size := by
  intro vs
  induction vs with
  | nil => exact fun o w => rfl
  | cons v r ih => exact fun o w => (ih (o + 1) _).trans (by simp)
theorem there_set {n : Nat} (vs : List Value) (o : Nat) (h : w.there g 0 n) : (w.setCells g o vs).there g 0 n := World.there_setCells h g o vs
theorem varm_stored (ht : w.there g 0 5) (x : Md) : VarM (w.setCells g 0 (encm x)) g x := ⟨World.rangeAt_setCells_same w g 0 (encm x) ht, there_set _ _ ht⟩

/-! ### At the operation, for the walk -/
variable {ops : Array Oper} {rest : List Oper} {o : Oper} {a : Act} {Q : Exit → Act → World → Prop}
theorem wpList_boxm (hg : o.guard = none) (y : Operand) (ho : o.op = .box 26 y) (hx : a.eval y = mv x)
    (h : ∀ w', VarM w' w.heap.size x → Below w.heap.size w w' → Hid (w'.heap.size = w.heap.size + 1) → wpList Try.prog ops Q rest (a.put o.dst (.pointer (some ⟨w.heap.size, 0, none⟩))) w') : wpList Try.prog ops Q (o :: rest) a w := by
  refine wpList_plain hg fun K hK => ?_
  unfold Oper.wp execOp
  simp only [ho, hx, Sem.run_bind, Instr.box, newVar, newRow, run_newObj_alloc, Sem.run_pure, Result.andThen_ok]
  exact hK _ _ (h _ (varm_new w x) ((Below.refl _ _).alloc (Nat.le_refl _) _) (hid (by simp)))
theorem wpList_alm (hg : o.guard = none) (ho : o.op = .alloc 26)
    (h : ∀ w', VarM w' w.heap.size mz → Below w.heap.size w w' → Hid (w'.heap.size = w.heap.size + 1) → wpList Try.prog ops Q rest (a.put o.dst (.pointer (some ⟨w.heap.size, 0, none⟩))) w') : wpList Try.prog ops Q (o :: rest) a w := by
  refine wpList_plain hg fun K hK => ?_
  unfold Oper.wp execOp
  simp only [ho, Sem.run_bind, Instr.alloc, zero23, newVar, newRow, run_newObj_alloc, Sem.run_pure, Result.andThen_ok]
  exact hK _ _ (h _ (varm_new w mz) ((Below.refl _ _).alloc (Nat.le_refl _) _) (hid (by simp)))
theorem wpList_ldm (hw : Region.wanted o (yielded ops a.tmps) = true) (y : Operand) (ho : o.op = .load 26 y) (hx : a.eval y = .pointer (some ⟨g, 0, none⟩)) (hv : VarM w g x)
    (h : wpList Try.prog ops Q rest (a.put o.dst (mv x)) w) : wpList Try.prog ops Q (o :: rest) a w :=
  wpList_step fun _ hK => by rw [if_pos hw]; exact wp_load_mid 26 y ho g 0 hx (encm x) _ hv.1 Try.underlying26 rfl (by rw [size23]; rfl) (hK _ _ h)
theorem wpList_svm (hg : o.guard = none) (y z : Operand) (ho : o.op = .store 26 y z) {p : Md} (hx : a.eval y = .pointer (some ⟨g, 0, none⟩)) (hy : a.eval z = mv x) (hv : VarM w g p)
    (h : ∀ w', VarM w' g x → Below g w w' → Oth g w w' → Hid (w'.heap.size = w.heap.size) → wpList Try.prog ops Q rest (a.put o.dst undef) w') : wpList Try.prog ops Q (o :: rest) a w :=
  wpList_store_mid hg 26 y z ho g 0 (encm x).toArray hx hy hv.2 (by rw [size23]; rfl) (all_oneCell_toArray (encm_one x)) (h _ (varm_stored hv.2 x) (setCells_oth g _ _ _).1 (setCells_oth g _ _ _).2 (hid (setCells_size _ _ _ _)))
/-! ### Results that lie in cells -/
theorem ldmv (h : VarM w g x) : (loadVar 26 ⟨g, 0, none⟩).run Try.prog w = .ok (mv x) w := run_loadVar_mid w g 0 26 (encm x) _ h.1 Try.underlying26 rfl (by rw [size23]; rfl)
theorem results_1 {fn : Func} {p : Tmp} (h : fn.results = #[.cell p 26]) (tmps : Array Value) (hp : tmps.getD p undef = .pointer (some ⟨g, 0, none⟩)) (hx : VarM w g x) :
    (results fn tmps).run Try.prog w = .ok (mv x) w := by
  have := ldmv hx
  have hp' : tmps[p]?.getD undef = .pointer (some ⟨g, 0, none⟩) := by simpa using hp
  simp only [results, h]
  simp [hp', this, asAddr]
end
end Go.Proofs.Ytpncbfhbiifncaa
