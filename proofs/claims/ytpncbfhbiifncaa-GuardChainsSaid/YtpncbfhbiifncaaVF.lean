/-
  Words for memory: a frame's four cells (Fr), a variable that holds one (VarF), what box, alloc, loads and stores do to it. No condition but what each head says.
-/
import Derived.Test.YtpncbfhbiifncaaV
import Derived.WalkKit
import Derived.WalkSpells
import Derived.WalkLawsBesides
import Derived.LoopTactic
import Derived.RegionTactic
import Derived.Deep.QuietTactic
import Derived.BigQuiet
import Derived.Deep.Light
import Derived.Below
import Derived.Maps.AppendAt
import Derived.OwnWalk
import Derived.Laws.OwnMore
import Derived.Deep.MidRow
namespace Go.Proofs.Ytpncbfhbiifncaa
open Go Go.RowKit

/-- A frame: kind, from, slot, members. -/
structure Fr where
  k : Int
  f : Int
  s : Nat
  m : Nat
deriving DecidableEq
def fz : Fr := ⟨0, 0, 0, 0⟩
/-- It may be. -/
def OkF (x : Fr) : Prop := (x.k = 1 ∨ x.k = 2) ∧ 0 ≤ x.f ∧ x.f ≤ 15 ∧ x.s ≤ 4294967296
instance (x : Fr) : Decidable (OkF x) := by unfold OkF; infer_instance

/-- A frame's cells, its value. -/
def encf (x : Fr) : List Value := [.int .i64 x.k, .int .i64 x.f, .int .u64 (x.s : Int), .int .u16 (x.m : Int)]
def fv (x : Fr) : Value := .agg (encf x).toArray
theorem encf_len (x : Fr) : (encf x).length = 4 := rfl
theorem encf_one (x : Fr) : ∀ u ∈ encf x, u.oneCell' = true := by
  intro u hu; simp [encf] at hu; rcases hu with rfl | rfl | rfl | rfl <;> rfl
theorem size25 : (Try.prog.info? 37).map (·.size) = some 4 := by kernel_rfl
theorem zero25 (w : World) : (zeroValue 37).run Try.prog w = .ok (fv fz) w := by kernel_rfl

/-- Block g is a variable that holds the frame. -/
def VarF (w : World) (g : Nat) (x : Fr) : Prop := w.rangeAt g 0 (encf x) ∧ w.there g 0 4

section
variable {w w' : World} {g : Nat} {x : Fr}
theorem VarF.below (h : VarF w g x) {B : Nat} (hk : Below B w w') (hb : g < B) : VarF w' g x := ⟨range_keep h.1 hb hk, there_keep h.2 hb hk⟩
theorem VarF.other (h : VarF w g x) {b : Nat} (ho : Oth b w w') (hb : g ≠ b) : VarF w' g x := ⟨range_other h.1 hb ho, there_other h.2 hb ho⟩
theorem VarF.lt (h : VarF w g x) : g < w.heap.size := World.block_lt_of_cell? w _ (h.1 0 _ rfl)
theorem VarF.keep (h : VarF w g x) (hk : Below w.heap.size w w') : VarF w' g x := h.below hk h.lt
theorem VarF.c0 (h : VarF w g x) : w.cell? ⟨g, 0, none⟩ = some (.int .i64 x.k) := h.1 0 _ rfl
theorem VarF.c1 (h : VarF w g x) : w.cell? ⟨g, 1, none⟩ = some (.int .i64 x.f) := h.1 1 _ rfl
theorem VarF.c2 (h : VarF w g x) : w.cell? ⟨g, 2, none⟩ = some (.int .u64 (x.s : Int)) := h.1 2 _ rfl
theorem VarF.c3 (h : VarF w g x) : w.cell? ⟨g, 3, none⟩ = some (.int .u16 (x.m : Int)) := h.1 3 _ rfl
/-- A new variable. -/
theorem varf_new (w : World) (x : Fr) : VarF (w.alloc (.cells (encf x).toArray 37)) w.heap.size x := by
  have h1 : (w.alloc (.cells (encf x).toArray 37)).rangeAt w.heap.size 0 (encf x) := fun j v hv => by
    rw [Nat.zero_add, cell_of_row _ _ _ _ _ _ (heap_alloc_new w _)]
    simpa using hv
  refine ⟨h1, fun j hj => ⟨?_, frozen_of_row _ _ _ _ _ (heap_alloc_new w _)⟩⟩
  rw [h1 j _ (List.getElem?_eq_getElem (by rw [encf_len]; exact hj))]; rfl

theorem varf_stored (ht : w.there g 0 4) (x : Fr) : VarF (w.setCells g 0 (encf x)) g x := ⟨World.rangeAt_setCells_same w g 0 (encf x) ht, there_set _ _ ht⟩

/-! ### At the operation, for the walk -/
variable {ops : Array Oper} {rest : List Oper} {o : Oper} {a : Act} {Q : Exit → Act → World → Prop}
theorem wpList_boxf (hg : o.guard = none) (y : Operand) (ho : o.op = .box 37 y) (hx : a.eval y = fv x)
    (h : ∀ w', VarF w' w.heap.size x → Below w.heap.size w w' → Hid (w'.heap.size = w.heap.size + 1) → wpList Try.prog ops Q rest (a.put o.dst (.pointer (some ⟨w.heap.size, 0, none⟩))) w') : wpList Try.prog ops Q (o :: rest) a w := by
  refine wpList_plain hg fun K hK => ?_
  unfold Oper.wp execOp
  simp only [ho, hx, Sem.run_bind, Instr.box, newVar, newRow, run_newObj_alloc, Sem.run_pure, Result.andThen_ok]
  exact hK _ _ (h _ (varf_new w x) ((Below.refl _ _).alloc (Nat.le_refl _) _) (hid (by simp)))
theorem wpList_alf (hg : o.guard = none) (ho : o.op = .alloc 37)
    (h : ∀ w', VarF w' w.heap.size fz → Below w.heap.size w w' → Hid (w'.heap.size = w.heap.size + 1) → wpList Try.prog ops Q rest (a.put o.dst (.pointer (some ⟨w.heap.size, 0, none⟩))) w') : wpList Try.prog ops Q (o :: rest) a w := by
  refine wpList_plain hg fun K hK => ?_
  unfold Oper.wp execOp
  simp only [ho, Sem.run_bind, Instr.alloc, zero25, newVar, newRow, run_newObj_alloc, Sem.run_pure, Result.andThen_ok]
  exact hK _ _ (h _ (varf_new w fz) ((Below.refl _ _).alloc (Nat.le_refl _) _) (hid (by simp)))
theorem wpList_ldf (hw : Region.wanted o (yielded ops a.tmps) = true) (y : Operand) (ho : o.op = .load 37 y) (hx : a.eval y = .pointer (some ⟨g, 0, none⟩)) (hv : VarF w g x)
    (h : wpList Try.prog ops Q rest (a.put o.dst (fv x)) w) : wpList Try.prog ops Q (o :: rest) a w :=
  wpList_step fun _ hK => by rw [if_pos hw]; exact wp_load_mid 37 y ho g 0 hx (encf x) _ hv.1 Try.underlying37 rfl (by rw [size25]; rfl) (hK _ _ h)
theorem wpList_svf (hg : o.guard = none) (y z : Operand) (ho : o.op = .store 37 y z) {p : Fr} (hx : a.eval y = .pointer (some ⟨g, 0, none⟩)) (hy : a.eval z = fv x) (hv : VarF w g p)
    (h : ∀ w', VarF w' g x → Below g w w' → Oth g w w' → Hid (w'.heap.size = w.heap.size) → wpList Try.prog ops Q rest (a.put o.dst undef) w') : wpList Try.prog ops Q (o :: rest) a w :=
  wpList_store_mid hg 37 y z ho g 0 (encf x).toArray hx hy hv.2 (by rw [size25]; rfl) (all_oneCell_toArray (encf_one x)) (h _ (varf_stored hv.2 x) (setCells_oth g _ _ _).1 (setCells_oth g _ _ _).2 (hid (setCells_size _ _ _ _)))
/-! ### Results that lie in cells -/
theorem ldfv (h : VarF w g x) : (loadVar 37 ⟨g, 0, none⟩).run Try.prog w = .ok (fv x) w := run_loadVar_mid w g 0 37 (encf x) _ h.1 Try.underlying37 rfl (by rw [size25]; rfl)
theorem results_f {fn : Func} {p : Tmp} (h : fn.results = #[.cell p 37]) (tmps : Array Value) (hp : tmps.getD p undef = .pointer (some ⟨g, 0, none⟩)) (hx : VarF w g x) :
    (results fn tmps).run Try.prog w = .ok (fv x) w := by
  have := ldfv hx
  have hp' : tmps[p]?.getD undef = .pointer (some ⟨g, 0, none⟩) := by simpa using hp
  simp only [results, h]
  simp [hp', this, asAddr]
end
end Go.Proofs.Ytpncbfhbiifncaa
