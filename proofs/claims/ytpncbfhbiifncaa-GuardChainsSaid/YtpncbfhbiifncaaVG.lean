/-
  Words for memory: a guardian's four cells (Gd), a variable that holds one (VarG), what box, alloc, loads and stores do to it. No condition but what each head says.
-/
import Derived.Test.YtpncbfhbiifncaaV
import Derived.WalkKit
import Derived.WalkSpells
import Derived.WalkLawsBesides
import Derived.LoopTactic
import Derived.RegionTactic
import Derived.Deep.QuietTactic
import Derived.BigQuiet
import Derived.Deep.Light
import Derived.Below
import Derived.Maps.AppendAt
import Derived.OwnWalk
import Derived.Laws.OwnMore
import Derived.Deep.MidRow
namespace Go.Proofs.Ytpncbfhbiifncaa
open Go Go.RowKit

/-- A guardian: on, knows the time, slot, at. -/
structure Gd where
  o : Bool
  k : Bool
  s : Int
  a : Int
deriving DecidableEq
def gz : Gd := ⟨false, false, 0, 0⟩
/-- A guardian's cells, its value. -/
def encg (x : Gd) : List Value := [.bool x.o, .bool x.k, .int .u64 x.s, .int .i64 x.a]
def gv (x : Gd) : Value := .agg (encg x).toArray
theorem encg_len (x : Gd) : (encg x).length = 4 := rfl
theorem encg_one (x : Gd) : ∀ u ∈ encg x, u.oneCell' = true := by
  intro u hu; simp [encg] at hu; rcases hu with rfl | rfl | rfl | rfl <;> rfl
theorem size24 : (Try.prog.info? 24).map (·.size) = some 4 := by kernel_rfl
theorem zero24 (w : World) : (zeroValue 24).run Try.prog w = .ok (gv gz) w := by kernel_rfl

/-- Block g is a variable that holds the guardian. -/
def VarG (w : World) (g : Nat) (x : Gd) : Prop := w.rangeAt g 0 (encg x) ∧ w.there g 0 4

section
variable {w w' : World} {g : Nat} {x : Gd}
theorem VarG.below (h : VarG w g x) {B : Nat} (hk : Below B w w') (hb : g < B) : VarG w' g x := ⟨range_keep h.1 hb hk, there_keep h.2 hb hk⟩
theorem VarG.other (h : VarG w g x) {b : Nat} (ho : Oth b w w') (hb : g ≠ b) : VarG w' g x := ⟨range_other h.1 hb ho, there_other h.2 hb ho⟩
theorem VarG.lt (h : VarG w g x) : g < w.heap.size := World.block_lt_of_cell? w _ (h.1 0 _ rfl)
theorem VarG.keep (h : VarG w g x) (hk : Below w.heap.size w w') : VarG w' g x := h.below hk h.lt
theorem VarG.c0 (h : VarG w g x) : w.cell? ⟨g, 0, none⟩ = some (.bool x.o) := h.1 0 _ rfl
theorem VarG.c1 (h : VarG w g x) : w.cell? ⟨g, 1, none⟩ = some (.bool x.k) := h.1 1 _ rfl
theorem VarG.c2 (h : VarG w g x) : w.cell? ⟨g, 2, none⟩ = some (.int .u64 x.s) := h.1 2 _ rfl
theorem VarG.c3 (h : VarG w g x) : w.cell? ⟨g, 3, none⟩ = some (.int .i64 x.a) := h.1 3 _ rfl
/-- A new variable. -/
theorem varg_new (w : World) (x : Gd) : VarG (w.alloc (.cells (encg x).toArray 24)) w.heap.size x := by
  have h1 : (w.alloc (.cells (encg x).toArray 24)).rangeAt w.heap.size 0 (encg x) := fun j v hv => by
    rw [Nat.zero_add, cell_of_row _ _ _ _ _ _ (heap_alloc_new w _)]
    simpa using hv
  refine ⟨h1, fun j hj => ⟨?_, frozen_of_row _ _ _ _ _ (heap_alloc_new w _)⟩⟩
  rw [h1 j _ (List.getElem?_eq_getElem (by rw [encg_len]; exact hj))]; rfl

theorem varg_stored (ht : w.there g 0 4) (x : Gd) : VarG (w.setCells g 0 (encg x)) g x := ⟨World.rangeAt_setCells_same w g 0 (encg x) ht, there_set _ _ ht⟩

/-! ### At the operation, for the walk -/
variable {ops : Array Oper} {rest : List Oper} {o : Oper} {a : Act} {Q : Exit → Act → World → Prop}
theorem wpList_boxg (hg : o.guard = none) (y : Operand) (ho : o.op = .box 24 y) (hx : a.eval y = gv x)
    (h : ∀ w', VarG w' w.heap.size x → Below w.heap.size w w' → Hid (w'.heap.size = w.heap.size + 1) → wpList Try.prog ops Q rest (a.put o.dst (.pointer (some ⟨w.heap.size, 0, none⟩))) w') : wpList Try.prog ops Q (o :: rest) a w := by
  refine wpList_plain hg fun K hK => ?_
  unfold Oper.wp execOp
  simp only [ho, hx, Sem.run_bind, Instr.box, newVar, newRow, run_newObj_alloc, Sem.run_pure, Result.andThen_ok]
  exact hK _ _ (h _ (varg_new w x) ((Below.refl _ _).alloc (Nat.le_refl _) _) (hid (by simp)))
theorem wpList_alg (hg : o.guard = none) (ho : o.op = .alloc 24)
    (h : ∀ w', VarG w' w.heap.size gz → Below w.heap.size w w' → Hid (w'.heap.size = w.heap.size + 1) → wpList Try.prog ops Q rest (a.put o.dst (.pointer (some ⟨w.heap.size, 0, none⟩))) w') : wpList Try.prog ops Q (o :: rest) a w := by
  refine wpList_plain hg fun K hK => ?_
  unfold Oper.wp execOp
  simp only [ho, Sem.run_bind, Instr.alloc, zero24, newVar, newRow, run_newObj_alloc, Sem.run_pure, Result.andThen_ok]
  exact hK _ _ (h _ (varg_new w gz) ((Below.refl _ _).alloc (Nat.le_refl _) _) (hid (by simp)))
theorem wpList_ldg (hw : Region.wanted o (yielded ops a.tmps) = true) (y : Operand) (ho : o.op = .load 24 y) (hx : a.eval y = .pointer (some ⟨g, 0, none⟩)) (hv : VarG w g x)
    (h : wpList Try.prog ops Q rest (a.put o.dst (gv x)) w) : wpList Try.prog ops Q (o :: rest) a w :=
  wpList_step fun _ hK => by rw [if_pos hw]; exact wp_load_mid 24 y ho g 0 hx (encg x) _ hv.1 Try.underlying24 rfl (by rw [size24]; rfl) (hK _ _ h)
theorem wpList_svg (hg : o.guard = none) (y z : Operand) (ho : o.op = .store 24 y z) {p : Gd} (hx : a.eval y = .pointer (some ⟨g, 0, none⟩)) (hy : a.eval z = gv x) (hv : VarG w g p)
    (h : ∀ w', VarG w' g x → Below g w w' → Oth g w w' → Hid (w'.heap.size = w.heap.size) → wpList Try.prog ops Q rest (a.put o.dst undef) w') : wpList Try.prog ops Q (o :: rest) a w :=
  wpList_store_mid hg 24 y z ho g 0 (encg x).toArray hx hy hv.2 (by rw [size24]; rfl) (all_oneCell_toArray (encg_one x)) (h _ (varg_stored hv.2 x) (setCells_oth g _ _ _).1 (setCells_oth g _ _ _).2 (hid (setCells_size _ _ _ _)))
/-! ### Results that lie in cells -/
theorem ldgv (h : VarG w g x) : (loadVar 24 ⟨g, 0, none⟩).run Try.prog w = .ok (gv x) w := run_loadVar_mid w g 0 24 (encg x) _ h.1 Try.underlying24 rfl (by rw [size24]; rfl)
theorem results_g {fn : Func} {p : Tmp} (h : fn.results = #[.cell p 24]) (tmps : Array Value) (hp : tmps.getD p undef = .pointer (some ⟨g, 0, none⟩)) (hx : VarG w g x) :
    (results fn tmps).run Try.prog w = .ok (gv x) w := by
  have := ldgv hx
  have hp' : tmps[p]?.getD undef = .pointer (some ⟨g, 0, none⟩) := by simpa using hp
  simp only [results, h]
  simp [hp', this, asAddr]
theorem results_g3 {fn : Func} {p q r : Tmp} (h : fn.results = #[.cell p 24, .tmp q, .tmp r]) (tmps : Array Value) (hp : tmps.getD p undef = .pointer (some ⟨g, 0, none⟩)) (hx : VarG w g x) :
    (results fn tmps).run Try.prog w = .ok (.tuple #[gv x, tmps.getD q undef, tmps.getD r undef]) w := by
  have := ldgv hx
  have hp' : tmps[p]?.getD undef = .pointer (some ⟨g, 0, none⟩) := by simpa using hp
  simp only [results, h]
  simp [Result.andThen, hp', this, asAddr]
end
end Go.Proofs.Ytpncbfhbiifncaa
