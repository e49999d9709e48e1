/-
  Texts Ma of this seat, as far as they are used.
-/
import Derived.Test.YtlgedfljmgedfaaGreatProg
import Derived.WalkKit
import Derived.WalkSpells
import Derived.WalkLawsBesides
import Derived.LoopTactic
import Derived.RegionTactic
import Derived.Deep.QuietTactic
import Derived.BigQuiet
import Derived.Deep.Light
import Derived.Below
import Derived.Maps.AppendAt
import Derived.OwnWalk
import Derived.Laws.OwnMore
import Derived.Deep.MidRow
import Derived.Lib.QuietBelow
namespace Go.Proofs.YtlgedfljmgedfaaGreat.M10
open Go Go.RowKit

theorem hid {p : Prop} (h : p) : Hid p := h
theorem ret_bool {a b : Bool} (h : a = b) : Ending.returned (.bool a) = .returned (.bool b) := by rw [h]
theorem ret_int {k : IntKind} {a b : Int} (h : a = b) : Ending.returned (.int k a) = .returned (.int k b) := by rw [h]
theorem ret_two {k1 k2 : IntKind} {a b c d : Int} (h : a = b) (h' : c = d) : Ending.returned (.tuple #[.int k1 a, .int k2 c]) = .returned (.tuple #[.int k1 b, .int k2 d]) := by rw [h, h']
theorem ret_three {k1 k2 k3 : IntKind} {a b c d e f : Int} (h : a = b) (h' : c = d) (h'' : e = f) : Ending.returned (.tuple #[.int k1 a, .int k2 c, .int k3 e]) = .returned (.tuple #[.int k1 b, .int k2 d, .int k3 f]) := by rw [h, h', h'']

/-- A schedule: nodes, slot, lead, frame, window. -/
structure Md where
  n : Int
  s : Int
  l : Int
  f : Int
  d : Int
def encm (x : Md) : List Value := [.int .i64 x.n, .int .i64 x.s, .int .i64 x.l, .int .i64 x.f, .int .i64 x.d]
def mv (x : Md) : Value := .agg (encm x).toArray
def mz : Md := ⟨0, 0, 0, 0, 0⟩
theorem encm_len (x : Md) : (encm x).length = 5 := rfl
theorem encm_one (x : Md) : ∀ u ∈ encm x, u.oneCell' = true := by
  intro u hu; simp [encm] at hu; rcases hu with rfl | rfl | rfl | rfl | rfl <;> rfl
theorem size23 : (Tryz.prog.info? 23).map (·.size) = some 5 := by kernel_rfl
theorem zero23 (w : World) : (zeroValue 23).run Tryz.prog w = .ok (mv mz) w := by kernel_rfl

/-- Block g is a variable that holds the schedule. -/
def VarM (w : World) (g : Nat) (x : Md) : Prop := w.rangeAt g 0 (encm x) ∧ w.there g 0 5
/-- Only block g is another one. -/
def Oth (g : Nat) (w w' : World) : Prop := ∀ k, k ≠ g → w'.heap[k]? = w.heap[k]?
theorem range_keep {w w' : World} {b o : Nat} {cs : List Value} (h : w.rangeAt b o cs) {B : Nat} (hb : b < B) (hk : Below B w w') : w'.rangeAt b o cs := fun j v hv => (hk.cell (p := ⟨b, o + j, none⟩) hb).trans (h j v hv)
theorem there_keep {w w' : World} {b o n : Nat} (h : w.there b o n) {B : Nat} (hb : b < B) (hk : Below B w w') : w'.there b o n := fun j hj =>
  ⟨by rw [hk.cell (p := ⟨b, o + j, none⟩) hb]; exact (h j hj).1, by rw [hk.frozen (p := ⟨b, o + j, none⟩) hb]; exact (h j hj).2⟩
theorem range_other {w w' : World} {b o g : Nat} {cs : List Value} (h : w.rangeAt b o cs) (hb : b ≠ g) (ho : Oth g w w') : w'.rangeAt b o cs := fun j v hv => (World.cell?_of_block (a := ⟨b, o + j, none⟩) (ho b hb)).trans (h j v hv)
theorem there_other {w w' : World} {b o n g : Nat} (h : w.there b o n) (hb : b ≠ g) (ho : Oth g w w') : w'.there b o n := fun j hj =>
  ⟨by rw [World.cell?_of_block (a := ⟨b, o + j, none⟩) (ho b hb)]; exact (h j hj).1, by rw [World.frozen?_of_block (a := ⟨b, o + j, none⟩) (ho b hb)]; exact (h j hj).2⟩
section
variable {w w' : World} {g : Nat} {x : Md}
theorem VarM.below (h : VarM w g x) {B : Nat} (hk : Below B w w') (hb : g < B) : VarM w' g x := ⟨range_keep h.1 hb hk, there_keep h.2 hb hk⟩
theorem VarM.other (h : VarM w g x) {b : Nat} (ho : Oth b w w') (hb : g ≠ b) : VarM w' g x := ⟨range_other h.1 hb ho, there_other h.2 hb ho⟩
theorem VarM.lt (h : VarM w g x) : g < w.heap.size := World.block_lt_of_cell? w _ (h.1 0 _ rfl)
theorem VarM.keep (h : VarM w g x) (hk : Below w.heap.size w w') : VarM w' g x := h.below hk h.lt
theorem VarM.c0 (h : VarM w g x) : w.cell? ⟨g, 0, none⟩ = some (.int .i64 x.n) := h.1 0 _ rfl
theorem VarM.c1 (h : VarM w g x) : w.cell? ⟨g, 1, none⟩ = some (.int .i64 x.s) := h.1 1 _ rfl
theorem VarM.c2 (h : VarM w g x) : w.cell? ⟨g, 2, none⟩ = some (.int .i64 x.l) := h.1 2 _ rfl
theorem VarM.c3 (h : VarM w g x) : w.cell? ⟨g, 3, none⟩ = some (.int .i64 x.f) := h.1 3 _ rfl
theorem VarM.c4 (h : VarM w g x) : w.cell? ⟨g, 4, none⟩ = some (.int .i64 x.d) := h.1 4 _ rfl
/-- A new variable. -/
theorem varm_new (w : World) (x : Md) : VarM (w.alloc (.cells (encm x).toArray 23)) w.heap.size x := by
  have h1 : (w.alloc (.cells (encm x).toArray 23)).rangeAt w.heap.size 0 (encm x) := fun j v hv => by
    rw [Nat.zero_add, cell_of_row _ _ _ _ _ _ (heap_alloc_new w _)]
    simpa using hv
  refine ⟨h1, fun j hj => ⟨?_, frozen_of_row _ _ _ _ _ (heap_alloc_new w _)⟩⟩
  rw [h1 j _ (List.getElem?_eq_getElem (by rw [encm_len]; exact hj))]; rfl
/-- Cells of a block set: no other one is touched. -/
theorem setCells_oth (g : Nat) : ∀ (vs : List Value) (o : Nat) (w : World), Below g w (w.setCells g o vs) ∧ Oth g w (w.setCells g o vs) := by
  intro vs
  induction vs with
  | nil => exact fun o w => ⟨Below.refl _ _, fun _ _ => rfl⟩
  | cons v r ih => exact fun o w => ⟨((Below.refl _ _).setCell (p := ⟨g, o, none⟩) (Nat.le_refl _) v).trans (ih (o + 1) _).1, fun k hk => ((ih (o + 1) _).2 k hk).trans (Below.heap_setCell w ⟨g, o, none⟩ v k hk)⟩
theorem setCells_size (g : Nat) : ∀ (vs : List Value) (o : Nat) (w : World), (w.setCells g o vs).heap.size = w.heap.size := by
  intro vs
  induction vs with
  | nil => exact fun o w => rfl
  | cons v r ih => exact fun o w => (ih (o + 1) _).trans (by simp)
theorem there_set {n : Nat} (vs : List Value) (o : Nat) (h : w.there g 0 n) : (w.setCells g o vs).there g 0 n := World.there_setCells h g o vs
/-! ### At the operation, for the walk -/
variable {ops : Array Oper} {rest : List Oper} {o : Oper} {a : Act} {Q : Exit → Act → World → Prop}
theorem wpList_boxm (hg : o.guard = none) (y : Operand) (ho : o.op = .box 23 y) (hx : a.eval y = mv x)
    (h : ∀ w', VarM w' w.heap.size x → Below w.heap.size w w' → Hid (w'.heap.size = w.heap.size + 1) → wpList Tryz.prog ops Q rest (a.put o.dst (.pointer (some ⟨w.heap.size, 0, none⟩))) w') : wpList Tryz.prog ops Q (o :: rest) a w := by
  refine wpList_plain hg fun K hK => ?_
  unfold Oper.wp execOp
  simp only [ho, hx, Sem.run_bind, Instr.box, newVar, newRow, run_newObj_alloc, Sem.run_pure, Result.andThen_ok]
  exact hK _ _ (h _ (varm_new w x) ((Below.refl _ _).alloc (Nat.le_refl _) _) (hid (by simp)))
theorem wpList_ldm (hw : Region.wanted o (yielded ops a.tmps) = true) (y : Operand) (ho : o.op = .load 23 y) (hx : a.eval y = .pointer (some ⟨g, 0, none⟩)) (hv : VarM w g x)
    (h : wpList Tryz.prog ops Q rest (a.put o.dst (mv x)) w) : wpList Tryz.prog ops Q (o :: rest) a w :=
  wpList_step fun _ hK => by rw [if_pos hw]; exact wp_load_mid 23 y ho g 0 hx (encm x) _ hv.1 Tryz.underlying23 rfl (by rw [size23]; rfl) (hK _ _ h)
/-! ### Results that lie in cells -/
theorem ldmv (h : VarM w g x) : (loadVar 23 ⟨g, 0, none⟩).run Tryz.prog w = .ok (mv x) w := run_loadVar_mid w g 0 23 (encm x) _ h.1 Tryz.underlying23 rfl (by rw [size23]; rfl)
end
end Go.Proofs.YtlgedfljmgedfaaGreat.M10
namespace Go.Proofs.YtlgedfljmgedfaaGreat.M10
open Go Go.RowKit
def Ok (x : Md) : Prop := 2 ≤ x.n ∧ x.n ≤ 16 ∧ 16 ≤ x.s ∧ x.s ≤ 1048576 ∧ 1 ≤ x.l ∧ 1 ≤ x.f ∧ 1 ≤ x.d ∧ x.d ≤ x.l ∧ x.l + x.f + x.d < x.s
instance (x : Md) : Decidable (Ok x) := by unfold Ok; infer_instance
theorem arr0 (l f d : Int) (w : World) : (Instr.index 132 (.agg #[.int .i64 l, .int .i64 f, .int .i64 d]) (.int .i64 0)).run Tryz.prog w = .ok (.int .i64 l) w := by kernel_rfl
theorem arr1 (l f d : Int) (w : World) : (Instr.index 132 (.agg #[.int .i64 l, .int .i64 f, .int .i64 d]) (.int .i64 1)).run Tryz.prog w = .ok (.int .i64 f) w := by kernel_rfl
theorem arr2 (l f d : Int) (w : World) : (Instr.index 132 (.agg #[.int .i64 l, .int .i64 f, .int .i64 d]) (.int .i64 2)).run Tryz.prog w = .ok (.int .i64 d) w := by kernel_rfl

set_option maxRecDepth 100000 in
theorem check_ok (n s l f d : Int) (w : World) (h : Ok ⟨n, s, l, f, d⟩) : Calls Tryz.prog 54 #[mv ⟨n, s, l, f, d⟩] w fun e w' => e = .returned (.int .i64 0) ∧ Below w.heap.size w w' := by
  obtain ⟨h1, h2, h3, h4, h5, h6, h7, h8, h9⟩ := h
  simp only at h1 h2 h3 h4 h5 h6 h7 h8 h9
  have i0 := arr0 l f d
  have i1 := arr1 l f d
  have i2 := arr2 l f d
  go_enter Tryz.func54, Tryz.ntmps54
  go_wp2_with (first
    | (refine wpList_boxm (x := ⟨n, s, l, f, d⟩) rfl (.tmp 0) rfl rfl ?_; intro w1 v1 b1 s1; have c0 : w1.cell? ⟨w.heap.size, 0, none⟩ = some (.int .i64 n) := v1.c0; have c1 : w1.cell? ⟨w.heap.size, 1, none⟩ = some (.int .i64 s) := v1.c1; have c2 : w1.cell? ⟨w.heap.size, 2, none⟩ = some (.int .i64 l) := v1.c2; have c3 : w1.cell? ⟨w.heap.size, 3, none⟩ = some (.int .i64 f) := v1.c3; have c4 : w1.cell? ⟨w.heap.size, 4, none⟩ = some (.int .i64 d) := v1.c4))
  refine wp_loop_rounds 4 ?_
  rw [rounds_succ]
  go_wp2
  rw [rounds_succ]
  go_wp2
  rw [rounds_succ]
  go_wp2
  rw [rounds_succ]
  go_wp2
  go_ret
  exact ⟨rfl, b1⟩

theorem check_bad0 (n s l f d : Int) (w : World) (h : (decide (n < 2) || decide (16 < n) || decide (s < 16) || decide (1048576 < s) || decide (l < d)) = true) : Calls Tryz.prog 54 #[mv ⟨n, s, l, f, d⟩] w fun e w' => e = .returned (.int .i64 1) ∧ Below w.heap.size w w' := by
  go_enter Tryz.func54, Tryz.ntmps54
  go_wp2_with (first
    | (refine wpList_boxm (x := ⟨n, s, l, f, d⟩) rfl (.tmp 0) rfl rfl ?_; intro w1 v1 b1 s1; have c0 : w1.cell? ⟨w.heap.size, 0, none⟩ = some (.int .i64 n) := v1.c0; have c1 : w1.cell? ⟨w.heap.size, 1, none⟩ = some (.int .i64 s) := v1.c1; have c2 : w1.cell? ⟨w.heap.size, 2, none⟩ = some (.int .i64 l) := v1.c2; have c3 : w1.cell? ⟨w.heap.size, 3, none⟩ = some (.int .i64 f) := v1.c3; have c4 : w1.cell? ⟨w.heap.size, 4, none⟩ = some (.int .i64 d) := v1.c4))
  all_goals
    go_ret
    exact ⟨rfl, b1⟩
set_option maxRecDepth 100000 in
theorem check_bad1 (n s l f d : Int) (w : World) (h1 : 2 ≤ n) (h2 : n ≤ 16) (h3 : 16 ≤ s) (h4 : s ≤ 1048576) (h8 : d ≤ l) (h : (decide (l < 1) || decide (s ≤ l)) = true) : Calls Tryz.prog 54 #[mv ⟨n, s, l, f, d⟩] w fun e w' => e = .returned (.int .i64 1) ∧ Below w.heap.size w w' := by
  have i0 := arr0 l f d
  go_enter Tryz.func54, Tryz.ntmps54
  go_wp2_with (first
    | (refine wpList_boxm (x := ⟨n, s, l, f, d⟩) rfl (.tmp 0) rfl rfl ?_; intro w1 v1 b1 s1; have c0 : w1.cell? ⟨w.heap.size, 0, none⟩ = some (.int .i64 n) := v1.c0; have c1 : w1.cell? ⟨w.heap.size, 1, none⟩ = some (.int .i64 s) := v1.c1; have c2 : w1.cell? ⟨w.heap.size, 2, none⟩ = some (.int .i64 l) := v1.c2; have c3 : w1.cell? ⟨w.heap.size, 3, none⟩ = some (.int .i64 f) := v1.c3; have c4 : w1.cell? ⟨w.heap.size, 4, none⟩ = some (.int .i64 d) := v1.c4))
  refine wp_loop_rounds 1 ?_
  rw [rounds_succ]
  go_wp2
  all_goals
    go_ret
    exact ⟨rfl, b1⟩
set_option maxRecDepth 100000 in
theorem check_bad2 (n s l f d : Int) (w : World) (h1 : 2 ≤ n) (h2 : n ≤ 16) (h3 : 16 ≤ s) (h4 : s ≤ 1048576) (h8 : d ≤ l) (h5 : 1 ≤ l) (h6 : l < s) (h : (decide (f < 1) || decide (s - l ≤ f)) = true) : Calls Tryz.prog 54 #[mv ⟨n, s, l, f, d⟩] w fun e w' => e = .returned (.int .i64 1) ∧ Below w.heap.size w w' := by
  have i0 := arr0 l f d
  have i1 := arr1 l f d
  go_enter Tryz.func54, Tryz.ntmps54
  go_wp2_with (first
    | (refine wpList_boxm (x := ⟨n, s, l, f, d⟩) rfl (.tmp 0) rfl rfl ?_; intro w1 v1 b1 s1; have c0 : w1.cell? ⟨w.heap.size, 0, none⟩ = some (.int .i64 n) := v1.c0; have c1 : w1.cell? ⟨w.heap.size, 1, none⟩ = some (.int .i64 s) := v1.c1; have c2 : w1.cell? ⟨w.heap.size, 2, none⟩ = some (.int .i64 l) := v1.c2; have c3 : w1.cell? ⟨w.heap.size, 3, none⟩ = some (.int .i64 f) := v1.c3; have c4 : w1.cell? ⟨w.heap.size, 4, none⟩ = some (.int .i64 d) := v1.c4))
  refine wp_loop_rounds 2 ?_
  rw [rounds_succ]
  go_wp2
  rw [rounds_succ]
  go_wp2
  all_goals
    go_ret
    exact ⟨rfl, b1⟩
set_option maxRecDepth 100000 in
theorem check_bad3 (n s l f d : Int) (w : World) (h1 : 2 ≤ n) (h2 : n ≤ 16) (h3 : 16 ≤ s) (h4 : s ≤ 1048576) (h8 : d ≤ l) (h5 : 1 ≤ l) (h6 : l < s) (h7 : 1 ≤ f) (h9 : f < s - l) (h : (decide (d < 1) || decide (s - l - f ≤ d)) = true) : Calls Tryz.prog 54 #[mv ⟨n, s, l, f, d⟩] w fun e w' => e = .returned (.int .i64 1) ∧ Below w.heap.size w w' := by
  have i0 := arr0 l f d
  have i1 := arr1 l f d
  have i2 := arr2 l f d
  go_enter Tryz.func54, Tryz.ntmps54
  go_wp2_with (first
    | (refine wpList_boxm (x := ⟨n, s, l, f, d⟩) rfl (.tmp 0) rfl rfl ?_; intro w1 v1 b1 s1; have c0 : w1.cell? ⟨w.heap.size, 0, none⟩ = some (.int .i64 n) := v1.c0; have c1 : w1.cell? ⟨w.heap.size, 1, none⟩ = some (.int .i64 s) := v1.c1; have c2 : w1.cell? ⟨w.heap.size, 2, none⟩ = some (.int .i64 l) := v1.c2; have c3 : w1.cell? ⟨w.heap.size, 3, none⟩ = some (.int .i64 f) := v1.c3; have c4 : w1.cell? ⟨w.heap.size, 4, none⟩ = some (.int .i64 d) := v1.c4))
  refine wp_loop_rounds 3 ?_
  rw [rounds_succ]
  go_wp2
  rw [rounds_succ]
  go_wp2
  rw [rounds_succ]
  go_wp2
  all_goals
    go_ret
    exact ⟨rfl, b1⟩
def okE (x : Md) : Int := if Ok x then 0 else 1
theorem check_any (x : Md) (w : World) : Calls Tryz.prog 54 #[mv x] w fun e w' => e = .returned (.int .i64 (okE x)) ∧ Below w.heap.size w w' := by
  obtain ⟨n, s, l, f, d⟩ := x
  by_cases h : Ok ⟨n, s, l, f, d⟩
  · unfold okE; rw [if_pos h]; exact check_ok n s l f d w h
  · unfold okE; rw [if_neg h]
    by_cases a0 : n < 2 ∨ 16 < n ∨ s < 16 ∨ 1048576 < s ∨ l < d
    · exact check_bad0 n s l f d w (by simp; omega)
    · by_cases a1 : l < 1 ∨ s ≤ l
      · exact check_bad1 n s l f d w (by omega) (by omega) (by omega) (by omega) (by omega) (by simp; omega)
      · by_cases a2 : f < 1 ∨ s - l ≤ f
        · exact check_bad2 n s l f d w (by omega) (by omega) (by omega) (by omega) (by omega) (by omega) (by omega) (by simp; omega)
        · exact check_bad3 n s l f d w (by omega) (by omega) (by omega) (by omega) (by omega) (by omega) (by omega) (by omega) (by omega) (by
            have : d < 1 ∨ s - l - f ≤ d := by
              by_cases c : d < 1 ∨ s - l - f ≤ d
              · exact c
              · exact absurd (show Ok ⟨n, s, l, f, d⟩ from ⟨by simp only; omega, by simp only; omega, by simp only; omega, by simp only; omega, by simp only; omega, by simp only; omega, by simp only; omega, by simp only; omega, by simp only; omega⟩) h
            simp; omega)
end Go.Proofs.YtlgedfljmgedfaaGreat.M10
namespace Go.Proofs.YtlgedfljmgedfaaGreat.M10
open Go Go.RowKit
theorem okE_ok {x : Md} (h : Ok x) : okE x = 0 := if_pos h
theorem okE_bad {x : Md} (h : ¬ Ok x) : okE x = 1 := if_neg h
/-- The worlds of a quiet region: what was there is as it was. -/
def Cl (w w' : World) : Prop := ∃ p : Regrown, w' = Sort.grow (redrawn w p.d) p.os
theorem Cl.below {w w' : World} (h : Cl w w') : Below w.heap.size w w' := by obtain ⟨p, rfl⟩ := h; exact below_regrown w p.d p.os
/-- Loads of a schedule and of a number in a quiet region. -/
theorem wpQuiet_ldm {ops : Array Oper} {w : World} {Q : Act → Prop} {o : Oper} {rest : List Oper} {a : Act} {y : Operand} {g : Nat} {x : Md} (hw : Region.wanted o (yielded ops a.tmps) = true) (ho : o.op = .load 23 y)
    (hx : a.eval y = .pointer (some ⟨g, 0, none⟩)) (hr : VarM w g x) (h : wpQuiet Tryz.prog ops (fun w' => ∃ p : Regrown, w' = Sort.grow (redrawn w p.d) p.os) Q rest (a.put o.dst (mv x))) : wpQuiet Tryz.prog ops (fun w' => ∃ p : Regrown, w' = Sort.grow (redrawn w p.d) p.os) Q (o :: rest) a := by
  unfold wpQuiet
  rw [if_pos hw]
  refine ⟨mv x, fun w' hw' => ?_, h⟩
  unfold Oper.quietAt
  have : (execOp a.eval o).run Tryz.prog w' = .ok (.value (mv x)) w' := by
    unfold execOp
    have := ldmv (hr.keep (Cl.below hw'))
    simp only [ho, hx, Instr.loadAt, Instr.sureAddr, Sem.run_bind, Sem.run_pure, Result.andThen_ok, this]
  rw [this]
  exact ⟨rfl, rfl⟩
theorem wpQuiet_ldn {ops : Array Oper} {w : World} {Q : Act → Prop} {o : Oper} {rest : List Oper} {a : Act} {y : Operand} {p : Addr} {v : Value} (hw : Region.wanted o (yielded ops a.tmps) = true) (ho : o.op = .load 3 y)
    (hx : a.eval y = .pointer (some p)) (hr : w.cell? p = some v) (h : wpQuiet Tryz.prog ops (fun w' => ∃ p : Regrown, w' = Sort.grow (redrawn w p.d) p.os) Q rest (a.put o.dst v)) : wpQuiet Tryz.prog ops (fun w' => ∃ p : Regrown, w' = Sort.grow (redrawn w p.d) p.os) Q (o :: rest) a := by
  unfold wpQuiet
  rw [if_pos hw]
  refine ⟨v, fun w' hw' => ?_, h⟩
  unfold Oper.quietAt
  have hc : w'.cell? p = some v := by obtain ⟨q, rfl⟩ := hw'; exact cell_regrown hr q.d q.os
  have : (execOp a.eval o).run Tryz.prog w' = .ok (.value v) w' := by
    unfold execOp
    simp [ho, hx, Instr.loadAt, Instr.sureAddr, loadVar, Tryz.isAgg3, hc]
  rw [this]
  exact ⟨rfl, rfl⟩

/-! ### checkSlot, owner -/
theorem slot_any (x : Md) (k : Int) (w : World) (e : Int) (he : (if Ok x ∧ k ≤ 4294967296 then (0 : Int) else 1) = e) : Calls Tryz.prog 65 #[mv x, .int .u64 k] w fun r w' => r = .returned (.int .i64 e) ∧ Below w.heap.size w w' := by
  by_cases hk : Ok x
  · have HC := hid (fun w => (okE_ok hk ▸ check_any x w : Calls Tryz.prog 54 #[mv x] w fun e w' => e = .returned (.int .i64 0) ∧ Below w.heap.size w w'))
    by_cases h4 : k ≤ 4294967296
    · rw [if_pos ⟨hk, h4⟩] at he
      subst he
      clear hk
      have h4' : decide (4294967296 < k) = false := by simp; omega
      clear h4
      go_enter Tryz.func65, Tryz.ntmps65
      go_wp2_with (first
        | (go_at_call 54; (with_reducible refine (HC.out w1).mono ?_); rintro e w2 ⟨rfl, b2⟩; have B2 : Hid (Below w.heap.size w w2) := hid (b1.trans (b2.mono b1.size)))
        | (refine wpList_ldm rfl (.tmp 2) rfl rfl v1 ?_)
        | (refine wpList_boxm (x := x) rfl (.tmp 0) rfl rfl ?_; intro w1 v1 b1 s1))
      go_ret
      exact ⟨rfl, B2.out⟩
    · rw [if_neg (by intro h; exact h4 h.2)] at he
      subst he
      clear hk
      have h4' : decide (4294967296 < k) = true := by simp; omega
      clear h4
      go_enter Tryz.func65, Tryz.ntmps65
      go_wp2_with (first
        | (go_at_call 54; (with_reducible refine (HC.out w1).mono ?_); rintro e w2 ⟨rfl, b2⟩; have B2 : Hid (Below w.heap.size w w2) := hid (b1.trans (b2.mono b1.size)))
        | (refine wpList_ldm rfl (.tmp 2) rfl rfl v1 ?_)
        | (refine wpList_boxm (x := x) rfl (.tmp 0) rfl rfl ?_; intro w1 v1 b1 s1))
      go_ret
      exact ⟨rfl, B2.out⟩
  · have HC := hid (fun w => (okE_bad hk ▸ check_any x w : Calls Tryz.prog 54 #[mv x] w fun e w' => e = .returned (.int .i64 1) ∧ Below w.heap.size w w'))
    rw [if_neg (by intro h; exact hk h.1)] at he
    subst he
    clear hk
    go_enter Tryz.func65, Tryz.ntmps65
    go_wp2_with (first
      | (go_at_call 54; (with_reducible refine (HC.out w1).mono ?_); rintro e w2 ⟨rfl, b2⟩; have B2 : Hid (Below w.heap.size w w2) := hid (b1.trans (b2.mono b1.size)))
      | (refine wpList_ldm rfl (.tmp 2) rfl rfl v1 ?_)
      | (refine wpList_boxm (x := x) rfl (.tmp 0) rfl rfl ?_; intro w1 v1 b1 s1))
    go_ret
    exact ⟨rfl, B2.out⟩
theorem owner_ok (n s l f d k O : Int) (w : World) (h1 : 2 ≤ n) (h2 : n ≤ 16) (hk : 0 ≤ k) (hk2 : k ≤ 4294967296) (hO : k % n = O) : Calls Tryz.prog 66 #[mv ⟨n, s, l, f, d⟩, .int .u64 k] w fun r w' => r = .returned (.int .i64 O) ∧ Below w.heap.size w w' := by
  have a1 := Int.emod_nonneg k (show n ≠ 0 by omega)
  have a2 := Int.emod_lt_of_pos k (show 0 < n by omega)
  rw [hO] at a1 a2
  go_enter Tryz.func66, Tryz.ntmps66
  go_wp2_with (first
    | (refine wpList_boxm (x := ⟨n, s, l, f, d⟩) rfl (.tmp 0) rfl rfl ?_; intro w1 v1 b1 s1; have c0 : w1.cell? ⟨w.heap.size, 0, none⟩ = some (.int .i64 n) := v1.c0))
  go_ret
  exact ⟨ret_int (by first | exact hO | rfl | omega), b1⟩
/-! ### What may not be -/
theorem own_bad (x : Md) (k : Int) (w : World) (h : ¬ (Ok x ∧ k ≤ 4294967296)) : Calls Tryz.prog 25 #[mv x, .int .u64 k] w fun r w' => r = .returned (.tuple #[.int .i64 0, .int .i64 1]) ∧ Below w.heap.size w w' := by
  have HC := hid (fun w => slot_any x k w 1 (if_neg h))
  clear h
  go_enter Tryz.func25, Tryz.ntmps25
  go_wp2_with (first
    | (go_at_call 65; (with_reducible refine (HC.out w1).mono ?_); rintro e w2 ⟨rfl, b2⟩; have B2 : Hid (Below w.heap.size w w2) := hid (b1.trans (b2.mono b1.size)))
    | (refine wpList_ldm rfl (.tmp 2) rfl rfl v1 ?_)
    | (refine wpList_boxm (x := x) rfl (.tmp 0) rfl rfl ?_; intro w1 v1 b1 s1))
  go_ret2
  exact ⟨rfl, B2.out⟩
theorem own_ok (n s l f d k O : Int) (w : World) (h : Ok ⟨n, s, l, f, d⟩) (hk : 0 ≤ k) (hk2 : k ≤ 4294967296) (hO : k % n = O) : Calls Tryz.prog 25 #[mv ⟨n, s, l, f, d⟩, .int .u64 k] w fun r w' => r = .returned (.tuple #[.int .i64 O, .int .i64 0]) ∧ Below w.heap.size w w' := by
  have HC := hid (fun w => slot_any ⟨n, s, l, f, d⟩ k w 0 (if_pos ⟨h, hk2⟩))
  have HO := hid (fun w => owner_ok n s l f d k O w h.1 h.2.1 hk hk2 hO)
  clear hO
  obtain ⟨h1, h2, h3, h4, h5, h6, h7, h8, h9⟩ := h
  simp only at h1 h2 h3 h4 h5 h6 h7 h8 h9
  go_enter Tryz.func25, Tryz.ntmps25
  go_wp2_with (first
    | (go_at_call 66; (with_reducible refine (HO.out w2).mono ?_); rintro e w3 ⟨rfl, b3⟩; have B3 : Hid (Below w.heap.size w w3) := hid (B2.out.trans (b3.mono B2.out.size)))
    | (refine wpList_ldm rfl (.tmp 2) rfl rfl v2 ?_)
    | (go_at_call 65; (with_reducible refine (HC.out w1).mono ?_); rintro e w2 ⟨rfl, b2⟩; have v2 := v1.keep b2; have B2 : Hid (Below w.heap.size w w2) := hid (b1.trans (b2.mono b1.size)); clear v1)
    | (refine wpList_ldm rfl (.tmp 2) rfl rfl v1 ?_)
    | (refine wpList_boxm (x := ⟨n, s, l, f, d⟩) rfl (.tmp 0) rfl rfl ?_; intro w1 v1 b1 s1))
  go_ret2
  exact ⟨rfl, B3.out⟩
end Go.Proofs.YtlgedfljmgedfaaGreat.M10
namespace Go.Proofs.YtlgedfljmgedfaaGreat.M10
open Go Go.RowKit
end Go.Proofs.YtlgedfljmgedfaaGreat.M10
