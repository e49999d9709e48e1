/-
  Texts Ma, Mb, Mc of this seat, as far as they are used.
-/
import Derived.Test.YtlgedfljmgedfaaGreatProg
import Derived.WalkKit
import Derived.WalkSpells
import Derived.WalkLawsBesides
import Derived.LoopTactic
import Derived.RegionTactic
import Derived.Deep.QuietTactic
import Derived.BigQuiet
import Derived.Deep.Light
import Derived.Below
import Derived.Maps.AppendAt
import Derived.OwnWalk
import Derived.Laws.OwnMore
import Derived.Deep.MidRow
import Derived.Lib.QuietBelow
import Derived.Laws.BitsAllLaws
import Derived.Deep.RegionHeld3
import Derived.Deep.DeepCutAuto
import Derived.Maps.OwnSet
namespace Go.Proofs.YtlgedfljmgedfaaGreat.M10
open Go Go.RowKit

theorem hid {p : Prop} (h : p) : Hid p := h
theorem ret_bool {a b : Bool} (h : a = b) : Ending.returned (.bool a) = .returned (.bool b) := by rw [h]
theorem ret_int {k : IntKind} {a b : Int} (h : a = b) : Ending.returned (.int k a) = .returned (.int k b) := by rw [h]
theorem ret_two {k1 k2 : IntKind} {a b c d : Int} (h : a = b) (h' : c = d) : Ending.returned (.tuple #[.int k1 a, .int k2 c]) = .returned (.tuple #[.int k1 b, .int k2 d]) := by rw [h, h']
theorem ret_three {k1 k2 k3 : IntKind} {a b c d e f : Int} (h : a = b) (h' : c = d) (h'' : e = f) : Ending.returned (.tuple #[.int k1 a, .int k2 c, .int k3 e]) = .returned (.tuple #[.int k1 b, .int k2 d, .int k3 f]) := by rw [h, h', h'']

/-- A schedule: nodes, slot, lead, frame, window. -/
structure Md where
  n : Int
  s : Int
  l : Int
  f : Int
  d : Int
def encm (x : Md) : List Value := [.int .i64 x.n, .int .i64 x.s, .int .i64 x.l, .int .i64 x.f, .int .i64 x.d]
def mv (x : Md) : Value := .agg (encm x).toArray
def mz : Md := ⟨0, 0, 0, 0, 0⟩
theorem encm_len (x : Md) : (encm x).length = 5 := rfl
theorem encm_one (x : Md) : ∀ u ∈ encm x, u.oneCell' = true := by
  intro u hu; simp [encm] at hu; rcases hu with rfl | rfl | rfl | rfl | rfl <;> rfl
theorem size23 : (Tryz.prog.info? 23).map (·.size) = some 5 := by kernel_rfl
theorem zero23 (w : World) : (zeroValue 23).run Tryz.prog w = .ok (mv mz) w := by kernel_rfl

/-- Block g is a variable that holds the schedule. -/
def VarM (w : World) (g : Nat) (x : Md) : Prop := w.rangeAt g 0 (encm x) ∧ w.there g 0 5
/-- Only block g is another one. -/
def Oth (g : Nat) (w w' : World) : Prop := ∀ k, k ≠ g → w'.heap[k]? = w.heap[k]?
theorem range_keep {w w' : World} {b o : Nat} {cs : List Value} (h : w.rangeAt b o cs) {B : Nat} (hb : b < B) (hk : Below B w w') : w'.rangeAt b o cs := fun j v hv => (hk.cell (p := ⟨b, o + j, none⟩) hb).trans (h j v hv)
theorem there_keep {w w' : World} {b o n : Nat} (h : w.there b o n) {B : Nat} (hb : b < B) (hk : Below B w w') : w'.there b o n := fun j hj =>
  ⟨by rw [hk.cell (p := ⟨b, o + j, none⟩) hb]; exact (h j hj).1, by rw [hk.frozen (p := ⟨b, o + j, none⟩) hb]; exact (h j hj).2⟩
theorem range_other {w w' : World} {b o g : Nat} {cs : List Value} (h : w.rangeAt b o cs) (hb : b ≠ g) (ho : Oth g w w') : w'.rangeAt b o cs := fun j v hv => (World.cell?_of_block (a := ⟨b, o + j, none⟩) (ho b hb)).trans (h j v hv)
theorem there_other {w w' : World} {b o n g : Nat} (h : w.there b o n) (hb : b ≠ g) (ho : Oth g w w') : w'.there b o n := fun j hj =>
  ⟨by rw [World.cell?_of_block (a := ⟨b, o + j, none⟩) (ho b hb)]; exact (h j hj).1, by rw [World.frozen?_of_block (a := ⟨b, o + j, none⟩) (ho b hb)]; exact (h j hj).2⟩
section
variable {w w' : World} {g : Nat} {x : Md}
theorem VarM.below (h : VarM w g x) {B : Nat} (hk : Below B w w') (hb : g < B) : VarM w' g x := ⟨range_keep h.1 hb hk, there_keep h.2 hb hk⟩
theorem VarM.other (h : VarM w g x) {b : Nat} (ho : Oth b w w') (hb : g ≠ b) : VarM w' g x := ⟨range_other h.1 hb ho, there_other h.2 hb ho⟩
theorem VarM.lt (h : VarM w g x) : g < w.heap.size := World.block_lt_of_cell? w _ (h.1 0 _ rfl)
theorem VarM.keep (h : VarM w g x) (hk : Below w.heap.size w w') : VarM w' g x := h.below hk h.lt
theorem VarM.c0 (h : VarM w g x) : w.cell? ⟨g, 0, none⟩ = some (.int .i64 x.n) := h.1 0 _ rfl
theorem VarM.c1 (h : VarM w g x) : w.cell? ⟨g, 1, none⟩ = some (.int .i64 x.s) := h.1 1 _ rfl
theorem VarM.c2 (h : VarM w g x) : w.cell? ⟨g, 2, none⟩ = some (.int .i64 x.l) := h.1 2 _ rfl
theorem VarM.c3 (h : VarM w g x) : w.cell? ⟨g, 3, none⟩ = some (.int .i64 x.f) := h.1 3 _ rfl
theorem VarM.c4 (h : VarM w g x) : w.cell? ⟨g, 4, none⟩ = some (.int .i64 x.d) := h.1 4 _ rfl
/-- A new variable. -/
theorem varm_new (w : World) (x : Md) : VarM (w.alloc (.cells (encm x).toArray 23)) w.heap.size x := by
  have h1 : (w.alloc (.cells (encm x).toArray 23)).rangeAt w.heap.size 0 (encm x) := fun j v hv => by
    rw [Nat.zero_add, cell_of_row _ _ _ _ _ _ (heap_alloc_new w _)]
    simpa using hv
  refine ⟨h1, fun j hj => ⟨?_, frozen_of_row _ _ _ _ _ (heap_alloc_new w _)⟩⟩
  rw [h1 j _ (List.getElem?_eq_getElem (by rw [encm_len]; exact hj))]; rfl
/-- Cells of a block set: no other one is touched. -/
theorem setCells_oth (g : Nat) : ∀ (vs : List Value) (o : Nat) (w : World), Below g w (w.setCells g o vs) ∧ Oth g w (w.setCells g o vs) := by
  intro vs
  induction vs with
  | nil => exact fun o w => ⟨Below.refl _ _, fun _ _ => rfl⟩
  | cons v r ih => exact fun o w => ⟨((Below.refl _ _).setCell (p := ⟨g, o, none⟩) (Nat.le_refl _) v).trans (ih (o + 1) _).1, fun k hk => ((ih (o + 1) _).2 k hk).trans (Below.heap_setCell w ⟨g, o, none⟩ v k hk)⟩
theorem setCells_size (g : Nat) : ∀ (vs : List Value) (o : Nat) (w : World), (w.setCells g o vs).heap.size = w.heap.size := by
  intro vs
  induction vs with
  | nil => exact fun o w => rfl
  | cons v r ih => exact fun o w => (ih (o + 1) _).trans (by simp)
theorem there_set {n : Nat} (vs : List Value) (o : Nat) (h : w.there g 0 n) : (w.setCells g o vs).there g 0 n := World.there_setCells h g o vs
/-! ### At the operation, for the walk -/
variable {ops : Array Oper} {rest : List Oper} {o : Oper} {a : Act} {Q : Exit → Act → World → Prop}
theorem wpList_boxm (hg : o.guard = none) (y : Operand) (ho : o.op = .box 23 y) (hx : a.eval y = mv x)
    (h : ∀ w', VarM w' w.heap.size x → Below w.heap.size w w' → Hid (w'.heap.size = w.heap.size + 1) → wpList Tryz.prog ops Q rest (a.put o.dst (.pointer (some ⟨w.heap.size, 0, none⟩))) w') : wpList Tryz.prog ops Q (o :: rest) a w := by
  refine wpList_plain hg fun K hK => ?_
  unfold Oper.wp execOp
  simp only [ho, hx, Sem.run_bind, Instr.box, newVar, newRow, run_newObj_alloc, Sem.run_pure, Result.andThen_ok]
  exact hK _ _ (h _ (varm_new w x) ((Below.refl _ _).alloc (Nat.le_refl _) _) (hid (by simp)))
theorem wpList_ldm (hw : Region.wanted o (yielded ops a.tmps) = true) (y : Operand) (ho : o.op = .load 23 y) (hx : a.eval y = .pointer (some ⟨g, 0, none⟩)) (hv : VarM w g x)
    (h : wpList Tryz.prog ops Q rest (a.put o.dst (mv x)) w) : wpList Tryz.prog ops Q (o :: rest) a w :=
  wpList_step fun _ hK => by rw [if_pos hw]; exact wp_load_mid 23 y ho g 0 hx (encm x) _ hv.1 Tryz.underlying23 rfl (by rw [size23]; rfl) (hK _ _ h)
/-! ### Results that lie in cells -/
theorem ldmv (h : VarM w g x) : (loadVar 23 ⟨g, 0, none⟩).run Tryz.prog w = .ok (mv x) w := run_loadVar_mid w g 0 23 (encm x) _ h.1 Tryz.underlying23 rfl (by rw [size23]; rfl)
end
end Go.Proofs.YtlgedfljmgedfaaGreat.M10
namespace Go.Proofs.YtlgedfljmgedfaaGreat.M10
open Go Go.RowKit
def Ok (x : Md) : Prop := 2 ≤ x.n ∧ x.n ≤ 16 ∧ 16 ≤ x.s ∧ x.s ≤ 1048576 ∧ 1 ≤ x.l ∧ 1 ≤ x.f ∧ 1 ≤ x.d ∧ x.d ≤ x.l ∧ x.l + x.f + x.d < x.s
instance (x : Md) : Decidable (Ok x) := by unfold Ok; infer_instance
theorem arr0 (l f d : Int) (w : World) : (Instr.index 132 (.agg #[.int .i64 l, .int .i64 f, .int .i64 d]) (.int .i64 0)).run Tryz.prog w = .ok (.int .i64 l) w := by kernel_rfl
theorem arr1 (l f d : Int) (w : World) : (Instr.index 132 (.agg #[.int .i64 l, .int .i64 f, .int .i64 d]) (.int .i64 1)).run Tryz.prog w = .ok (.int .i64 f) w := by kernel_rfl
theorem arr2 (l f d : Int) (w : World) : (Instr.index 132 (.agg #[.int .i64 l, .int .i64 f, .int .i64 d]) (.int .i64 2)).run Tryz.prog w = .ok (.int .i64 d) w := by kernel_rfl

set_option maxRecDepth 100000 in
theorem check_ok (n s l f d : Int) (w : World) (h : Ok ⟨n, s, l, f, d⟩) : Calls Tryz.prog 54 #[mv ⟨n, s, l, f, d⟩] w fun e w' => e = .returned (.int .i64 0) ∧ Below w.heap.size w w' := by
  obtain ⟨h1, h2, h3, h4, h5, h6, h7, h8, h9⟩ := h
  simp only at h1 h2 h3 h4 h5 h6 h7 h8 h9
  have i0 := arr0 l f d
  have i1 := arr1 l f d
  have i2 := arr2 l f d
  go_enter Tryz.func54, Tryz.ntmps54
  go_wp2_with (first
    | (refine wpList_boxm (x := ⟨n, s, l, f, d⟩) rfl (.tmp 0) rfl rfl ?_; intro w1 v1 b1 s1; have c0 : w1.cell? ⟨w.heap.size, 0, none⟩ = some (.int .i64 n) := v1.c0; have c1 : w1.cell? ⟨w.heap.size, 1, none⟩ = some (.int .i64 s) := v1.c1; have c2 : w1.cell? ⟨w.heap.size, 2, none⟩ = some (.int .i64 l) := v1.c2; have c3 : w1.cell? ⟨w.heap.size, 3, none⟩ = some (.int .i64 f) := v1.c3; have c4 : w1.cell? ⟨w.heap.size, 4, none⟩ = some (.int .i64 d) := v1.c4))
  refine wp_loop_rounds 4 ?_
  rw [rounds_succ]
  go_wp2
  rw [rounds_succ]
  go_wp2
  rw [rounds_succ]
  go_wp2
  rw [rounds_succ]
  go_wp2
  go_ret
  exact ⟨rfl, b1⟩

theorem check_bad0 (n s l f d : Int) (w : World) (h : (decide (n < 2) || decide (16 < n) || decide (s < 16) || decide (1048576 < s) || decide (l < d)) = true) : Calls Tryz.prog 54 #[mv ⟨n, s, l, f, d⟩] w fun e w' => e = .returned (.int .i64 1) ∧ Below w.heap.size w w' := by
  go_enter Tryz.func54, Tryz.ntmps54
  go_wp2_with (first
    | (refine wpList_boxm (x := ⟨n, s, l, f, d⟩) rfl (.tmp 0) rfl rfl ?_; intro w1 v1 b1 s1; have c0 : w1.cell? ⟨w.heap.size, 0, none⟩ = some (.int .i64 n) := v1.c0; have c1 : w1.cell? ⟨w.heap.size, 1, none⟩ = some (.int .i64 s) := v1.c1; have c2 : w1.cell? ⟨w.heap.size, 2, none⟩ = some (.int .i64 l) := v1.c2; have c3 : w1.cell? ⟨w.heap.size, 3, none⟩ = some (.int .i64 f) := v1.c3; have c4 : w1.cell? ⟨w.heap.size, 4, none⟩ = some (.int .i64 d) := v1.c4))
  all_goals
    go_ret
    exact ⟨rfl, b1⟩
set_option maxRecDepth 100000 in
theorem check_bad1 (n s l f d : Int) (w : World) (h1 : 2 ≤ n) (h2 : n ≤ 16) (h3 : 16 ≤ s) (h4 : s ≤ 1048576) (h8 : d ≤ l) (h : (decide (l < 1) || decide (s ≤ l)) = true) : Calls Tryz.prog 54 #[mv ⟨n, s, l, f, d⟩] w fun e w' => e = .returned (.int .i64 1) ∧ Below w.heap.size w w' := by
  have i0 := arr0 l f d
  go_enter Tryz.func54, Tryz.ntmps54
  go_wp2_with (first
    | (refine wpList_boxm (x := ⟨n, s, l, f, d⟩) rfl (.tmp 0) rfl rfl ?_; intro w1 v1 b1 s1; have c0 : w1.cell? ⟨w.heap.size, 0, none⟩ = some (.int .i64 n) := v1.c0; have c1 : w1.cell? ⟨w.heap.size, 1, none⟩ = some (.int .i64 s) := v1.c1; have c2 : w1.cell? ⟨w.heap.size, 2, none⟩ = some (.int .i64 l) := v1.c2; have c3 : w1.cell? ⟨w.heap.size, 3, none⟩ = some (.int .i64 f) := v1.c3; have c4 : w1.cell? ⟨w.heap.size, 4, none⟩ = some (.int .i64 d) := v1.c4))
  refine wp_loop_rounds 1 ?_
  rw [rounds_succ]
  go_wp2
  all_goals
    go_ret
    exact ⟨rfl, b1⟩
set_option maxRecDepth 100000 in
theorem check_bad2 (n s l f d : Int) (w : World) (h1 : 2 ≤ n) (h2 : n ≤ 16) (h3 : 16 ≤ s) (h4 : s ≤ 1048576) (h8 : d ≤ l) (h5 : 1 ≤ l) (h6 : l < s) (h : (decide (f < 1) || decide (s - l ≤ f)) = true) : Calls Tryz.prog 54 #[mv ⟨n, s, l, f, d⟩] w fun e w' => e = .returned (.int .i64 1) ∧ Below w.heap.size w w' := by
  have i0 := arr0 l f d
  have i1 := arr1 l f d
  go_enter Tryz.func54, Tryz.ntmps54
  go_wp2_with (first
    | (refine wpList_boxm (x := ⟨n, s, l, f, d⟩) rfl (.tmp 0) rfl rfl ?_; intro w1 v1 b1 s1; have c0 : w1.cell? ⟨w.heap.size, 0, none⟩ = some (.int .i64 n) := v1.c0; have c1 : w1.cell? ⟨w.heap.size, 1, none⟩ = some (.int .i64 s) := v1.c1; have c2 : w1.cell? ⟨w.heap.size, 2, none⟩ = some (.int .i64 l) := v1.c2; have c3 : w1.cell? ⟨w.heap.size, 3, none⟩ = some (.int .i64 f) := v1.c3; have c4 : w1.cell? ⟨w.heap.size, 4, none⟩ = some (.int .i64 d) := v1.c4))
  refine wp_loop_rounds 2 ?_
  rw [rounds_succ]
  go_wp2
  rw [rounds_succ]
  go_wp2
  all_goals
    go_ret
    exact ⟨rfl, b1⟩
set_option maxRecDepth 100000 in
theorem check_bad3 (n s l f d : Int) (w : World) (h1 : 2 ≤ n) (h2 : n ≤ 16) (h3 : 16 ≤ s) (h4 : s ≤ 1048576) (h8 : d ≤ l) (h5 : 1 ≤ l) (h6 : l < s) (h7 : 1 ≤ f) (h9 : f < s - l) (h : (decide (d < 1) || decide (s - l - f ≤ d)) = true) : Calls Tryz.prog 54 #[mv ⟨n, s, l, f, d⟩] w fun e w' => e = .returned (.int .i64 1) ∧ Below w.heap.size w w' := by
  have i0 := arr0 l f d
  have i1 := arr1 l f d
  have i2 := arr2 l f d
  go_enter Tryz.func54, Tryz.ntmps54
  go_wp2_with (first
    | (refine wpList_boxm (x := ⟨n, s, l, f, d⟩) rfl (.tmp 0) rfl rfl ?_; intro w1 v1 b1 s1; have c0 : w1.cell? ⟨w.heap.size, 0, none⟩ = some (.int .i64 n) := v1.c0; have c1 : w1.cell? ⟨w.heap.size, 1, none⟩ = some (.int .i64 s) := v1.c1; have c2 : w1.cell? ⟨w.heap.size, 2, none⟩ = some (.int .i64 l) := v1.c2; have c3 : w1.cell? ⟨w.heap.size, 3, none⟩ = some (.int .i64 f) := v1.c3; have c4 : w1.cell? ⟨w.heap.size, 4, none⟩ = some (.int .i64 d) := v1.c4))
  refine wp_loop_rounds 3 ?_
  rw [rounds_succ]
  go_wp2
  rw [rounds_succ]
  go_wp2
  rw [rounds_succ]
  go_wp2
  all_goals
    go_ret
    exact ⟨rfl, b1⟩
def okE (x : Md) : Int := if Ok x then 0 else 1
theorem check_any (x : Md) (w : World) : Calls Tryz.prog 54 #[mv x] w fun e w' => e = .returned (.int .i64 (okE x)) ∧ Below w.heap.size w w' := by
  obtain ⟨n, s, l, f, d⟩ := x
  by_cases h : Ok ⟨n, s, l, f, d⟩
  · unfold okE; rw [if_pos h]; exact check_ok n s l f d w h
  · unfold okE; rw [if_neg h]
    by_cases a0 : n < 2 ∨ 16 < n ∨ s < 16 ∨ 1048576 < s ∨ l < d
    · exact check_bad0 n s l f d w (by simp; omega)
    · by_cases a1 : l < 1 ∨ s ≤ l
      · exact check_bad1 n s l f d w (by omega) (by omega) (by omega) (by omega) (by omega) (by simp; omega)
      · by_cases a2 : f < 1 ∨ s - l ≤ f
        · exact check_bad2 n s l f d w (by omega) (by omega) (by omega) (by omega) (by omega) (by omega) (by omega) (by simp; omega)
        · exact check_bad3 n s l f d w (by omega) (by omega) (by omega) (by omega) (by omega) (by omega) (by omega) (by omega) (by omega) (by
            have : d < 1 ∨ s - l - f ≤ d := by
              by_cases c : d < 1 ∨ s - l - f ≤ d
              · exact c
              · exact absurd (show Ok ⟨n, s, l, f, d⟩ from ⟨by simp only; omega, by simp only; omega, by simp only; omega, by simp only; omega, by simp only; omega, by simp only; omega, by simp only; omega, by simp only; omega, by simp only; omega⟩) h
            simp; omega)
end Go.Proofs.YtlgedfljmgedfaaGreat.M10
namespace Go.Proofs.YtlgedfljmgedfaaGreat.M10
open Go Go.RowKit
theorem okE_ok {x : Md} (h : Ok x) : okE x = 0 := if_pos h
theorem okE_bad {x : Md} (h : ¬ Ok x) : okE x = 1 := if_neg h
/-- The worlds of a quiet region: what was there is as it was. -/
def Cl (w w' : World) : Prop := ∃ p : Regrown, w' = Sort.grow (redrawn w p.d) p.os
theorem Cl.below {w w' : World} (h : Cl w w') : Below w.heap.size w w' := by obtain ⟨p, rfl⟩ := h; exact below_regrown w p.d p.os
/-- Loads of a schedule and of a number in a quiet region. -/
theorem wpQuiet_ldm {ops : Array Oper} {w : World} {Q : Act → Prop} {o : Oper} {rest : List Oper} {a : Act} {y : Operand} {g : Nat} {x : Md} (hw : Region.wanted o (yielded ops a.tmps) = true) (ho : o.op = .load 23 y)
    (hx : a.eval y = .pointer (some ⟨g, 0, none⟩)) (hr : VarM w g x) (h : wpQuiet Tryz.prog ops (fun w' => ∃ p : Regrown, w' = Sort.grow (redrawn w p.d) p.os) Q rest (a.put o.dst (mv x))) : wpQuiet Tryz.prog ops (fun w' => ∃ p : Regrown, w' = Sort.grow (redrawn w p.d) p.os) Q (o :: rest) a := by
  unfold wpQuiet
  rw [if_pos hw]
  refine ⟨mv x, fun w' hw' => ?_, h⟩
  unfold Oper.quietAt
  have : (execOp a.eval o).run Tryz.prog w' = .ok (.value (mv x)) w' := by
    unfold execOp
    have := ldmv (hr.keep (Cl.below hw'))
    simp only [ho, hx, Instr.loadAt, Instr.sureAddr, Sem.run_bind, Sem.run_pure, Result.andThen_ok, this]
  rw [this]
  exact ⟨rfl, rfl⟩
theorem wpQuiet_ldn {ops : Array Oper} {w : World} {Q : Act → Prop} {o : Oper} {rest : List Oper} {a : Act} {y : Operand} {p : Addr} {v : Value} (hw : Region.wanted o (yielded ops a.tmps) = true) (ho : o.op = .load 3 y)
    (hx : a.eval y = .pointer (some p)) (hr : w.cell? p = some v) (h : wpQuiet Tryz.prog ops (fun w' => ∃ p : Regrown, w' = Sort.grow (redrawn w p.d) p.os) Q rest (a.put o.dst v)) : wpQuiet Tryz.prog ops (fun w' => ∃ p : Regrown, w' = Sort.grow (redrawn w p.d) p.os) Q (o :: rest) a := by
  unfold wpQuiet
  rw [if_pos hw]
  refine ⟨v, fun w' hw' => ?_, h⟩
  unfold Oper.quietAt
  have hc : w'.cell? p = some v := by obtain ⟨q, rfl⟩ := hw'; exact cell_regrown hr q.d q.os
  have : (execOp a.eval o).run Tryz.prog w' = .ok (.value v) w' := by
    unfold execOp
    simp [ho, hx, Instr.loadAt, Instr.sureAddr, loadVar, Tryz.isAgg3, hc]
  rw [this]
  exact ⟨rfl, rfl⟩

/-! ### checkSlot, owner -/
theorem slot_any (x : Md) (k : Int) (w : World) (e : Int) (he : (if Ok x ∧ k ≤ 4294967296 then (0 : Int) else 1) = e) : Calls Tryz.prog 65 #[mv x, .int .u64 k] w fun r w' => r = .returned (.int .i64 e) ∧ Below w.heap.size w w' := by
  by_cases hk : Ok x
  · have HC := hid (fun w => (okE_ok hk ▸ check_any x w : Calls Tryz.prog 54 #[mv x] w fun e w' => e = .returned (.int .i64 0) ∧ Below w.heap.size w w'))
    by_cases h4 : k ≤ 4294967296
    · rw [if_pos ⟨hk, h4⟩] at he
      subst he
      clear hk
      have h4' : decide (4294967296 < k) = false := by simp; omega
      clear h4
      go_enter Tryz.func65, Tryz.ntmps65
      go_wp2_with (first
        | (go_at_call 54; (with_reducible refine (HC.out w1).mono ?_); rintro e w2 ⟨rfl, b2⟩; have B2 : Hid (Below w.heap.size w w2) := hid (b1.trans (b2.mono b1.size)))
        | (refine wpList_ldm rfl (.tmp 2) rfl rfl v1 ?_)
        | (refine wpList_boxm (x := x) rfl (.tmp 0) rfl rfl ?_; intro w1 v1 b1 s1))
      go_ret
      exact ⟨rfl, B2.out⟩
    · rw [if_neg (by intro h; exact h4 h.2)] at he
      subst he
      clear hk
      have h4' : decide (4294967296 < k) = true := by simp; omega
      clear h4
      go_enter Tryz.func65, Tryz.ntmps65
      go_wp2_with (first
        | (go_at_call 54; (with_reducible refine (HC.out w1).mono ?_); rintro e w2 ⟨rfl, b2⟩; have B2 : Hid (Below w.heap.size w w2) := hid (b1.trans (b2.mono b1.size)))
        | (refine wpList_ldm rfl (.tmp 2) rfl rfl v1 ?_)
        | (refine wpList_boxm (x := x) rfl (.tmp 0) rfl rfl ?_; intro w1 v1 b1 s1))
      go_ret
      exact ⟨rfl, B2.out⟩
  · have HC := hid (fun w => (okE_bad hk ▸ check_any x w : Calls Tryz.prog 54 #[mv x] w fun e w' => e = .returned (.int .i64 1) ∧ Below w.heap.size w w'))
    rw [if_neg (by intro h; exact hk h.1)] at he
    subst he
    clear hk
    go_enter Tryz.func65, Tryz.ntmps65
    go_wp2_with (first
      | (go_at_call 54; (with_reducible refine (HC.out w1).mono ?_); rintro e w2 ⟨rfl, b2⟩; have B2 : Hid (Below w.heap.size w w2) := hid (b1.trans (b2.mono b1.size)))
      | (refine wpList_ldm rfl (.tmp 2) rfl rfl v1 ?_)
      | (refine wpList_boxm (x := x) rfl (.tmp 0) rfl rfl ?_; intro w1 v1 b1 s1))
    go_ret
    exact ⟨rfl, B2.out⟩
theorem owner_ok (n s l f d k O : Int) (w : World) (h1 : 2 ≤ n) (h2 : n ≤ 16) (hk : 0 ≤ k) (hk2 : k ≤ 4294967296) (hO : k % n = O) : Calls Tryz.prog 66 #[mv ⟨n, s, l, f, d⟩, .int .u64 k] w fun r w' => r = .returned (.int .i64 O) ∧ Below w.heap.size w w' := by
  have a1 := Int.emod_nonneg k (show n ≠ 0 by omega)
  have a2 := Int.emod_lt_of_pos k (show 0 < n by omega)
  rw [hO] at a1 a2
  go_enter Tryz.func66, Tryz.ntmps66
  go_wp2_with (first
    | (refine wpList_boxm (x := ⟨n, s, l, f, d⟩) rfl (.tmp 0) rfl rfl ?_; intro w1 v1 b1 s1; have c0 : w1.cell? ⟨w.heap.size, 0, none⟩ = some (.int .i64 n) := v1.c0))
  go_ret
  exact ⟨ret_int (by first | exact hO | rfl | omega), b1⟩
/-! ### What may not be -/
theorem own_bad (x : Md) (k : Int) (w : World) (h : ¬ (Ok x ∧ k ≤ 4294967296)) : Calls Tryz.prog 25 #[mv x, .int .u64 k] w fun r w' => r = .returned (.tuple #[.int .i64 0, .int .i64 1]) ∧ Below w.heap.size w w' := by
  have HC := hid (fun w => slot_any x k w 1 (if_neg h))
  clear h
  go_enter Tryz.func25, Tryz.ntmps25
  go_wp2_with (first
    | (go_at_call 65; (with_reducible refine (HC.out w1).mono ?_); rintro e w2 ⟨rfl, b2⟩; have B2 : Hid (Below w.heap.size w w2) := hid (b1.trans (b2.mono b1.size)))
    | (refine wpList_ldm rfl (.tmp 2) rfl rfl v1 ?_)
    | (refine wpList_boxm (x := x) rfl (.tmp 0) rfl rfl ?_; intro w1 v1 b1 s1))
  go_ret2
  exact ⟨rfl, B2.out⟩
theorem own_ok (n s l f d k O : Int) (w : World) (h : Ok ⟨n, s, l, f, d⟩) (hk : 0 ≤ k) (hk2 : k ≤ 4294967296) (hO : k % n = O) : Calls Tryz.prog 25 #[mv ⟨n, s, l, f, d⟩, .int .u64 k] w fun r w' => r = .returned (.tuple #[.int .i64 O, .int .i64 0]) ∧ Below w.heap.size w w' := by
  have HC := hid (fun w => slot_any ⟨n, s, l, f, d⟩ k w 0 (if_pos ⟨h, hk2⟩))
  have HO := hid (fun w => owner_ok n s l f d k O w h.1 h.2.1 hk hk2 hO)
  clear hO
  obtain ⟨h1, h2, h3, h4, h5, h6, h7, h8, h9⟩ := h
  simp only at h1 h2 h3 h4 h5 h6 h7 h8 h9
  go_enter Tryz.func25, Tryz.ntmps25
  go_wp2_with (first
    | (go_at_call 66; (with_reducible refine (HO.out w2).mono ?_); rintro e w3 ⟨rfl, b3⟩; have B3 : Hid (Below w.heap.size w w3) := hid (B2.out.trans (b3.mono B2.out.size)))
    | (refine wpList_ldm rfl (.tmp 2) rfl rfl v2 ?_)
    | (go_at_call 65; (with_reducible refine (HC.out w1).mono ?_); rintro e w2 ⟨rfl, b2⟩; have v2 := v1.keep b2; have B2 : Hid (Below w.heap.size w w2) := hid (b1.trans (b2.mono b1.size)); clear v1)
    | (refine wpList_ldm rfl (.tmp 2) rfl rfl v1 ?_)
    | (refine wpList_boxm (x := ⟨n, s, l, f, d⟩) rfl (.tmp 0) rfl rfl ?_; intro w1 v1 b1 s1))
  go_ret2
  exact ⟨rfl, B3.out⟩
end Go.Proofs.YtlgedfljmgedfaaGreat.M10
namespace Go.Proofs.YtlgedfljmgedfaaGreat.M10
open Go Go.RowKit
end Go.Proofs.YtlgedfljmgedfaaGreat.M10
namespace Go.Proofs.YtlgedfljmgedfaaGreat.M10
open Go

/-- Bit k of m is 1; m with it; m without it; how many of the lowest n are 1. -/
def hs (m k : Nat) : Bool := decide (m / 2 ^ k % 2 = 1)
def addb (m k : Nat) : Nat := if hs m k then m else m + 2 ^ k
def subb (m k : Nat) : Nat := if hs m k then m - 2 ^ k else m
def cn (m : Nat) : Nat → Nat
  | 0 => 0
  | n + 1 => cn m n + m / 2 ^ n % 2

theorem hs_bit (m k : Nat) : hs m k = m.testBit k := (Nat.testBit_eq_decide_div_mod_eq ..).symm
theorem one_bit (m k : Nat) : m / 2 ^ k % 2 = if hs m k then 1 else 0 := by
  unfold hs
  by_cases h : m / 2 ^ k % 2 = 1
  · simp [h]
  · simp [h]; omega
theorem pow15 (k : Nat) (h : k ≤ 15) : 2 ^ k ≤ 32768 := by
  have := Nat.pow_le_pow_right (show 0 < 2 by omega) h; simpa using this
theorem and_pow (m k : Nat) : m &&& 2 ^ k = if hs m k then 2 ^ k else 0 := by
  rw [nat_bit, one_bit]; split <;> simp
theorem or_pow (m k : Nat) : m ||| 2 ^ k = addb m k := by
  unfold addb
  split
  · rename_i h
    rw [hs_bit] at h
    refine Nat.eq_of_testBit_eq fun j => ?_
    rw [Nat.testBit_or, Nat.testBit_two_pow]
    by_cases e : k = j
    · subst e; simp [h]
    · simp [e]
  · rename_i h
    have h0 : m / 2 ^ k % 2 = 0 := by rw [one_bit, if_neg h]
    have hp := Nat.two_pow_pos k
    have e1 : m = 2 ^ (k + 1) * (m / 2 ^ k / 2) + m % 2 ^ k := by
      have a1 := Nat.div_add_mod m (2 ^ k)
      have a2 := Nat.div_add_mod (m / 2 ^ k) 2
      rw [h0, Nat.add_zero] at a2
      rw [Nat.pow_succ, Nat.mul_assoc, a2, a1]
    have hb := Nat.mod_lt m hp
    generalize m % 2 ^ k = b at e1 hb
    generalize m / 2 ^ k / 2 = a at e1
    have hb2 : b < 2 ^ (k + 1) := by rw [Nat.pow_succ]; omega
    have hb3 : 2 ^ k + b < 2 ^ (k + 1) := by rw [Nat.pow_succ]; omega
    rw [e1, ← nat_join (k + 1) (2 ^ (k + 1) * a) b (by simp) hb2, Nat.or_assoc, Nat.or_comm b, nat_join k (2 ^ k) b (by simp) hb, nat_join (k + 1) _ _ (by simp) hb3]
    rw [nat_join (k + 1) (2 ^ (k + 1) * a) b (by simp) hb2]
    omega
theorem addb_bit (m k j : Nat) : (addb m k).testBit j = (m.testBit j || decide (k = j)) := by
  rw [← or_pow, Nat.testBit_or, Nat.testBit_two_pow]
theorem addb_lt (m k : Nat) (hm : m < 65536) (hk : k ≤ 15) : addb m k < 65536 := by
  rw [← or_pow]
  exact Nat.or_lt_two_pow (n := 16) hm (Nat.pow_lt_pow_right (by omega) (by omega))
theorem subb_add (m k : Nat) (h : hs m k = true) : addb (m - 2 ^ k) k = m := by
  have h1 : m / 2 ^ k % 2 = 1 := by rw [one_bit, if_pos h]
  have hp := Nat.two_pow_pos k
  have h2 : 2 ^ k ≤ m := by
    apply Nat.le_of_not_lt; intro hlt
    rw [Nat.div_eq_of_lt hlt] at h1; omega
  have h3 : (m - 2 ^ k) / 2 ^ k = m / 2 ^ k - 1 := by
    have := Nat.sub_mul_div m (2 ^ k) 1
    rwa [Nat.mul_one] at this
  have h4 : hs (m - 2 ^ k) k = false := by
    unfold hs; rw [h3, decide_eq_false_iff_not]; omega
  unfold addb; rw [if_neg (by rw [h4]; decide)]; omega
theorem subb_bit (m k j : Nat) : (subb m k).testBit j = (m.testBit j && !decide (k = j)) := by
  unfold subb
  split
  · rename_i h
    have h1 := subb_add m k h
    have hp := Nat.two_pow_pos k
    by_cases e : k = j
    · subst e
      have h3 : (m - 2 ^ k) / 2 ^ k = m / 2 ^ k - 1 := by
        have := Nat.sub_mul_div m (2 ^ k) 1
        rwa [Nat.mul_one] at this
      have h5 : m / 2 ^ k % 2 = 1 := by rw [one_bit, if_pos h]
      rw [← hs_bit]; unfold hs
      rw [h3]; simp; omega
    · have h2 := addb_bit (m - 2 ^ k) k j
      rw [h1] at h2
      rw [h2]; simp [e]
  · rename_i h
    by_cases e : k = j
    · subst e; rw [hs_bit] at h; simp at h; simp [h]
    · simp [e]
theorem subb_le (m k : Nat) : subb m k ≤ m := by
  unfold subb; split
  · exact Nat.sub_le ..
  · exact Nat.le_refl _
theorem andNot_pow (m k : Nat) (hm : m < 65536) (hk : k ≤ 15) : m &&& (65535 - 2 ^ k) = subb m k := by
  refine Nat.eq_of_testBit_eq fun j => ?_
  have hp := pow15 k hk
  rw [subb_bit, Nat.testBit_and, show 65535 - 2 ^ k = 2 ^ 16 - (2 ^ k + 1) by omega, Nat.testBit_two_pow_sub_succ (by omega), Nat.testBit_two_pow]
  by_cases hj : j < 16
  · simp [hj]
  · have : m.testBit j = false := Nat.testBit_lt_two_pow (Nat.lt_of_lt_of_le hm (by
      have := Nat.pow_le_pow_right (show 0 < 2 by omega) (show 16 ≤ j by omega); simpa using this))
    simp [this]
/-! What follows of members. -/
theorem cn_le (m : Nat) : ∀ n, cn m n ≤ n
  | 0 => Nat.le_refl _
  | n + 1 => by have := cn_le m n; rw [cn]; omega
theorem cn_high (m : Nat) : ∀ n, cn m (8 + n) = cn m 8 + cn (m / 256) n
  | 0 => rfl
  | n + 1 => by
    show cn m (8 + n) + m / 2 ^ (8 + n) % 2 = cn m 8 + (cn (m / 256) n + m / 256 / 2 ^ n % 2)
    rw [cn_high m n, Nat.div_div_eq_div_mul, show (256 : Nat) * 2 ^ n = 2 ^ (8 + n) by rw [Nat.pow_add], Nat.add_assoc]
theorem cn_low (m : Nat) : ∀ n, n ≤ 8 → cn (m % 256) n = cn m n
  | 0, _ => rfl
  | n + 1, hn => by
    rw [cn, cn, cn_low m n (by omega), one_bit, one_bit, hs_bit, hs_bit, show (256 : Nat) = 2 ^ 8 by decide, Nat.testBit_mod_two_pow, decide_eq_true (show n < 8 by omega), Bool.true_and]
/-- By halves. -/
theorem cn_halves (m : Nat) : cn m 16 = cn (m / 256) 8 + cn (m % 256) 8 := by
  rw [cn_low m 8 (Nat.le_refl _), show (16 : Nat) = 8 + 8 by decide, cn_high, Nat.add_comm]
end Go.Proofs.YtlgedfljmgedfaaGreat.M10
namespace Go.Proofs.YtlgedfljmgedfaaGreat.M10
open Go Go.RowKit

/-- A frame: kind, from, slot, members. -/
structure Fr where
  k : Int
  f : Int
  s : Nat
  m : Nat
deriving DecidableEq
def fz : Fr := ⟨0, 0, 0, 0⟩
/-- It may be. -/
def OkF (x : Fr) : Prop := (x.k = 1 ∨ x.k = 2) ∧ 0 ≤ x.f ∧ x.f ≤ 15 ∧ x.s ≤ 4294967296
instance (x : Fr) : Decidable (OkF x) := by unfold OkF; infer_instance

/-- A frame's cells, its value. -/
def encf (x : Fr) : List Value := [.int .i64 x.k, .int .i64 x.f, .int .u64 (x.s : Int), .int .u16 (x.m : Int)]
def fv (x : Fr) : Value := .agg (encf x).toArray
theorem encf_len (x : Fr) : (encf x).length = 4 := rfl
theorem encf_one (x : Fr) : ∀ u ∈ encf x, u.oneCell' = true := by
  intro u hu; simp [encf] at hu; rcases hu with rfl | rfl | rfl | rfl <;> rfl
theorem size25 : (Tryz.prog.info? 54).map (·.size) = some 4 := by kernel_rfl
theorem zero25 (w : World) : (zeroValue 54).run Tryz.prog w = .ok (fv fz) w := by kernel_rfl

/-- Block g is a variable that holds the frame. -/
def VarF (w : World) (g : Nat) (x : Fr) : Prop := w.rangeAt g 0 (encf x) ∧ w.there g 0 4

section
variable {w w' : World} {g : Nat} {x : Fr}
theorem VarF.below (h : VarF w g x) {B : Nat} (hk : Below B w w') (hb : g < B) : VarF w' g x := ⟨range_keep h.1 hb hk, there_keep h.2 hb hk⟩
theorem VarF.other (h : VarF w g x) {b : Nat} (ho : Oth b w w') (hb : g ≠ b) : VarF w' g x := ⟨range_other h.1 hb ho, there_other h.2 hb ho⟩
theorem VarF.lt (h : VarF w g x) : g < w.heap.size := World.block_lt_of_cell? w _ (h.1 0 _ rfl)
theorem VarF.keep (h : VarF w g x) (hk : Below w.heap.size w w') : VarF w' g x := h.below hk h.lt
theorem VarF.c0 (h : VarF w g x) : w.cell? ⟨g, 0, none⟩ = some (.int .i64 x.k) := h.1 0 _ rfl
theorem VarF.c1 (h : VarF w g x) : w.cell? ⟨g, 1, none⟩ = some (.int .i64 x.f) := h.1 1 _ rfl
theorem VarF.c2 (h : VarF w g x) : w.cell? ⟨g, 2, none⟩ = some (.int .u64 (x.s : Int)) := h.1 2 _ rfl
theorem VarF.c3 (h : VarF w g x) : w.cell? ⟨g, 3, none⟩ = some (.int .u16 (x.m : Int)) := h.1 3 _ rfl
/-- A new variable. -/
theorem varf_new (w : World) (x : Fr) : VarF (w.alloc (.cells (encf x).toArray 54)) w.heap.size x := by
  have h1 : (w.alloc (.cells (encf x).toArray 54)).rangeAt w.heap.size 0 (encf x) := fun j v hv => by
    rw [Nat.zero_add, cell_of_row _ _ _ _ _ _ (heap_alloc_new w _)]
    simpa using hv
  refine ⟨h1, fun j hj => ⟨?_, frozen_of_row _ _ _ _ _ (heap_alloc_new w _)⟩⟩
  rw [h1 j _ (List.getElem?_eq_getElem (by rw [encf_len]; exact hj))]; rfl

theorem varf_stored (ht : w.there g 0 4) (x : Fr) : VarF (w.setCells g 0 (encf x)) g x := ⟨World.rangeAt_setCells_same w g 0 (encf x) ht, there_set _ _ ht⟩

/-! ### At the operation, for the walk -/
variable {ops : Array Oper} {rest : List Oper} {o : Oper} {a : Act} {Q : Exit → Act → World → Prop}
theorem wpList_boxf (hg : o.guard = none) (y : Operand) (ho : o.op = .box 54 y) (hx : a.eval y = fv x)
    (h : ∀ w', VarF w' w.heap.size x → Below w.heap.size w w' → Hid (w'.heap.size = w.heap.size + 1) → wpList Tryz.prog ops Q rest (a.put o.dst (.pointer (some ⟨w.heap.size, 0, none⟩))) w') : wpList Tryz.prog ops Q (o :: rest) a w := by
  refine wpList_plain hg fun K hK => ?_
  unfold Oper.wp execOp
  simp only [ho, hx, Sem.run_bind, Instr.box, newVar, newRow, run_newObj_alloc, Sem.run_pure, Result.andThen_ok]
  exact hK _ _ (h _ (varf_new w x) ((Below.refl _ _).alloc (Nat.le_refl _) _) (hid (by simp)))
theorem wpList_alf (hg : o.guard = none) (ho : o.op = .alloc 54)
    (h : ∀ w', VarF w' w.heap.size fz → Below w.heap.size w w' → Hid (w'.heap.size = w.heap.size + 1) → wpList Tryz.prog ops Q rest (a.put o.dst (.pointer (some ⟨w.heap.size, 0, none⟩))) w') : wpList Tryz.prog ops Q (o :: rest) a w := by
  refine wpList_plain hg fun K hK => ?_
  unfold Oper.wp execOp
  simp only [ho, Sem.run_bind, Instr.alloc, zero25, newVar, newRow, run_newObj_alloc, Sem.run_pure, Result.andThen_ok]
  exact hK _ _ (h _ (varf_new w fz) ((Below.refl _ _).alloc (Nat.le_refl _) _) (hid (by simp)))
theorem wpList_ldf (hw : Region.wanted o (yielded ops a.tmps) = true) (y : Operand) (ho : o.op = .load 54 y) (hx : a.eval y = .pointer (some ⟨g, 0, none⟩)) (hv : VarF w g x)
    (h : wpList Tryz.prog ops Q rest (a.put o.dst (fv x)) w) : wpList Tryz.prog ops Q (o :: rest) a w :=
  wpList_step fun _ hK => by rw [if_pos hw]; exact wp_load_mid 54 y ho g 0 hx (encf x) _ hv.1 Tryz.underlying54 rfl (by rw [size25]; rfl) (hK _ _ h)
theorem wpList_svf (hg : o.guard = none) (y z : Operand) (ho : o.op = .store 54 y z) {p : Fr} (hx : a.eval y = .pointer (some ⟨g, 0, none⟩)) (hy : a.eval z = fv x) (hv : VarF w g p)
    (h : ∀ w', VarF w' g x → Below g w w' → Oth g w w' → Hid (w'.heap.size = w.heap.size) → wpList Tryz.prog ops Q rest (a.put o.dst undef) w') : wpList Tryz.prog ops Q (o :: rest) a w :=
  wpList_store_mid hg 54 y z ho g 0 (encf x).toArray hx hy hv.2 (by rw [size25]; rfl) (all_oneCell_toArray (encf_one x)) (h _ (varf_stored hv.2 x) (setCells_oth g _ _ _).1 (setCells_oth g _ _ _).2 (hid (setCells_size _ _ _ _)))
/-! ### Results that lie in cells -/
theorem ldfv (h : VarF w g x) : (loadVar 54 ⟨g, 0, none⟩).run Tryz.prog w = .ok (fv x) w := run_loadVar_mid w g 0 54 (encf x) _ h.1 Tryz.underlying54 rfl (by rw [size25]; rfl)
end
end Go.Proofs.YtlgedfljmgedfaaGreat.M10
namespace Go.Proofs.YtlgedfljmgedfaaGreat.M10
open Go Go.RowKit

/-- No node. -/
def Out (q : Int) : Prop := q < 0 ∨ 15 < q
theorem isNode_in (k : Nat) (w : World) (hk : k ≤ 15) : Calls Tryz.prog 111 #[.int .i64 (k : Int)] w fun e w' => e = .returned (.bool true) ∧ w = w' := by
  go_enter Tryz.func111, Tryz.ntmps111
  go_wp2
  go_ret
  exact ⟨ret_bool (by simp; omega), rfl⟩
theorem isNode_out (q : Int) (w : World) (hq : Out q) : Calls Tryz.prog 111 #[.int .i64 q] w fun e w' => e = .returned (.bool false) ∧ w = w' := by
  unfold Out at hq
  by_cases h : 0 ≤ q
  · have hq2 : 15 < q := by omega
    clear hq
    go_enter Tryz.func111, Tryz.ntmps111
    go_wp2
    go_ret
    exact ⟨ret_bool (by simp; omega), rfl⟩
  · clear hq
    go_enter Tryz.func111, Tryz.ntmps111
    go_wp2
    go_ret
    exact ⟨ret_bool (by simp), rfl⟩
theorem wrap_pow (k : Nat) (hk : k ≤ 15) : IntKind.u16.wrap ((2 : Int) ^ k) = ((2 ^ k : Nat) : Int) := by
  have hp := pow15 k hk
  have e : (2 : Int) ^ k = ((2 ^ k : Nat) : Int) := by norm_cast
  rw [IntKind.wrap_u16, e]
  generalize 2 ^ k = p at hp
  omega
theorem bit_in (k : Nat) (w : World) (hk : k ≤ 15) : Calls Tryz.prog 67 #[.int .i64 (k : Int)] w fun e w' => e = .returned (.int .u16 ((2 ^ k : Nat) : Int)) ∧ w = w' := by
  have hp := pow15 k hk
  have HP := hid (wrap_pow k hk)
  have HK := hid hk
  go_enter Tryz.func67, Tryz.ntmps67
  go_wp2_with (go_at_call 111; refine (isNode_in k _ HK.out).mono ?_; rintro e w' ⟨rfl, rfl⟩)
  go_ret
  exact ⟨ret_int HP.out, rfl⟩
theorem ne_of_hs (m k : Nat) : (((m &&& 2 ^ k : Nat) : Int) != 0) = hs m k := by
  have hp := Nat.two_pow_pos k
  rw [and_pow]
  cases h : hs m k
  · rfl
  · rw [if_pos rfl, bne_iff_ne]; omega
theorem has_in (m k : Nat) (w : World) (hm : m < 65536) (hk : k ≤ 15) : Calls Tryz.prog 26 #[.int .u16 (m : Int), .int .i64 (k : Int)] w fun e w' => e = .returned (.bool (hs m k)) ∧ w = w' := by
  have hp := pow15 k hk
  have hb := u16_and_nat m (2 ^ k) hm (by omega)
  have HR := hid (ne_of_hs m k)
  have HBT := hid (fun w => bit_in k w hk)
  generalize m &&& 2 ^ k = y at hb HR
  generalize 2 ^ k = p at *
  go_enter Tryz.func26, Tryz.ntmps26
  go_wp2_with (go_at_call 67; refine (HBT.out _).mono ?_; rintro e w' ⟨rfl, rfl⟩)
  go_ret
  exact ⟨ret_bool HR.out, rfl⟩
theorem with_in (m k : Nat) (w : World) (hm : m < 65536) (hk : k ≤ 15) : Calls Tryz.prog 75 #[.int .u16 (m : Int), .int .i64 (k : Int)] w fun e w' => e = .returned (.int .u16 (addb m k : Nat)) ∧ w = w' := by
  have hp := pow15 k hk
  have hb := u16_or_nat m (2 ^ k) hm (by omega)
  rw [or_pow] at hb
  have HBT := hid (fun w => bit_in k w hk)
  generalize addb m k = y at hb ⊢
  generalize 2 ^ k = p at *
  go_enter Tryz.func75, Tryz.ntmps75
  go_wp2_with (go_at_call 67; refine (HBT.out _).mono ?_; rintro e w' ⟨rfl, rfl⟩)
  go_ret
  exact ⟨rfl, rfl⟩
theorem without_in (m k : Nat) (w : World) (hm : m < 65536) (hk : k ≤ 15) : Calls Tryz.prog 92 #[.int .u16 (m : Int), .int .i64 (k : Int)] w fun e w' => e = .returned (.int .u16 (subb m k : Nat)) ∧ w = w' := by
  have hp := pow15 k hk
  have hb := u16_andNot_nat m (2 ^ k) hm (by omega)
  rw [andNot_pow m k hm hk] at hb
  have HBT := hid (fun w => bit_in k w hk)
  generalize subb m k = y at hb ⊢
  generalize 2 ^ k = p at *
  go_enter Tryz.func92, Tryz.ntmps92
  go_wp2_with (go_at_call 67; refine (HBT.out _).mono ?_; rintro e w' ⟨rfl, rfl⟩)
  go_ret
  exact ⟨rfl, rfl⟩
end Go.Proofs.YtlgedfljmgedfaaGreat.M10
namespace Go.Proofs.YtlgedfljmgedfaaGreat.M10
open Go Go.RowKit
def okF (x : Fr) : Nat := if OkF x then 0 else 1
theorem okF_ok {x : Fr} (h : OkF x) : okF x = 0 := if_pos h
theorem okF_bad {x : Fr} (h : ¬ OkF x) : okF x = 1 := if_neg h
/-- Why a frame may not be. -/
theorem bad_why (k f : Int) (s m : Nat) (h : ¬ OkF ⟨k, f, s, m⟩) : (k ≠ 1 ∧ k ≠ 2) ∨ Out f ∨ 4294967296 < s := by
  unfold OkF at h; unfold Out; simp only at h; omega
theorem fcheck_ok1 (k : Int) (q1 : (k != 1) = false) (_q2 : (k != 2) = true) (f1 s m : Nat) (w : World) (h : f1 ≤ 15) (hs : s ≤ 4294967296) : Calls Tryz.prog 61 #[fv ⟨k, (f1 : Int), s, m⟩] w fun e w' => e = .returned (.int .i64 0) ∧ Below w.heap.size w w' := by
  have HF := hid h
  go_enter Tryz.func61, Tryz.ntmps61
  go_wp2_with (first
    | (go_at_call 111; refine (isNode_in f1 _ HF.out).mono ?_; rintro e w' ⟨rfl, rfl⟩)
    | (refine wpList_boxf (x := ⟨k, (f1 : Int), s, m⟩) rfl (.tmp 0) rfl rfl ?_; intro w1 v1 b1 s1; have c0 : w1.cell? ⟨w.heap.size, 0, none⟩ = some (.int .i64 k) := v1.c0; have c1 : w1.cell? ⟨w.heap.size, 1, none⟩ = some (.int .i64 (f1 : Int)) := v1.c1; have c2 : w1.cell? ⟨w.heap.size, 2, none⟩ = some (.int .u64 (s : Int)) := v1.c2))
  go_ret
  exact ⟨rfl, b1⟩
theorem fcheck_slot1 (k : Int) (q1 : (k != 1) = false) (_q2 : (k != 2) = true) (f1 s m : Nat) (w : World) (h : f1 ≤ 15) (hs : 4294967296 < s) : Calls Tryz.prog 61 #[fv ⟨k, (f1 : Int), s, m⟩] w fun e w' => e = .returned (.int .i64 1) ∧ Below w.heap.size w w' := by
  have HF := hid h
  go_enter Tryz.func61, Tryz.ntmps61
  go_wp2_with (first
    | (go_at_call 111; refine (isNode_in f1 _ HF.out).mono ?_; rintro e w' ⟨rfl, rfl⟩)
    | (refine wpList_boxf (x := ⟨k, (f1 : Int), s, m⟩) rfl (.tmp 0) rfl rfl ?_; intro w1 v1 b1 s1; have c0 : w1.cell? ⟨w.heap.size, 0, none⟩ = some (.int .i64 k) := v1.c0; have c1 : w1.cell? ⟨w.heap.size, 1, none⟩ = some (.int .i64 (f1 : Int)) := v1.c1; have c2 : w1.cell? ⟨w.heap.size, 2, none⟩ = some (.int .u64 (s : Int)) := v1.c2))
  go_ret
  exact ⟨rfl, b1⟩
theorem fcheck_from1lo (k : Int) (q1 : (k != 1) = false) (_q2 : (k != 2) = true) (f : Int) (s m : Nat) (w : World) (h : f < 0) : Calls Tryz.prog 61 #[fv ⟨k, f, s, m⟩] w fun e w' => e = .returned (.int .i64 1) ∧ Below w.heap.size w w' := by
  have HF : Hid (Out f) := hid (by unfold Out; omega)
  go_enter Tryz.func61, Tryz.ntmps61
  go_wp2_with (first
    | (go_at_call 111; refine (isNode_out f _ HF.out).mono ?_; rintro e w' ⟨rfl, rfl⟩)
    | (refine wpList_boxf (x := ⟨k, f, s, m⟩) rfl (.tmp 0) rfl rfl ?_; intro w1 v1 b1 s1; have c0 : w1.cell? ⟨w.heap.size, 0, none⟩ = some (.int .i64 k) := v1.c0; have c1 : w1.cell? ⟨w.heap.size, 1, none⟩ = some (.int .i64 f) := v1.c1; have c2 : w1.cell? ⟨w.heap.size, 2, none⟩ = some (.int .u64 (s : Int)) := v1.c2))
  go_ret
  exact ⟨rfl, b1⟩
theorem fcheck_from1hi (k : Int) (q1 : (k != 1) = false) (_q2 : (k != 2) = true) (f : Int) (s m : Nat) (w : World) (h : 15 < f) : Calls Tryz.prog 61 #[fv ⟨k, f, s, m⟩] w fun e w' => e = .returned (.int .i64 1) ∧ Below w.heap.size w w' := by
  have HF : Hid (Out f) := hid (by unfold Out; omega)
  go_enter Tryz.func61, Tryz.ntmps61
  go_wp2_with (first
    | (go_at_call 111; refine (isNode_out f _ HF.out).mono ?_; rintro e w' ⟨rfl, rfl⟩)
    | (refine wpList_boxf (x := ⟨k, f, s, m⟩) rfl (.tmp 0) rfl rfl ?_; intro w1 v1 b1 s1; have c0 : w1.cell? ⟨w.heap.size, 0, none⟩ = some (.int .i64 k) := v1.c0; have c1 : w1.cell? ⟨w.heap.size, 1, none⟩ = some (.int .i64 f) := v1.c1; have c2 : w1.cell? ⟨w.heap.size, 2, none⟩ = some (.int .u64 (s : Int)) := v1.c2))
  go_ret
  exact ⟨rfl, b1⟩
theorem fcheck_ok2 (k : Int) (q1 : (k != 1) = true) (q2 : (k != 2) = false) (f1 s m : Nat) (w : World) (h : f1 ≤ 15) (hs : s ≤ 4294967296) : Calls Tryz.prog 61 #[fv ⟨k, (f1 : Int), s, m⟩] w fun e w' => e = .returned (.int .i64 0) ∧ Below w.heap.size w w' := by
  have HF := hid h
  go_enter Tryz.func61, Tryz.ntmps61
  go_wp2_with (first
    | (go_at_call 111; refine (isNode_in f1 _ HF.out).mono ?_; rintro e w' ⟨rfl, rfl⟩)
    | (refine wpList_boxf (x := ⟨k, (f1 : Int), s, m⟩) rfl (.tmp 0) rfl rfl ?_; intro w1 v1 b1 s1; have c0 : w1.cell? ⟨w.heap.size, 0, none⟩ = some (.int .i64 k) := v1.c0; have c1 : w1.cell? ⟨w.heap.size, 1, none⟩ = some (.int .i64 (f1 : Int)) := v1.c1; have c2 : w1.cell? ⟨w.heap.size, 2, none⟩ = some (.int .u64 (s : Int)) := v1.c2))
  go_ret
  exact ⟨rfl, b1⟩
theorem fcheck_slot2 (k : Int) (q1 : (k != 1) = true) (q2 : (k != 2) = false) (f1 s m : Nat) (w : World) (h : f1 ≤ 15) (hs : 4294967296 < s) : Calls Tryz.prog 61 #[fv ⟨k, (f1 : Int), s, m⟩] w fun e w' => e = .returned (.int .i64 1) ∧ Below w.heap.size w w' := by
  have HF := hid h
  go_enter Tryz.func61, Tryz.ntmps61
  go_wp2_with (first
    | (go_at_call 111; refine (isNode_in f1 _ HF.out).mono ?_; rintro e w' ⟨rfl, rfl⟩)
    | (refine wpList_boxf (x := ⟨k, (f1 : Int), s, m⟩) rfl (.tmp 0) rfl rfl ?_; intro w1 v1 b1 s1; have c0 : w1.cell? ⟨w.heap.size, 0, none⟩ = some (.int .i64 k) := v1.c0; have c1 : w1.cell? ⟨w.heap.size, 1, none⟩ = some (.int .i64 (f1 : Int)) := v1.c1; have c2 : w1.cell? ⟨w.heap.size, 2, none⟩ = some (.int .u64 (s : Int)) := v1.c2))
  go_ret
  exact ⟨rfl, b1⟩
theorem fcheck_from2lo (k : Int) (q1 : (k != 1) = true) (q2 : (k != 2) = false) (f : Int) (s m : Nat) (w : World) (h : f < 0) : Calls Tryz.prog 61 #[fv ⟨k, f, s, m⟩] w fun e w' => e = .returned (.int .i64 1) ∧ Below w.heap.size w w' := by
  have HF : Hid (Out f) := hid (by unfold Out; omega)
  go_enter Tryz.func61, Tryz.ntmps61
  go_wp2_with (first
    | (go_at_call 111; refine (isNode_out f _ HF.out).mono ?_; rintro e w' ⟨rfl, rfl⟩)
    | (refine wpList_boxf (x := ⟨k, f, s, m⟩) rfl (.tmp 0) rfl rfl ?_; intro w1 v1 b1 s1; have c0 : w1.cell? ⟨w.heap.size, 0, none⟩ = some (.int .i64 k) := v1.c0; have c1 : w1.cell? ⟨w.heap.size, 1, none⟩ = some (.int .i64 f) := v1.c1; have c2 : w1.cell? ⟨w.heap.size, 2, none⟩ = some (.int .u64 (s : Int)) := v1.c2))
  go_ret
  exact ⟨rfl, b1⟩
theorem fcheck_from2hi (k : Int) (q1 : (k != 1) = true) (q2 : (k != 2) = false) (f : Int) (s m : Nat) (w : World) (h : 15 < f) : Calls Tryz.prog 61 #[fv ⟨k, f, s, m⟩] w fun e w' => e = .returned (.int .i64 1) ∧ Below w.heap.size w w' := by
  have HF : Hid (Out f) := hid (by unfold Out; omega)
  go_enter Tryz.func61, Tryz.ntmps61
  go_wp2_with (first
    | (go_at_call 111; refine (isNode_out f _ HF.out).mono ?_; rintro e w' ⟨rfl, rfl⟩)
    | (refine wpList_boxf (x := ⟨k, f, s, m⟩) rfl (.tmp 0) rfl rfl ?_; intro w1 v1 b1 s1; have c0 : w1.cell? ⟨w.heap.size, 0, none⟩ = some (.int .i64 k) := v1.c0; have c1 : w1.cell? ⟨w.heap.size, 1, none⟩ = some (.int .i64 f) := v1.c1; have c2 : w1.cell? ⟨w.heap.size, 2, none⟩ = some (.int .u64 (s : Int)) := v1.c2))
  go_ret
  exact ⟨rfl, b1⟩
theorem fcheck_kind (k f : Int) (s m : Nat) (w : World) (h1 : k ≠ 1) (h2 : k ≠ 2) : Calls Tryz.prog 61 #[fv ⟨k, f, s, m⟩] w fun e w' => e = .returned (.int .i64 1) ∧ Below w.heap.size w w' := by
  have q1 : (k != 1) = true := by rw [bne_iff_ne]; exact h1
  have q2 : (k != 2) = true := by rw [bne_iff_ne]; exact h2
  go_enter Tryz.func61, Tryz.ntmps61
  go_wp2_with (first
    | (refine wpList_boxf (x := ⟨k, f, s, m⟩) rfl (.tmp 0) rfl rfl ?_; intro w1 v1 b1 s1; have c0 : w1.cell? ⟨w.heap.size, 0, none⟩ = some (.int .i64 k) := v1.c0; have c1 : w1.cell? ⟨w.heap.size, 1, none⟩ = some (.int .i64 f) := v1.c1; have c2 : w1.cell? ⟨w.heap.size, 2, none⟩ = some (.int .u64 (s : Int)) := v1.c2))
  go_ret
  exact ⟨rfl, b1⟩
theorem fcheck_any (x : Fr) (w : World) : Calls Tryz.prog 61 #[fv x] w fun e w' => e = .returned (.int .i64 (okF x : Nat)) ∧ Below w.heap.size w w' := by
  obtain ⟨k, f, s, m⟩ := x
  by_cases h : OkF ⟨k, f, s, m⟩
  · rw [okF_ok h]
    obtain ⟨h1, h2, h3, h4⟩ := h
    simp only at h1 h2 h3 h4
    obtain ⟨g, rfl⟩ : ∃ g : Nat, f = g := ⟨f.toNat, by omega⟩
    rcases h1 with rfl | rfl
    · exact fcheck_ok1 1 rfl rfl g s m w (by omega) h4
    · exact fcheck_ok2 2 rfl rfl g s m w (by omega) h4
  · rw [okF_bad h]
    by_cases hk : k ≠ 1 ∧ k ≠ 2
    · exact fcheck_kind k f s m w hk.1 hk.2
    · by_cases hf : f < 0
      · by_cases h1 : k = 1
        · subst h1; exact fcheck_from1lo 1 rfl rfl f s m w hf
        · obtain rfl : k = 2 := by omega
          exact fcheck_from2lo 2 rfl rfl f s m w hf
      · by_cases hf2 : 15 < f
        · by_cases h1 : k = 1
          · subst h1; exact fcheck_from1hi 1 rfl rfl f s m w hf2
          · obtain rfl : k = 2 := by omega
            exact fcheck_from2hi 2 rfl rfl f s m w hf2
        · obtain ⟨g, rfl⟩ : ∃ g : Nat, f = g := ⟨f.toNat, by omega⟩
          have hs : 4294967296 < s := by
            rcases bad_why _ _ _ _ h with c | c | c
            · exact absurd c hk
            · unfold Out at c; omega
            · exact c
          by_cases h1 : k = 1
          · subst h1; exact fcheck_slot1 1 rfl rfl g s m w (by omega) hs
          · obtain rfl : k = 2 := by omega
            exact fcheck_slot2 2 rfl rfl g s m w (by omega) hs
end Go.Proofs.YtlgedfljmgedfaaGreat.M10
namespace Go.Proofs.YtlgedfljmgedfaaGreat.M10
open Go Go.RowKit

/-- A tally: good, bad. -/
structure Ty where
  g : Int
  b : Int
deriving DecidableEq
def tz : Ty := ⟨0, 0⟩
/-- A tally's cells, its value. -/
def enct (x : Ty) : List Value := [.int .i64 x.g, .int .i64 x.b]
def tv (x : Ty) : Value := .agg (enct x).toArray
theorem enct_len (x : Ty) : (enct x).length = 2 := rfl
theorem enct_one (x : Ty) : ∀ u ∈ enct x, u.oneCell' = true := by
  intro u hu; simp [enct] at hu; rcases hu with rfl | rfl <;> rfl
theorem size29 : (Tryz.prog.info? 29).map (·.size) = some 2 := by kernel_rfl
theorem zero29 (w : World) : (zeroValue 29).run Tryz.prog w = .ok (tv tz) w := by kernel_rfl

/-- Block g is a variable that holds the tally. -/
def VarT (w : World) (g : Nat) (x : Ty) : Prop := w.rangeAt g 0 (enct x) ∧ w.there g 0 2

section
variable {w w' : World} {g : Nat} {x : Ty}
theorem VarT.below (h : VarT w g x) {B : Nat} (hk : Below B w w') (hb : g < B) : VarT w' g x := ⟨range_keep h.1 hb hk, there_keep h.2 hb hk⟩
theorem VarT.other (h : VarT w g x) {b : Nat} (ho : Oth b w w') (hb : g ≠ b) : VarT w' g x := ⟨range_other h.1 hb ho, there_other h.2 hb ho⟩
theorem VarT.lt (h : VarT w g x) : g < w.heap.size := World.block_lt_of_cell? w _ (h.1 0 _ rfl)
theorem VarT.keep (h : VarT w g x) (hk : Below w.heap.size w w') : VarT w' g x := h.below hk h.lt
theorem VarT.c0 (h : VarT w g x) : w.cell? ⟨g, 0, none⟩ = some (.int .i64 x.g) := h.1 0 _ rfl
theorem VarT.c1 (h : VarT w g x) : w.cell? ⟨g, 1, none⟩ = some (.int .i64 x.b) := h.1 1 _ rfl
/-- A new variable. -/
theorem vart_new (w : World) (x : Ty) : VarT (w.alloc (.cells (enct x).toArray 29)) w.heap.size x := by
  have h1 : (w.alloc (.cells (enct x).toArray 29)).rangeAt w.heap.size 0 (enct x) := fun j v hv => by
    rw [Nat.zero_add, cell_of_row _ _ _ _ _ _ (heap_alloc_new w _)]
    simpa using hv
  refine ⟨h1, fun j hj => ⟨?_, frozen_of_row _ _ _ _ _ (heap_alloc_new w _)⟩⟩
  rw [h1 j _ (List.getElem?_eq_getElem (by rw [enct_len]; exact hj))]; rfl

theorem vart_stored (ht : w.there g 0 2) (x : Ty) : VarT (w.setCells g 0 (enct x)) g x := ⟨World.rangeAt_setCells_same w g 0 (enct x) ht, there_set _ _ ht⟩

/-! ### At the operation, for the walk -/
variable {ops : Array Oper} {rest : List Oper} {o : Oper} {a : Act} {Q : Exit → Act → World → Prop}
theorem wpList_boxt (hg : o.guard = none) (y : Operand) (ho : o.op = .box 29 y) (hx : a.eval y = tv x)
    (h : ∀ w', VarT w' w.heap.size x → Below w.heap.size w w' → Hid (w'.heap.size = w.heap.size + 1) → wpList Tryz.prog ops Q rest (a.put o.dst (.pointer (some ⟨w.heap.size, 0, none⟩))) w') : wpList Tryz.prog ops Q (o :: rest) a w := by
  refine wpList_plain hg fun K hK => ?_
  unfold Oper.wp execOp
  simp only [ho, hx, Sem.run_bind, Instr.box, newVar, newRow, run_newObj_alloc, Sem.run_pure, Result.andThen_ok]
  exact hK _ _ (h _ (vart_new w x) ((Below.refl _ _).alloc (Nat.le_refl _) _) (hid (by simp)))
theorem wpList_alt (hg : o.guard = none) (ho : o.op = .alloc 29)
    (h : ∀ w', VarT w' w.heap.size tz → Below w.heap.size w w' → Hid (w'.heap.size = w.heap.size + 1) → wpList Tryz.prog ops Q rest (a.put o.dst (.pointer (some ⟨w.heap.size, 0, none⟩))) w') : wpList Tryz.prog ops Q (o :: rest) a w := by
  refine wpList_plain hg fun K hK => ?_
  unfold Oper.wp execOp
  simp only [ho, Sem.run_bind, Instr.alloc, zero29, newVar, newRow, run_newObj_alloc, Sem.run_pure, Result.andThen_ok]
  exact hK _ _ (h _ (vart_new w tz) ((Below.refl _ _).alloc (Nat.le_refl _) _) (hid (by simp)))
theorem wpList_ldt (hw : Region.wanted o (yielded ops a.tmps) = true) (y : Operand) (ho : o.op = .load 29 y) (hx : a.eval y = .pointer (some ⟨g, 0, none⟩)) (hv : VarT w g x)
    (h : wpList Tryz.prog ops Q rest (a.put o.dst (tv x)) w) : wpList Tryz.prog ops Q (o :: rest) a w :=
  wpList_step fun _ hK => by rw [if_pos hw]; exact wp_load_mid 29 y ho g 0 hx (enct x) _ hv.1 Tryz.underlying29 rfl (by rw [size29]; rfl) (hK _ _ h)
theorem wpList_svt (hg : o.guard = none) (y z : Operand) (ho : o.op = .store 29 y z) {p : Ty} (hx : a.eval y = .pointer (some ⟨g, 0, none⟩)) (hy : a.eval z = tv x) (hv : VarT w g p)
    (h : ∀ w', VarT w' g x → Below g w w' → Oth g w w' → Hid (w'.heap.size = w.heap.size) → wpList Tryz.prog ops Q rest (a.put o.dst undef) w') : wpList Tryz.prog ops Q (o :: rest) a w :=
  wpList_store_mid hg 29 y z ho g 0 (enct x).toArray hx hy hv.2 (by rw [size29]; rfl) (all_oneCell_toArray (enct_one x)) (h _ (vart_stored hv.2 x) (setCells_oth g _ _ _).1 (setCells_oth g _ _ _).2 (hid (setCells_size _ _ _ _)))
/-- One cell stored. -/
theorem wpList_st1 (hg : o.guard = none) (ty : TypeId) (y z : Operand) (ho : o.op = .store ty y z) (j : Nat) (v : Value) (hx : a.eval y = .pointer (some ⟨g, j, none⟩)) (hy : a.eval z = v) (hc : v.cells = #[v]) (h1 : v.oneCell' = true) (hs : (Tryz.prog.info? ty).map (·.size) = some 1)
    (hv : w.there g 0 2) (hj : j < 2) (h : wpList Tryz.prog ops Q rest (a.put o.dst undef) (w.setCells g j [v])) : wpList Tryz.prog ops Q (o :: rest) a w := by
  refine wpList_plain hg fun K hK => ?_
  have ht : w.there g j 1 := fun i hi => by have := hv (j + i) (by omega); rwa [Nat.zero_add] at this
  have := run_storeCells_cells (P := Tryz.prog) g j [v] 0 w (fun i hi => by simpa using (ht i (by simpa using hi)).1) (fun i hi => by simpa using (ht i (by simpa using hi)).2) (fun u hu => by simp at hu; rw [hu]; exact h1)
  unfold Oper.wp execOp
  cases hq : Tryz.prog.info? ty with
  | none => simp [hq] at hs
  | some i =>
    have hz : i.size = 1 := by simpa [hq] using hs
    simp only [Nat.add_zero] at this
    have hsv : (storeVar ty ⟨g, j, none⟩ v).run Tryz.prog w = .ok () (w.setCells g j [v]) := by
      simp [storeVar, sizeOf, typeInfo, hq, hc, hz, this]
    simp only [ho, hx, hy, Instr.storeAt, Instr.sureAddr, Sem.run_bind, Sem.run_pure, Result.andThen_ok, hsv]
    exact hK _ _ h
theorem range_set {cs : List Value} {j : Nat} {v : Value} (h : w.rangeAt g 0 cs) (ht : w.there g 0 cs.length) (hj : j < cs.length) : (w.setCells g j [v]).rangeAt g 0 (cs.set j v) := by
  intro i u hu
  rw [Nat.zero_add]
  have hil : i < cs.length := by have := (List.getElem?_eq_some_iff.1 hu).1; simpa using this
  by_cases e : i = j
  · subst e
    have h2 := World.rangeAt_setCells_same w g i [v] (fun k hk => by have := ht (i + k) (by simp at hk; omega); rwa [Nat.zero_add] at this) 0 v rfl
    rw [List.getElem?_set_self hil] at hu
    injection hu with hu; subst hu; simpa using h2
  · rw [List.getElem?_set_ne (by omega)] at hu
    have h2 : w.rangeAt g i [u] := fun k x hx => by
      rcases k with _ | k
      · simp at hx; subst hx; have := h i _ hu; rwa [Nat.zero_add] at this
      · simp at hx
    have h3 := World.rangeAt_setCells_apart h2 g j [v] (by simp; omega) 0 u rfl
    simpa using h3
theorem size3 : (Tryz.prog.info? 3).map (·.size) = some 1 := by kernel_rfl
theorem wpList_sg (hg : o.guard = none) (y z : Operand) (ho : o.op = .store 3 y z) {n : Int} (hx : a.eval y = .pointer (some ⟨g, 0, none⟩)) (hy : a.eval z = .int .i64 n) (hv : VarT w g x)
    (h : ∀ w', VarT w' g { x with g := n } → Below g w w' → Oth g w w' → Hid (w'.heap.size = w.heap.size) → wpList Tryz.prog ops Q rest (a.put o.dst undef) w') : wpList Tryz.prog ops Q (o :: rest) a w :=
  wpList_st1 hg 3 y z ho 0 (.int .i64 n) hx hy rfl rfl size3 hv.2 (by omega) (h _ ⟨range_set (cs := enct x) hv.1 hv.2 (by rw [enct_len]; omega), there_set _ _ hv.2⟩ (setCells_oth g _ _ _).1 (setCells_oth g _ _ _).2 (hid (setCells_size _ _ _ _)))
theorem wpList_sb (hg : o.guard = none) (y z : Operand) (ho : o.op = .store 3 y z) {n : Int} (hx : a.eval y = .pointer (some ⟨g, 1, none⟩)) (hy : a.eval z = .int .i64 n) (hv : VarT w g x)
    (h : ∀ w', VarT w' g { x with b := n } → Below g w w' → Oth g w w' → Hid (w'.heap.size = w.heap.size) → wpList Tryz.prog ops Q rest (a.put o.dst undef) w') : wpList Tryz.prog ops Q (o :: rest) a w :=
  wpList_st1 hg 3 y z ho 1 (.int .i64 n) hx hy rfl rfl size3 hv.2 (by omega) (h _ ⟨range_set (cs := enct x) hv.1 hv.2 (by rw [enct_len]; omega), there_set _ _ hv.2⟩ (setCells_oth g _ _ _).1 (setCells_oth g _ _ _).2 (hid (setCells_size _ _ _ _)))
/-! ### Results that lie in cells -/
theorem ldtv (h : VarT w g x) : (loadVar 29 ⟨g, 0, none⟩).run Tryz.prog w = .ok (tv x) w := run_loadVar_mid w g 0 29 (enct x) _ h.1 Tryz.underlying29 rfl (by rw [size29]; rfl)
theorem results_t {fn : Func} {p : Tmp} (h : fn.results = #[.cell p 29]) (tmps : Array Value) (hp : tmps.getD p undef = .pointer (some ⟨g, 0, none⟩)) (hx : VarT w g x) :
    (results fn tmps).run Tryz.prog w = .ok (tv x) w := by
  have := ldtv hx
  have hp' : tmps[p]?.getD undef = .pointer (some ⟨g, 0, none⟩) := by simpa using hp
  simp only [results, h]
  simp [hp', this, asAddr]
end
end Go.Proofs.YtlgedfljmgedfaaGreat.M10
namespace Go.Proofs.YtlgedfljmgedfaaGreat.M10
open Go Go.RowKit Go.Maps

/-! ### A variable of one cell -/
/-- Block g is a variable that holds v. -/
def VarC (w : World) (g : Nat) (v : Value) : Prop := w.rangeAt g 0 [v] ∧ w.there g 0 1
section
variable {w w' : World} {g : Nat} {v : Value}
theorem VarC.below (h : VarC w g v) {B : Nat} (hk : Below B w w') (hb : g < B) : VarC w' g v := ⟨range_keep h.1 hb hk, there_keep h.2 hb hk⟩
theorem VarC.other (h : VarC w g v) {b : Nat} (ho : Oth b w w') (hb : g ≠ b) : VarC w' g v := ⟨range_other h.1 hb ho, there_other h.2 hb ho⟩
theorem VarC.c0 (h : VarC w g v) : w.cell? ⟨g, 0, none⟩ = some v := h.1 0 _ rfl
theorem VarC.lt (h : VarC w g v) : g < w.heap.size := World.block_lt_of_cell? w _ h.c0
theorem VarC.keep (h : VarC w g v) (hk : Below w.heap.size w w') : VarC w' g v := h.below hk h.lt
theorem varc_new (w : World) (v : Value) (t : TypeId) : VarC (w.alloc (.cells #[v] t)) w.heap.size v := by
  have h1 : (w.alloc (.cells #[v] t)).rangeAt w.heap.size 0 [v] := fun j u hu => by
    rw [Nat.zero_add, cell_of_row _ _ _ _ _ _ (heap_alloc_new w _)]
    simpa using hu
  refine ⟨h1, fun j hj => ⟨?_, frozen_of_row _ _ _ _ _ (heap_alloc_new w _)⟩⟩
  obtain rfl : j = 0 := by omega
  rw [h1 0 v rfl]; rfl
variable {ops : Array Oper} {rest : List Oper} {o : Oper} {a : Act} {Q : Exit → Act → World → Prop}
theorem wpList_box1 (hg : o.guard = none) {t : TypeId} (y : Operand) (ho : o.op = .box t y) (hx : a.eval y = v) (hc : v.cells = #[v])
    (h : ∀ w', VarC w' w.heap.size v → Below w.heap.size w w' → Hid (w'.heap.size = w.heap.size + 1) → wpList Tryz.prog ops Q rest (a.put o.dst (.pointer (some ⟨w.heap.size, 0, none⟩))) w') : wpList Tryz.prog ops Q (o :: rest) a w := by
  refine wpList_plain hg fun K hK => ?_
  unfold Oper.wp execOp
  simp only [ho, hx, Sem.run_bind, Instr.box, newVar, newRow, hc, run_newObj_alloc, Sem.run_pure, Result.andThen_ok]
  exact hK _ _ (h _ (varc_new w v t) ((Below.refl _ _).alloc (Nat.le_refl _) _) (hid (by simp)))
theorem wpList_al1 (hg : o.guard = none) {t : TypeId} (ho : o.op = .alloc t) (hz : (zeroValue t).run Tryz.prog w = .ok v w) (hc : v.cells = #[v])
    (h : ∀ w', VarC w' w.heap.size v → Below w.heap.size w w' → Hid (w'.heap.size = w.heap.size + 1) → wpList Tryz.prog ops Q rest (a.put o.dst (.pointer (some ⟨w.heap.size, 0, none⟩))) w') : wpList Tryz.prog ops Q (o :: rest) a w := by
  refine wpList_plain hg fun K hK => ?_
  unfold Oper.wp execOp
  simp only [ho, Sem.run_bind, Instr.alloc, hz, newVar, newRow, hc, run_newObj_alloc, Sem.run_pure, Result.andThen_ok]
  exact hK _ _ (h _ (varc_new w v t) ((Below.refl _ _).alloc (Nat.le_refl _) _) (hid (by simp)))
theorem wpList_sc (hg : o.guard = none) {ty : TypeId} (y z : Operand) (ho : o.op = .store ty y z) {u : Value} (hx : a.eval y = .pointer (some ⟨g, 0, none⟩)) (hy : a.eval z = v) (hc : v.cells = #[v]) (h1 : v.oneCell' = true) (hs : (Tryz.prog.info? ty).map (·.size) = some 1)
    (hv : VarC w g u) (h : ∀ w', VarC w' g v → Below g w w' → Oth g w w' → Hid (w'.heap.size = w.heap.size) → wpList Tryz.prog ops Q rest (a.put o.dst undef) w') : wpList Tryz.prog ops Q (o :: rest) a w := by
  refine wpList_plain hg fun K hK => ?_
  have := run_storeCells_cells (P := Tryz.prog) g 0 [v] 0 w (fun i hi => by simpa using (hv.2 i (by simpa using hi)).1) (fun i hi => by simpa using (hv.2 i (by simpa using hi)).2) (fun u hu => by simp at hu; rw [hu]; exact h1)
  unfold Oper.wp execOp
  cases hq : Tryz.prog.info? ty with
  | none => simp [hq] at hs
  | some i =>
    have hz : i.size = 1 := by simpa [hq] using hs
    simp only [Nat.add_zero] at this
    have hsv : (storeVar ty ⟨g, 0, none⟩ v).run Tryz.prog w = .ok () (w.setCells g 0 [v]) := by
      simp [storeVar, sizeOf, typeInfo, hq, hc, hz, this]
    simp only [ho, hx, hy, Instr.storeAt, Instr.sureAddr, Sem.run_bind, Sem.run_pure, Result.andThen_ok, hsv]
    exact hK _ _ (h _ ⟨World.rangeAt_setCells_same w g 0 [v] hv.2, there_set _ _ hv.2⟩ (setCells_oth g _ _ _).1 (setCells_oth g _ _ _).2 (hid (setCells_size _ _ _ _)))
end
/-! ### Maps -/
/-- Block B is a map of the entries es. -/
def Mp (w : World) (B : Nat) (es : Array MapEntry) (n : Nat) : Prop := w.heap[B]? = some (.map es n)
theorem Mp.lt {w : World} {B n : Nat} {es : Array MapEntry} (h : Mp w B es n) : B < w.heap.size := (Array.getElem?_eq_some_iff.1 h).1
theorem Mp.below {w w' : World} {B n C : Nat} {es : Array MapEntry} (h : Mp w B es n) (hb : Below C w w') (hc : B < C) : Mp w' B es n := (hb.block B hc).trans h
theorem Mp.keep {w w' : World} {B n : Nat} {es : Array MapEntry} (h : Mp w B es n) (hb : Below w.heap.size w w') : Mp w' B es n := h.below hb h.lt
theorem key3 : Keyed Tryz.prog 3 := int_keyed Tryz.underlying3
/-- A number that is a key. -/
def KeyI (k : Int) : Prop := -9223372036854775808 ≤ k ∧ k ≤ 9223372036854775807
theorem key_i (k : Int) (h : KeyI k) : keyOf Tryz.prog 3 (.int .i64 k) = some (.int .i64 k) := keyOf_int_mk Tryz.underlying3 (WalkArith.wf_i64 h)
/-- What is found at key k among entries. -/
def fnd (k : Int) (es : List MapEntry) : Option (Option (Nat × Value)) := Instr.findNow (.int .i64) (.int .i64 k) es 0
theorem find_run {k : Int} {es : List MapEntry} {r : Option (Nat × Value)} (h : fnd k es = some r) (w : World) : (Instr.findKey 3 (.int .i64 k) es).run Tryz.prog w = .ok r w := by
  unfold fnd at h
  simp [Instr.findKey, run_underlying Tryz.underlying3, h, Result.andThen]
section
variable {w : World} {B n : Nat} {es : Array MapEntry} {ops : Array Oper} {rest : List Oper} {o : Oper} {a : Act} {Q : Exit → Act → World → Prop}
theorem wpList_mk (hg : o.guard = none) {t : TypeId} (ho : o.op = .makeMap t none)
    (h : ∀ w', Mp w' w.heap.size #[] 0 → Below w.heap.size w w' → Hid (w'.heap.size = w.heap.size + 1) → wpList Tryz.prog ops Q rest (a.put o.dst (.map (some w.heap.size))) w') : wpList Tryz.prog ops Q (o :: rest) a w := by
  refine wpList_plain hg fun K hK => ?_
  unfold Oper.wp execOp
  simp only [ho, Option.map_none, Instr.makeMap, Sem.run_bind, run_newObj_alloc, Sem.run_pure, Result.andThen_ok]
  exact hK _ _ (h _ (heap_alloc_new w _) ((Below.refl _ _).alloc (Nat.le_refl _) _) (hid (by simp)))
theorem wpList_ins (hg : o.guard = none) (m x v : Operand) {t e : TypeId} (ho : o.op = .insert t m x v) (ht : Tryz.prog.underlying t = some (.map 3 e)) {k : Int} {u : Value}
    (hm : a.eval m = .map (some B)) (hx : a.eval x = .int .i64 k) (hv : a.eval v = u) (hw : Mp w B es n) (hk : KeyI k) (hf : fnd k es.toList = some none)
    (h : ∀ w', Mp w' B (es.push ⟨.int .i64 k, u, n⟩) (n + 1) → Below B w w' → Oth B w w' → Hid (w'.heap.size = w.heap.size) → wpList Tryz.prog ops Q rest (a.put o.dst undef) w') : wpList Tryz.prog ops Q (o :: rest) a w := by
  refine wpList_plain hg fun K hK => ?_
  unfold Oper.wp execOp
  have hrun : (Instr.mapUpdate t (.map (some B)) (.int .i64 k) u).run Tryz.prog w = .ok () { w with heap := w.heap.setIfInBounds B (.map (es.push ⟨.int .i64 k, u, n⟩) (n + 1)) } := by
    simp [Instr.mapUpdate, run_underlying ht, MapKept.run_getObj_map hw, key3.check w false (key_i k hk), find_run hf, MapKept.run_setObj_map _ hw, Result.andThen]
  simp only [ho, hm, hx, hv, Sem.run_bind, hrun, Sem.run_pure, Result.andThen_ok]
  have hoth : ∀ j, j ≠ B → (w.heap.setIfInBounds B (.map (es.push ⟨.int .i64 k, u, n⟩) (n + 1)))[j]? = w.heap[j]? := fun j hj => by
    rw [Array.getElem?_setIfInBounds_ne (by omega)]
  refine hK _ _ (h _ ?_ ⟨rfl, rfl, rfl, by simp, fun j hj => hoth j (by omega)⟩ hoth (hid (by simp)))
  show (w.heap.setIfInBounds B _)[B]? = _
  rw [Array.getElem?_setIfInBounds_self_of_lt hw.lt]
theorem wpList_lk (hg : o.guard = none) (m x : Operand) {t e : TypeId} (ho : o.op = .lookup t m x true) (ht : Tryz.prog.underlying t = some (.map 3 e)) {k : Int} {r : Option (Nat × Value)} (z : Value)
    (hm : a.eval m = .map (some B)) (hx : a.eval x = .int .i64 k) (hw : Mp w B es n) (hk : KeyI k) (hf : fnd k es.toList = some r) (hz : (zeroValue e).run Tryz.prog w = .ok z w)
    (h : wpList Tryz.prog ops Q rest (a.put o.dst (.tuple #[(r.map (·.2)).getD z, .bool r.isSome])) w) : wpList Tryz.prog ops Q (o :: rest) a w := by
  refine wpList_plain hg fun K hK => ?_
  unfold Oper.wp execOp
  have hrun : (Instr.lookup t (.map (some B)) (.int .i64 k) true).run Tryz.prog w = .ok (.tuple #[(r.map (·.2)).getD z, .bool r.isSome]) w := by
    cases r with
    | none => simp [Instr.lookup, run_underlying ht, MapKept.run_getObj_map hw, key3.check w _ (key_i k hk), find_run hf, hz, Result.andThen]
    | some r => obtain ⟨i, u⟩ := r; simp [Instr.lookup, run_underlying ht, MapKept.run_getObj_map hw, key3.check w _ (key_i k hk), find_run hf, Result.andThen]
  simp only [ho, hm, hx, Sem.run_bind, hrun, Sem.run_pure, Result.andThen_ok]
  exact hK _ _ h
end
/-- Four entries at 0 to 3; what is found there. -/
def es4 (a b c d : Value) : Array MapEntry := #[⟨.int .i64 0, a, 0⟩, ⟨.int .i64 1, b, 1⟩, ⟨.int .i64 2, c, 2⟩, ⟨.int .i64 3, d, 3⟩]
theorem fnd0 (a b c d : Value) : fnd 0 (es4 a b c d).toList = some (some (0, a)) := rfl
theorem fnd1 (a b c d : Value) : fnd 1 (es4 a b c d).toList = some (some (1, b)) := rfl
theorem fnd2 (a b c d : Value) : fnd 2 (es4 a b c d).toList = some (some (2, c)) := rfl
theorem fnd3 (a b c d : Value) : fnd 3 (es4 a b c d).toList = some (some (3, d)) := rfl
theorem fnd_no (a b c d : Value) (k : Int) (h : k < 0 ∨ 3 < k) : fnd k (es4 a b c d).toList = some none := by
  have e0 : (k == 0) = false := by rw [beq_eq_false_iff_ne]; omega
  have e1 : (k == 1) = false := by rw [beq_eq_false_iff_ne]; omega
  have e2 : (k == 2) = false := by rw [beq_eq_false_iff_ne]; omega
  have e3 : (k == 3) = false := by rw [beq_eq_false_iff_ne]; omega
  simp [fnd, es4, Instr.findNow, Instr.sameNow, e0, e1, e2, e3]
end Go.Proofs.YtlgedfljmgedfaaGreat.M10
namespace Go.Proofs.YtlgedfljmgedfaaGreat.M10
open Go Go.RowKit Go.Maps
theorem zero59 (w : World) : (zeroValue 166).run Tryz.prog w = .ok .nilFunc w := by kernel_rfl
theorem zero63 (w : World) : (zeroValue 154).run Tryz.prog w = .ok .nilFunc w := by kernel_rfl
theorem size59 : (Tryz.prog.info? 166).map (·.size) = some 1 := by kernel_rfl
/-- What moves gives: the map B of the closures over me's variable, the owner's, and the one of 'with'. -/
def RetM (me o : Int) (w : World) (e : Ending) (w' : World) : Prop :=
  ∃ B n gm go gw, e = .returned (.map (some B)) ∧ Mp w' B (es4 (.func (.func 173) #[] #[.pointer (some ⟨go, 0, none⟩)]) (.func (.func 172) #[] #[.pointer (some ⟨go, 0, none⟩)])
    (.func (.func 174) #[] #[.pointer (some ⟨gw, 0, none⟩), .pointer (some ⟨gm, 0, none⟩)]) (.func (.func 173) #[] #[.pointer (some ⟨go, 0, none⟩)])) n ∧
    VarC w' gm (.int .i64 me) ∧ VarC w' go (.int .i64 o) ∧ VarC w' gw (.func (.func 172) #[] #[.pointer (some ⟨go, 0, none⟩)]) ∧ Below w.heap.size w w'
set_option maxRecDepth 100000 in
theorem moves_any (me o : Int) (w : World) : Calls Tryz.prog 153 #[.int .i64 me, .int .i64 o] w (RetM me o w) := by
  go_enter Tryz.func153, Tryz.ntmps153
  go_wp2_with (first
    | (refine wpList_ins rfl (.tmp 9) _ _ rfl Tryz.underlying168 rfl rfl rfl m8 (by unfold KeyI; omega) rfl ?_; intro w9 m9 b9 o9 s9)
    | (refine wpList_ins rfl (.tmp 9) _ _ rfl Tryz.underlying168 rfl rfl rfl m7 (by unfold KeyI; omega) rfl ?_; intro w8 m8 b8 o8 s8)
    | (refine wpList_ins rfl (.tmp 9) _ _ rfl Tryz.underlying168 rfl rfl rfl m6 (by unfold KeyI; omega) rfl ?_; intro w7 m7 b7 o7 s7)
    | (refine wpList_ins rfl (.tmp 9) _ _ rfl Tryz.underlying168 rfl rfl rfl m5 (by unfold KeyI; omega) rfl ?_; intro w6 m6 b6 o6 s6; have c6 : w6.cell? ⟨w2.heap.size, 0, none⟩ = some (.func (.func 172) #[] #[.pointer (some ⟨w1.heap.size, 0, none⟩)]) := (V3.out.below b6 v4.lt).c0)
    | (refine wpList_mk rfl rfl ?_; intro w5 m5 b5 s5; have V3 := hid (v4.keep b5))
    | (refine wpList_sc rfl (.tmp 5) (.tmp 7) rfl rfl rfl rfl rfl size59 v3 ?_; intro w4 v4 b4 o4 s4)
    | (refine wpList_al1 rfl rfl (zero59 _) rfl ?_; intro w3 v3 b3 s3)
    | (refine wpList_box1 rfl (.tmp 1) rfl rfl rfl ?_; intro w2 v2 b2 s2)
    | (refine wpList_box1 rfl (.tmp 0) rfl rfl rfl ?_; intro w1 v1 b1 s1)
    )
  go_ret
  have S1 := s1.out; have S2 := s2.out; have S3 := s3.out; have S4 := s4.out
  have L5 : Below w4.heap.size w5 w9 := ((b6.trans b7).trans b8).trans b9
  have L : Below w4.heap.size w4 w9 := b5.trans L5
  have hv4 := v4.lt
  refine ⟨w4.heap.size, _, w.heap.size, w1.heap.size, w2.heap.size, rfl, m9, ?_, ?_, v4.keep L, ?_⟩
  · exact ((((v1.keep b2).keep b3).below b4 (by omega)).keep L)
  · exact (((v2.keep b3).below b4 (by omega)).keep L)
  · exact (((b1.trans (b2.mono (by omega))).trans (b3.mono (by omega))).trans (b4.mono (by omega))).trans (L.mono (by omega))
/-- What counts gives: the map B of the closures. -/
def RetC (w : World) (e : Ending) (w' : World) : Prop :=
  ∃ B n, e = .returned (.map (some B)) ∧ Mp w' B (es4 (.func (.func 166) #[] #[]) (.func (.func 164) #[] #[]) (.func (.func 164) #[] #[]) (.func (.func 165) #[] #[])) n ∧ Below w.heap.size w w'
set_option maxRecDepth 100000 in
theorem counts_any (w : World) : Calls Tryz.prog 137 #[] w (RetC w) := by
  go_enter Tryz.func137, Tryz.ntmps137
  go_wp2_with (first
    | (refine wpList_ins rfl (.tmp 3) _ _ rfl Tryz.underlying156 rfl rfl rfl m8 (by unfold KeyI; omega) rfl ?_; intro w9 m9 b9 o9 s9)
    | (refine wpList_ins rfl (.tmp 3) _ _ rfl Tryz.underlying156 rfl rfl rfl m7 (by unfold KeyI; omega) rfl ?_; intro w8 m8 b8 o8 s8)
    | (refine wpList_ins rfl (.tmp 3) _ _ rfl Tryz.underlying156 rfl rfl rfl m6 (by unfold KeyI; omega) rfl ?_; intro w7 m7 b7 o7 s7)
    | (refine wpList_ins rfl (.tmp 3) _ _ rfl Tryz.underlying156 rfl rfl rfl m5 (by unfold KeyI; omega) rfl ?_; intro w6 m6 b6 o6 s6)
    | (refine wpList_mk rfl rfl ?_; intro w5 m5 b5 s5))
  go_ret
  exact ⟨w.heap.size, _, rfl, m9, (((b5.trans b6).trans b7).trans b8).trans b9⟩
/-! ### The closures -/
theorem c42 (go : Nat) (o own : Nat) (w : World) (hv : VarC w go (.int .i64 (o : Int))) (hm : own < 65536) (ho : o ≤ 15) : Calls Tryz.prog 172 #[.int .u16 (own : Int), .pointer (some ⟨go, 0, none⟩)] w fun e w' => e = .returned (.int .u16 (addb own o : Nat)) ∧ w = w' := by
  have c0 := hv.c0
  have HW := hid (fun w => with_in own o w hm ho)
  clear hv
  go_enter Tryz.func172, Tryz.ntmps172
  go_wp2_with (go_at_call 75; refine (HW.out _).mono ?_; rintro e w' ⟨rfl, rfl⟩)
  go_ret
  exact ⟨rfl, rfl⟩
theorem c43 (go : Nat) (o own : Nat) (w : World) (hv : VarC w go (.int .i64 (o : Int))) (hm : own < 65536) (ho : o ≤ 15) : Calls Tryz.prog 173 #[.int .u16 (own : Int), .pointer (some ⟨go, 0, none⟩)] w fun e w' => e = .returned (.int .u16 (subb own o : Nat)) ∧ w = w' := by
  have c0 := hv.c0
  have HW := hid (fun w => without_in own o w hm ho)
  clear hv
  go_enter Tryz.func173, Tryz.ntmps173
  go_wp2_with (go_at_call 92; refine (HW.out _).mono ?_; rintro e w' ⟨rfl, rfl⟩)
  go_ret
  exact ⟨rfl, rfl⟩
theorem bel_drewN {B : Nat} {a w : World} (h : Below B a w) (n : Nat) : Below B a (w.drewN n) := by
  induction n with
  | zero => exact h
  | succ n ih => exact ih.drew
theorem VarC.drewN {w : World} {g : Nat} {v : Value} (h : VarC w g v) (n : Nat) : VarC (w.drewN n) g v := h.keep (bel_drewN (Below.refl _ _) n)
theorem symm_post {e : Ending} {v : Value} {w w' : World} (h : e = .returned v ∧ w = w') : e = .returned v ∧ w' = w := ⟨h.1, h.2.symm⟩
theorem c44 (gw gm go : Nat) (o me own : Nat) (w : World) (hw : VarC w gw (.func (.func 172) #[] #[.pointer (some ⟨go, 0, none⟩)])) (hv : VarC w go (.int .i64 (o : Int))) (hme : VarC w gm (.int .i64 (me : Int))) (hm : own < 65536) (ho : o ≤ 15) (hl : me ≤ 15) :
    Calls Tryz.prog 174 #[.int .u16 (own : Int), .pointer (some ⟨gw, 0, none⟩), .pointer (some ⟨gm, 0, none⟩)] w fun e w' => e = .returned (.int .u16 (subb (addb own o) me : Nat)) ∧ Below w.heap.size w w' := by
  have c0 := hw.c0
  have c1 := hme.c0
  have T1 := hid (fun n => Calls.quiet_of_same ((c42 go o own (w.drewN n) (hv.drewN n) hm ho).mono fun _ _ => symm_post))
  have T2 := hid (fun n => Calls.quiet_of_same ((without_in (addb own o) me (w.drewN n) (addb_lt own o hm ho) hl).mono fun _ _ => symm_post))
  clear hw hme hv
  go_enter Tryz.func174, Tryz.ntmps174
  go_wp2_with fail
  go_quiet (first | exact T1.out _ | exact T2.out _)
  go_wp2_with fail
  go_ret
  exact ⟨rfl, bel_drewN (Below.refl _ _) _⟩
end Go.Proofs.YtlgedfljmgedfaaGreat.M10
namespace Go.Proofs.YtlgedfljmgedfaaGreat.M10
open Go Go.RowKit Go.Maps
def inc (n : Int) : Int := min (n + 1) 1073741824
theorem inc_in {n : Int} (h : n + 1 ≤ 1073741824) : inc n = n + 1 := by unfold inc; omega
theorem c45_in (g b : Int) (w : World) (h0 : 0 ≤ g) (h1 : g + 1 ≤ 1073741824) : Calls Tryz.prog 164 #[tv ⟨g, b⟩] w fun e w' => e = .returned (tv ⟨g + 1, b⟩) ∧ Below w.heap.size w w' := by
  go_enter Tryz.func164, Tryz.ntmps164
  go_wp2_with (first
    | (refine wpList_svt rfl (.tmp 2) (.tmp 8) rfl rfl rfl v3 ?_; intro w4 v4 b4 o4 s4)
    | (refine wpList_ldt rfl (.tmp 1) rfl rfl u3 ?_)
    | (refine wpList_sg (n := g + 1) rfl (.tmp 7) (.tmp 6) rfl rfl rfl u1 ?_; intro w3 u3 b3 o3 s3; have v3 := v2.other o3 (by have := s1.out; omega))
    | (refine wpList_alt rfl rfl ?_; intro w2 v2 b2 s2; have u1 := v1.keep b2; have c0 : w2.cell? ⟨w.heap.size, 0, none⟩ = some (.int .i64 (g)) := u1.c0; clear v1)
    | (refine wpList_boxt (x := ⟨g, b⟩) rfl (.tmp 0) rfl rfl ?_; intro w1 v1 b1 s1))
  refine bodyPost_ret (w := w4) (results_t Tryz.results164 _ rfl v4) rfl ?_
  have S1 := s1.out; have S2 := s2.out; have S3 := s3.out
  exact ⟨rfl, ((b1.trans (b2.mono (by omega))).trans b3).trans (b4.mono (by omega))⟩
theorem c45_top (b : Int) (w : World)  : Calls Tryz.prog 164 #[tv ⟨1073741824, b⟩] w fun e w' => e = .returned (tv ⟨1073741824, b⟩) ∧ Below w.heap.size w w' := by
  go_enter Tryz.func164, Tryz.ntmps164
  go_wp2_with (first
    | (refine wpList_svt rfl (.tmp 2) (.tmp 8) rfl rfl rfl v3 ?_; intro w4 v4 b4 o4 s4)
    | (refine wpList_ldt rfl (.tmp 1) rfl rfl u3 ?_)
    | (refine wpList_sg (n := 1073741824) rfl (.tmp 7) (.tmp 6) rfl rfl rfl u1 ?_; intro w3 u3 b3 o3 s3; have v3 := v2.other o3 (by have := s1.out; omega))
    | (refine wpList_alt rfl rfl ?_; intro w2 v2 b2 s2; have u1 := v1.keep b2; have c0 : w2.cell? ⟨w.heap.size, 0, none⟩ = some (.int .i64 (1073741824)) := u1.c0; clear v1)
    | (refine wpList_boxt (x := ⟨1073741824, b⟩) rfl (.tmp 0) rfl rfl ?_; intro w1 v1 b1 s1))
  refine bodyPost_ret (w := w4) (results_t Tryz.results164 _ rfl v4) rfl ?_
  have S1 := s1.out; have S2 := s2.out; have S3 := s3.out
  exact ⟨rfl, ((b1.trans (b2.mono (by omega))).trans b3).trans (b4.mono (by omega))⟩
theorem c46_in (g b : Int) (w : World) (h0 : 0 ≤ b) (h1 : b + 1 ≤ 1073741824) : Calls Tryz.prog 165 #[tv ⟨g, b⟩] w fun e w' => e = .returned (tv ⟨g, b + 1⟩) ∧ Below w.heap.size w w' := by
  go_enter Tryz.func165, Tryz.ntmps165
  go_wp2_with (first
    | (refine wpList_svt rfl (.tmp 2) (.tmp 8) rfl rfl rfl v3 ?_; intro w4 v4 b4 o4 s4)
    | (refine wpList_ldt rfl (.tmp 1) rfl rfl u3 ?_)
    | (refine wpList_sb (n := b + 1) rfl (.tmp 7) (.tmp 6) rfl rfl rfl u1 ?_; intro w3 u3 b3 o3 s3; have v3 := v2.other o3 (by have := s1.out; omega))
    | (refine wpList_alt rfl rfl ?_; intro w2 v2 b2 s2; have u1 := v1.keep b2; have c0 : w2.cell? ⟨w.heap.size, 1, none⟩ = some (.int .i64 (b)) := u1.c1; clear v1)
    | (refine wpList_boxt (x := ⟨g, b⟩) rfl (.tmp 0) rfl rfl ?_; intro w1 v1 b1 s1))
  refine bodyPost_ret (w := w4) (results_t Tryz.results165 _ rfl v4) rfl ?_
  have S1 := s1.out; have S2 := s2.out; have S3 := s3.out
  exact ⟨rfl, ((b1.trans (b2.mono (by omega))).trans b3).trans (b4.mono (by omega))⟩
theorem c46_top (g : Int) (w : World)  : Calls Tryz.prog 165 #[tv ⟨g, 1073741824⟩] w fun e w' => e = .returned (tv ⟨g, 1073741824⟩) ∧ Below w.heap.size w w' := by
  go_enter Tryz.func165, Tryz.ntmps165
  go_wp2_with (first
    | (refine wpList_svt rfl (.tmp 2) (.tmp 8) rfl rfl rfl v3 ?_; intro w4 v4 b4 o4 s4)
    | (refine wpList_ldt rfl (.tmp 1) rfl rfl u3 ?_)
    | (refine wpList_sb (n := 1073741824) rfl (.tmp 7) (.tmp 6) rfl rfl rfl u1 ?_; intro w3 u3 b3 o3 s3; have v3 := v2.other o3 (by have := s1.out; omega))
    | (refine wpList_alt rfl rfl ?_; intro w2 v2 b2 s2; have u1 := v1.keep b2; have c0 : w2.cell? ⟨w.heap.size, 1, none⟩ = some (.int .i64 (1073741824)) := u1.c1; clear v1)
    | (refine wpList_boxt (x := ⟨g, 1073741824⟩) rfl (.tmp 0) rfl rfl ?_; intro w1 v1 b1 s1))
  refine bodyPost_ret (w := w4) (results_t Tryz.results165 _ rfl v4) rfl ?_
  have S1 := s1.out; have S2 := s2.out; have S3 := s3.out
  exact ⟨rfl, ((b1.trans (b2.mono (by omega))).trans b3).trans (b4.mono (by omega))⟩
theorem c45_any (x : Ty) (w : World) (h1 : 0 ≤ x.g) (h2 : x.g ≤ 1073741824) : Calls Tryz.prog 164 #[tv x] w fun e w' => e = .returned (tv ⟨inc x.g, x.b⟩) ∧ Below w.heap.size w w' := by
  obtain ⟨g, b⟩ := x
  simp only at h1 h2 ⊢
  by_cases h : g + 1 ≤ 1073741824
  · rw [inc_in h]; exact c45_in g b w h1 h
  · obtain rfl : g = 1073741824 := by omega
    exact c45_top b w
theorem c46_any (x : Ty) (w : World) (h1 : 0 ≤ x.b) (h2 : x.b ≤ 1073741824) : Calls Tryz.prog 165 #[tv x] w fun e w' => e = .returned (tv ⟨x.g, inc x.b⟩) ∧ Below w.heap.size w w' := by
  obtain ⟨g, b⟩ := x
  simp only at h1 h2 ⊢
  by_cases h : b + 1 ≤ 1073741824
  · rw [inc_in h]; exact c46_in g b w h1 h
  · obtain rfl : b = 1073741824 := by omega
    exact c46_top g w
theorem c47_any (x : Ty) (w : World) : Calls Tryz.prog 166 #[tv x] w fun e w' => e = .returned (tv x) ∧ Below w.heap.size w w' := by
  go_enter Tryz.func166, Tryz.ntmps166
  go_wp2_with (first
    | (refine wpList_svt rfl (.tmp 2) (.tmp 3) rfl rfl rfl v2 ?_; intro w3 v3 b3 o3 s3)
    | (refine wpList_ldt rfl (.tmp 1) rfl rfl u2 ?_)
    | (refine wpList_alt rfl rfl ?_; intro w2 v2 b2 s2; have u2 := v1.keep b2)
    | (refine wpList_boxt (x := x) rfl (.tmp 0) rfl rfl ?_; intro w1 v1 b1 s1))
  refine bodyPost_ret (w := w3) (results_t Tryz.results166 _ rfl v3) rfl ?_
  have S1 := s1.out; have S2 := s2.out
  exact ⟨rfl, (b1.trans (b2.mono (by omega))).trans (b3.mono (by omega))⟩
theorem results_ti {w : World} {g : Nat} {x : Ty} {fn : Func} {p q : Tmp} {u : Value} (h : fn.results = #[.cell p 29, .tmp q]) (tmps : Array Value) (hp : tmps.getD p undef = .pointer (some ⟨g, 0, none⟩)) (hq : tmps.getD q undef = u) (hx : VarT w g x) :
    (results fn tmps).run Tryz.prog w = .ok (.tuple #[tv x, u]) w := by
  have := ldtv hx
  have hp' : tmps[p]?.getD undef = .pointer (some ⟨g, 0, none⟩) := by simpa using hp
  have hq' : tmps[q]?.getD undef = u := by simpa using hq
  simp only [results, h]
  simp [hp', hq', this, asAddr]
/-- A number that a tally may tell; a verdict; a tally; what Count answers. -/
def OkN (n : Int) : Prop := 0 ≤ n ∧ n ≤ 1073741824
def OkV (v : Int) : Prop := 0 ≤ v ∧ v ≤ 3
def OkT (t : Ty) : Prop := OkN t.g ∧ OkN t.b
instance (n : Int) : Decidable (OkN n) := by unfold OkN; infer_instance
instance (v : Int) : Decidable (OkV v) := by unfold OkV; infer_instance
instance (t : Ty) : Decidable (OkT t) := by unfold OkT; infer_instance
def cnt (t : Ty) (v : Int) : Ty := if v = 1 ∨ v = 2 then ⟨inc t.g, t.b⟩ else if v = 3 then ⟨t.g, inc t.b⟩ else t
def cntT (t : Ty) (v : Int) : Ty := if OkV v ∧ OkT t then cnt t v else tz
def cntE (t : Ty) (v : Int) : Int := if OkV v ∧ OkT t then 0 else 1
theorem isCount_yes (n : Int) (h : OkN n) (w : World) : Calls Tryz.prog 138 #[.int .i64 n] w fun e w' => e = .returned (.bool true) ∧ w = w' := by
  obtain ⟨h1, h2⟩ := h
  go_enter Tryz.func138, Tryz.ntmps138
  go_wp2_with fail
  go_ret
  exact ⟨ret_bool (by first | rfl | simp [h2]), rfl⟩
theorem isCount_no (n : Int) (h : ¬ OkN n) (w : World) : Calls Tryz.prog 138 #[.int .i64 n] w fun e w' => e = .returned (.bool false) ∧ w = w' := by
  unfold OkN at h
  by_cases h0 : 0 ≤ n
  · have h1 : ¬ n ≤ 1073741824 := by omega
    clear h
    go_enter Tryz.func138, Tryz.ntmps138
    go_wp2_with fail
    go_ret
    exact ⟨ret_bool (by first | rfl | simp; omega), rfl⟩
  · clear h
    go_enter Tryz.func138, Tryz.ntmps138
    go_wp2_with fail
    go_ret
    exact ⟨ret_bool (by first | rfl | simp), rfl⟩
/-- What Count gives. -/
def RetT (x : Ty) (E : Int) (w : World) (e : Ending) (w' : World) : Prop := e = .returned (.tuple #[tv x, .int .i64 E]) ∧ Below w.heap.size w w'
theorem count_noV (x : Ty) (v : Int) (w : World) (hk : KeyI v) (h : v < 0 ∨ 3 < v) : Calls Tryz.prog 96 #[tv x, .int .i64 v] w (RetT tz 1 w) := by
  have HF := hid (fun a b c d => fnd_no a b c d v h)
  have HK := hid hk
  have HC := hid counts_any
  clear h hk
  go_enter Tryz.func96, Tryz.ntmps96
  go_wp2_with (first
    | (refine wpList_svt (x := tz) rfl (.tmp 4) (.tmp 28) rfl rfl rfl v3 ?_; intro w4 v4 b4 o4 s4)
    | (refine wpList_lk rfl (.tmp 9) (.tmp 10) rfl Tryz.underlying156 .nilFunc rfl rfl m3 HK.out (HF.out _ _ _ _) (zero63 _) ?_)
    | (go_at_call 137; refine (HC.out _).mono ?_; rintro e w3 ⟨B3, n3, rfl, m3, b3⟩; have v3 := v2.keep b3)
    | (refine wpList_alt rfl rfl ?_; intro w2 v2 b2 s2)
    | (refine wpList_boxt (x := x) rfl (.tmp 0) rfl rfl ?_; intro w1 v1 b1 s1))
  refine bodyPost_ret (w := w4) (results_ti Tryz.results96 _ rfl rfl v4) rfl ?_
  have S1 := s1.out; have S2 := s2.out; have S3 := b3.size
  exact ⟨rfl, ((b1.trans (b2.mono (by omega))).trans (b3.mono (by omega))).trans (b4.mono (by omega))⟩
theorem count_noG (g b : Int) (v : Int) (w : World) (hk : KeyI v) (h : ¬ OkN g) (hf : ∀ a b c d, ∃ i u, fnd v (es4 a b c d).toList = some (some (i, u))) : Calls Tryz.prog 96 #[tv ⟨g, b⟩, .int .i64 v] w (RetT tz 1 w) := by
  have HF := hid hf
  have HK := hid hk
  have HC := hid counts_any
  have HG := hid (fun w => isCount_no g h w)
  clear h hk hf
  go_enter Tryz.func96, Tryz.ntmps96
  go_wp2_with (first
    | (refine wpList_svt (x := tz) rfl (.tmp 4) (.tmp 28) rfl rfl rfl v3 ?_; intro w4 v4 b4 o4 s4)
    | (go_at_call 138; refine (HG.out _).mono ?_; rintro e w' ⟨rfl, rfl⟩)
    | (refine wpList_lk rfl (.tmp 9) (.tmp 10) rfl Tryz.underlying156 .nilFunc rfl rfl m3 HK.out F3 (zero63 _) ?_)
    | (go_at_call 137; refine (HC.out _).mono ?_; rintro e w3 ⟨B3, n3, rfl, m3, b3⟩; have v3 := v2.keep b3; obtain ⟨i3, u3, F3⟩ := HF.out (.func (.func 166) #[] #[]) (.func (.func 164) #[] #[]) (.func (.func 164) #[] #[]) (.func (.func 165) #[] #[]); have c0 : w3.cell? ⟨w.heap.size, 0, none⟩ = some (.int .i64 g) := ((v1.keep b2).keep b3).c0)
    | (refine wpList_alt rfl rfl ?_; intro w2 v2 b2 s2)
    | (refine wpList_boxt (x := ⟨g, b⟩) rfl (.tmp 0) rfl rfl ?_; intro w1 v1 b1 s1))
  refine bodyPost_ret (w := w4) (results_ti Tryz.results96 _ rfl rfl v4) rfl ?_
  have S1 := s1.out; have S2 := s2.out; have S3 := b3.size
  exact ⟨rfl, ((b1.trans (b2.mono (by omega))).trans (b3.mono (by omega))).trans (b4.mono (by omega))⟩
theorem count_noB (g b : Int) (v : Int) (w : World) (hk : KeyI v) (h0 : OkN g) (h : ¬ OkN b) (hf : ∀ a b c d, ∃ i u, fnd v (es4 a b c d).toList = some (some (i, u))) : Calls Tryz.prog 96 #[tv ⟨g, b⟩, .int .i64 v] w (RetT tz 1 w) := by
  have HF := hid hf
  have HK := hid hk
  have HC := hid counts_any
  have HG := hid (fun w => isCount_yes g h0 w)
  have HB := hid (fun w => isCount_no b h w)
  clear h hk hf h0
  go_enter Tryz.func96, Tryz.ntmps96
  go_wp2_with (first
    | (refine wpList_svt (x := tz) rfl (.tmp 4) (.tmp 28) rfl rfl rfl v3 ?_; intro w4 v4 b4 o4 s4)
    | (go_at_call 138; (with_reducible refine (HG.out w3).mono ?_); rintro e w' ⟨rfl, rfl⟩)
    | (go_at_call 138; (with_reducible refine (HB.out w3).mono ?_); rintro e w' ⟨rfl, rfl⟩)
    | (refine wpList_lk rfl (.tmp 9) (.tmp 10) rfl Tryz.underlying156 .nilFunc rfl rfl m3 HK.out F3 (zero63 _) ?_)
    | (go_at_call 137; refine (HC.out _).mono ?_; rintro e w3 ⟨B3, n3, rfl, m3, b3⟩; have v3 := v2.keep b3; obtain ⟨i3, u3, F3⟩ := HF.out (.func (.func 166) #[] #[]) (.func (.func 164) #[] #[]) (.func (.func 164) #[] #[]) (.func (.func 165) #[] #[]); have c0 : w3.cell? ⟨w.heap.size, 0, none⟩ = some (.int .i64 g) := ((v1.keep b2).keep b3).c0; have c1 : w3.cell? ⟨w.heap.size, 1, none⟩ = some (.int .i64 b) := ((v1.keep b2).keep b3).c1)
    | (refine wpList_alt rfl rfl ?_; intro w2 v2 b2 s2)
    | (refine wpList_boxt (x := ⟨g, b⟩) rfl (.tmp 0) rfl rfl ?_; intro w1 v1 b1 s1))
  refine bodyPost_ret (w := w4) (results_ti Tryz.results96 _ rfl rfl v4) rfl ?_
  have S1 := s1.out; have S2 := s2.out; have S3 := b3.size
  exact ⟨rfl, ((b1.trans (b2.mono (by omega))).trans (b3.mono (by omega))).trans (b4.mono (by omega))⟩
theorem count_ok45 (g b : Int) (v : Int) (y : Ty) (i : Nat) (w : World) (hk : KeyI v) (h0 : OkN g) (h : OkN b) (hf : fnd v (es4 (.func (.func 166) #[] #[]) (.func (.func 164) #[] #[]) (.func (.func 164) #[] #[]) (.func (.func 165) #[] #[])).toList = some (some (i, .func (.func 164) #[] #[])))
    (hc : ∀ w, Calls Tryz.prog 164 #[tv ⟨g, b⟩] w fun e w' => e = .returned (tv y) ∧ Below w.heap.size w w') : Calls Tryz.prog 96 #[tv ⟨g, b⟩, .int .i64 v] w (RetT y 0 w) := by
  have HF := hid hf
  have HK := hid hk
  have HC := hid counts_any
  have HG := hid (fun w => isCount_yes g h0 w)
  have HB := hid (fun w => isCount_yes b h w)
  have HD := hid hc
  clear h hk hf h0 hc
  go_enter Tryz.func96, Tryz.ntmps96
  go_wp2_with (first
    | (refine wpList_svt rfl (.tmp 4) (.tmp 31) rfl rfl rfl v4 ?_; intro w5 v5 b5 o5 s5)
    | (refine wpList_ldt rfl (.tmp 2) rfl rfl u3 ?_)
    | (go_at_call 138; (with_reducible refine (HG.out w3).mono ?_); rintro e w' ⟨rfl, rfl⟩)
    | (go_at_call 138; (with_reducible refine (HB.out w3).mono ?_); rintro e w' ⟨rfl, rfl⟩)
    | (go_at_call 164; refine (HD.out _).mono ?_; rintro e w4 ⟨rfl, b4⟩; have v4 := v3.keep b4)
    | (refine wpList_lk rfl (.tmp 9) (.tmp 10) rfl Tryz.underlying156 .nilFunc rfl rfl m3 HK.out HF.out (zero63 _) ?_)
    | (go_at_call 137; refine (HC.out _).mono ?_; rintro e w3 ⟨B3, n3, rfl, m3, b3⟩; have v3 := v2.keep b3; have u3 := (v1.keep b2).keep b3; have c0 : w3.cell? ⟨w.heap.size, 0, none⟩ = some (.int .i64 g) := ((v1.keep b2).keep b3).c0; have c1 : w3.cell? ⟨w.heap.size, 1, none⟩ = some (.int .i64 b) := ((v1.keep b2).keep b3).c1)
    | (refine wpList_alt rfl rfl ?_; intro w2 v2 b2 s2)
    | (refine wpList_boxt (x := ⟨g, b⟩) rfl (.tmp 0) rfl rfl ?_; intro w1 v1 b1 s1))
  refine bodyPost_ret (w := w5) (results_ti Tryz.results96 _ rfl rfl v5) rfl ?_
  have S1 := s1.out; have S2 := s2.out; have S3 := b3.size; have S4 := b4.size
  exact ⟨rfl, (((b1.trans (b2.mono (by omega))).trans (b3.mono (by omega))).trans (b4.mono (by omega))).trans (b5.mono (by omega))⟩
theorem count_ok46 (g b : Int) (v : Int) (y : Ty) (i : Nat) (w : World) (hk : KeyI v) (h0 : OkN g) (h : OkN b) (hf : fnd v (es4 (.func (.func 166) #[] #[]) (.func (.func 164) #[] #[]) (.func (.func 164) #[] #[]) (.func (.func 165) #[] #[])).toList = some (some (i, .func (.func 165) #[] #[])))
    (hc : ∀ w, Calls Tryz.prog 165 #[tv ⟨g, b⟩] w fun e w' => e = .returned (tv y) ∧ Below w.heap.size w w') : Calls Tryz.prog 96 #[tv ⟨g, b⟩, .int .i64 v] w (RetT y 0 w) := by
  have HF := hid hf
  have HK := hid hk
  have HC := hid counts_any
  have HG := hid (fun w => isCount_yes g h0 w)
  have HB := hid (fun w => isCount_yes b h w)
  have HD := hid hc
  clear h hk hf h0 hc
  go_enter Tryz.func96, Tryz.ntmps96
  go_wp2_with (first
    | (refine wpList_svt rfl (.tmp 4) (.tmp 31) rfl rfl rfl v4 ?_; intro w5 v5 b5 o5 s5)
    | (refine wpList_ldt rfl (.tmp 2) rfl rfl u3 ?_)
    | (go_at_call 138; (with_reducible refine (HG.out w3).mono ?_); rintro e w' ⟨rfl, rfl⟩)
    | (go_at_call 138; (with_reducible refine (HB.out w3).mono ?_); rintro e w' ⟨rfl, rfl⟩)
    | (go_at_call 165; refine (HD.out _).mono ?_; rintro e w4 ⟨rfl, b4⟩; have v4 := v3.keep b4)
    | (refine wpList_lk rfl (.tmp 9) (.tmp 10) rfl Tryz.underlying156 .nilFunc rfl rfl m3 HK.out HF.out (zero63 _) ?_)
    | (go_at_call 137; refine (HC.out _).mono ?_; rintro e w3 ⟨B3, n3, rfl, m3, b3⟩; have v3 := v2.keep b3; have u3 := (v1.keep b2).keep b3; have c0 : w3.cell? ⟨w.heap.size, 0, none⟩ = some (.int .i64 g) := ((v1.keep b2).keep b3).c0; have c1 : w3.cell? ⟨w.heap.size, 1, none⟩ = some (.int .i64 b) := ((v1.keep b2).keep b3).c1)
    | (refine wpList_alt rfl rfl ?_; intro w2 v2 b2 s2)
    | (refine wpList_boxt (x := ⟨g, b⟩) rfl (.tmp 0) rfl rfl ?_; intro w1 v1 b1 s1))
  refine bodyPost_ret (w := w5) (results_ti Tryz.results96 _ rfl rfl v5) rfl ?_
  have S1 := s1.out; have S2 := s2.out; have S3 := b3.size; have S4 := b4.size
  exact ⟨rfl, (((b1.trans (b2.mono (by omega))).trans (b3.mono (by omega))).trans (b4.mono (by omega))).trans (b5.mono (by omega))⟩
theorem count_ok47 (g b : Int) (v : Int) (y : Ty) (i : Nat) (w : World) (hk : KeyI v) (h0 : OkN g) (h : OkN b) (hf : fnd v (es4 (.func (.func 166) #[] #[]) (.func (.func 164) #[] #[]) (.func (.func 164) #[] #[]) (.func (.func 165) #[] #[])).toList = some (some (i, .func (.func 166) #[] #[])))
    (hc : ∀ w, Calls Tryz.prog 166 #[tv ⟨g, b⟩] w fun e w' => e = .returned (tv y) ∧ Below w.heap.size w w') : Calls Tryz.prog 96 #[tv ⟨g, b⟩, .int .i64 v] w (RetT y 0 w) := by
  have HF := hid hf
  have HK := hid hk
  have HC := hid counts_any
  have HG := hid (fun w => isCount_yes g h0 w)
  have HB := hid (fun w => isCount_yes b h w)
  have HD := hid hc
  clear h hk hf h0 hc
  go_enter Tryz.func96, Tryz.ntmps96
  go_wp2_with (first
    | (refine wpList_svt rfl (.tmp 4) (.tmp 31) rfl rfl rfl v4 ?_; intro w5 v5 b5 o5 s5)
    | (refine wpList_ldt rfl (.tmp 2) rfl rfl u3 ?_)
    | (go_at_call 138; (with_reducible refine (HG.out w3).mono ?_); rintro e w' ⟨rfl, rfl⟩)
    | (go_at_call 138; (with_reducible refine (HB.out w3).mono ?_); rintro e w' ⟨rfl, rfl⟩)
    | (go_at_call 166; refine (HD.out _).mono ?_; rintro e w4 ⟨rfl, b4⟩; have v4 := v3.keep b4)
    | (refine wpList_lk rfl (.tmp 9) (.tmp 10) rfl Tryz.underlying156 .nilFunc rfl rfl m3 HK.out HF.out (zero63 _) ?_)
    | (go_at_call 137; refine (HC.out _).mono ?_; rintro e w3 ⟨B3, n3, rfl, m3, b3⟩; have v3 := v2.keep b3; have u3 := (v1.keep b2).keep b3; have c0 : w3.cell? ⟨w.heap.size, 0, none⟩ = some (.int .i64 g) := ((v1.keep b2).keep b3).c0; have c1 : w3.cell? ⟨w.heap.size, 1, none⟩ = some (.int .i64 b) := ((v1.keep b2).keep b3).c1)
    | (refine wpList_alt rfl rfl ?_; intro w2 v2 b2 s2)
    | (refine wpList_boxt (x := ⟨g, b⟩) rfl (.tmp 0) rfl rfl ?_; intro w1 v1 b1 s1))
  refine bodyPost_ret (w := w5) (results_ti Tryz.results96 _ rfl rfl v5) rfl ?_
  have S1 := s1.out; have S2 := s2.out; have S3 := b3.size; have S4 := b4.size
  exact ⟨rfl, (((b1.trans (b2.mono (by omega))).trans (b3.mono (by omega))).trans (b4.mono (by omega))).trans (b5.mono (by omega))⟩
theorem count_any (x : Ty) (v : Int) (w : World) (hk : KeyI v) : Calls Tryz.prog 96 #[tv x, .int .i64 v] w (RetT (cntT x v) (cntE x v) w) := by
  obtain ⟨g, b⟩ := x
  by_cases hv : OkV v
  · have hf : ∀ a b c d, ∃ i u, fnd v (es4 a b c d).toList = some (some (i, u)) := by
      intro a b c d
      unfold OkV at hv
      obtain rfl | rfl | rfl | rfl : v = 0 ∨ v = 1 ∨ v = 2 ∨ v = 3 := by omega
      · exact ⟨_, _, fnd0 a b c d⟩
      · exact ⟨_, _, fnd1 a b c d⟩
      · exact ⟨_, _, fnd2 a b c d⟩
      · exact ⟨_, _, fnd3 a b c d⟩
    by_cases hg : OkN g
    · by_cases hb : OkN b
      · have e1 : cntT ⟨g, b⟩ v = cnt ⟨g, b⟩ v := if_pos ⟨hv, hg, hb⟩
        have e2 : cntE ⟨g, b⟩ v = 0 := if_pos ⟨hv, hg, hb⟩
        rw [e1, e2]
        unfold OkV at hv
        obtain rfl | rfl | rfl | rfl : v = 0 ∨ v = 1 ∨ v = 2 ∨ v = 3 := by omega
        · exact count_ok47 g b 0 _ _ w hk hg hb (fnd0 _ _ _ _) (fun w => c47_any _ w)
        · exact count_ok45 g b 1 _ _ w hk hg hb (fnd1 _ _ _ _) (fun w => c45_any _ w hg.1 hg.2)
        · exact count_ok45 g b 2 _ _ w hk hg hb (fnd2 _ _ _ _) (fun w => c45_any _ w hg.1 hg.2)
        · exact count_ok46 g b 3 _ _ w hk hg hb (fnd3 _ _ _ _) (fun w => c46_any _ w hb.1 hb.2)
      · have e1 : cntT ⟨g, b⟩ v = tz := if_neg fun h => hb h.2.2
        have e2 : cntE ⟨g, b⟩ v = 1 := if_neg fun h => hb h.2.2
        rw [e1, e2]; exact count_noB g b v w hk hg hb hf
    · have e1 : cntT ⟨g, b⟩ v = tz := if_neg fun h => hg h.2.1
      have e2 : cntE ⟨g, b⟩ v = 1 := if_neg fun h => hg h.2.1
      rw [e1, e2]; exact count_noG g b v w hk hg hf
  · have e1 : cntT ⟨g, b⟩ v = tz := if_neg fun h => hv h.1
    have e2 : cntE ⟨g, b⟩ v = 1 := if_neg fun h => hv h.1
    rw [e1, e2]; exact count_noV ⟨g, b⟩ v w hk (by unfold OkV at hv; omega)
theorem clique_any (x : Ty) (c : Bool) (hc : decide (0 < x.b ∧ x.g ≤ x.b) = c) (w : World) : Calls Tryz.prog 128 #[tv x] w fun e w' => e = .returned (.bool c) ∧ Below w.heap.size w w' := by
  obtain ⟨g, b⟩ := x
  simp only at hc
  by_cases h : 0 < b
  · go_enter Tryz.func128, Tryz.ntmps128
    go_wp2_with (refine wpList_boxt (x := ⟨g, b⟩) rfl (.tmp 0) rfl rfl ?_; intro w1 v1 b1 s1; have c0 : w1.cell? ⟨w.heap.size, 0, none⟩ = some (.int .i64 g) := v1.c0; have c1 : w1.cell? ⟨w.heap.size, 1, none⟩ = some (.int .i64 b) := v1.c1)
    go_ret
    exact ⟨ret_bool (by rw [← hc]; simp [h]), b1⟩
  · go_enter Tryz.func128, Tryz.ntmps128
    go_wp2_with (refine wpList_boxt (x := ⟨g, b⟩) rfl (.tmp 0) rfl rfl ?_; intro w1 v1 b1 s1; have c0 : w1.cell? ⟨w.heap.size, 0, none⟩ = some (.int .i64 g) := v1.c0; have c1 : w1.cell? ⟨w.heap.size, 1, none⟩ = some (.int .i64 b) := v1.c1)
    go_ret
    exact ⟨ret_bool (by rw [← hc, eq_comm, decide_eq_false_iff_not]; omega), b1⟩
end Go.Proofs.YtlgedfljmgedfaaGreat.M10
