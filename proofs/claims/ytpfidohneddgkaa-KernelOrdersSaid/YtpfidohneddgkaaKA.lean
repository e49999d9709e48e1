/-
  Words for memory: a queue's four cells, a variable that holds a queue or a thing (VarQ, VarI), what box, alloc, loads and stores do to them. No condition but what each head says.
-/
import Derived.Test.YtpfidohneddgkaaI
namespace Go.Proofs.Ytpfidohneddgkaa
open Go Go.RowKit

/-- A queue as a value: its slice, its next number, its time, its horizon. -/
structure Qu where
  A : Option Addr
  n : Nat
  c : Nat
  nx : Int
  nw : Int
  hz : Int
def encq (q : Qu) : List Value := [.slice q.A q.n q.c, .int .u64 q.nx, .int .i64 q.nw, .int .i64 q.hz]
def qv (q : Qu) : Value := .agg (encq q).toArray
def qz : Qu := ⟨none, 0, 0, 0, 0, 0⟩
theorem encq_len (q : Qu) : (encq q).length = 4 := rfl
theorem encq_one (q : Qu) : ∀ u ∈ encq q, u.oneCell' = true := by
  intro u hu; simp [encq] at hu; rcases hu with rfl | rfl | rfl | rfl <;> rfl
theorem size25 : (Try.prog.info? 25).map (·.size) = some 4 := by kernel_rfl
theorem info25 : (Try.prog.info? 25).map (fun i => (i.zero, i.size)) = some (some (qv qz), 4) := by kernel_rfl
theorem zero25 (w : World) : (zeroValue 25).run Try.prog w = .ok (qv qz) w := by kernel_rfl
theorem zero36 (w : World) : (zeroValue 36).run Try.prog w = .ok (itv zr) w := by kernel_rfl

/-- Block g is a variable that holds the queue. -/
def VarQ (w : World) (g : Nat) (q : Qu) : Prop := w.rangeAt g 0 (encq q) ∧ w.there g 0 4
/-- Block g is a variable that holds the thing. -/
def VarI (w : World) (g : Nat) (x : It) : Prop := w.rangeAt g 0 (enc x) ∧ w.there g 0 6
/-- Only block g is another one. -/
def Oth (g : Nat) (w w' : World) : Prop := ∀ k, k ≠ g → w'.heap[k]? = w.heap[k]?

theorem range_other {w w' : World} {b o g : Nat} {cs : List Value} (h : w.rangeAt b o cs) (hb : b ≠ g) (ho : Oth g w w') : w'.rangeAt b o cs := fun j v hv => (World.cell?_of_block (a := ⟨b, o + j, none⟩) (ho b hb)).trans (h j v hv)
theorem there_other {w w' : World} {b o n g : Nat} (h : w.there b o n) (hb : b ≠ g) (ho : Oth g w w') : w'.there b o n := fun j hj =>
  ⟨by rw [World.cell?_of_block (a := ⟨b, o + j, none⟩) (ho b hb)]; exact (h j hj).1, by rw [World.frozen?_of_block (a := ⟨b, o + j, none⟩) (ho b hb)]; exact (h j hj).2⟩
section
variable {w w' : World} {g : Nat} {q : Qu} {x : It}
theorem VarQ.below (h : VarQ w g q) {B : Nat} (hk : Below B w w') (hb : g < B) : VarQ w' g q := ⟨range_keep h.1 hb hk, there_keep h.2 hb hk⟩
theorem VarI.below (h : VarI w g x) {B : Nat} (hk : Below B w w') (hb : g < B) : VarI w' g x := ⟨range_keep h.1 hb hk, there_keep h.2 hb hk⟩
theorem VarQ.other (h : VarQ w g q) {b : Nat} (ho : Oth b w w') (hb : g ≠ b) : VarQ w' g q := ⟨range_other h.1 hb ho, there_other h.2 hb ho⟩
theorem VarI.other (h : VarI w g x) {b : Nat} (ho : Oth b w w') (hb : g ≠ b) : VarI w' g x := ⟨range_other h.1 hb ho, there_other h.2 hb ho⟩
theorem VarQ.lt (h : VarQ w g q) : g < w.heap.size := by
  have := h.1 0 _ rfl
  exact World.block_lt_of_cell? w _ this
theorem VarI.lt (h : VarI w g x) : g < w.heap.size := by
  have := h.1 0 _ rfl
  exact World.block_lt_of_cell? w _ this
theorem VarQ.drew (h : VarQ w g q) : VarQ w.drew g q := h
theorem VarQ.c0 (h : VarQ w g q) : w.cell? ⟨g, 0, none⟩ = some (.slice q.A q.n q.c) := h.1 0 _ rfl
theorem VarQ.c1 (h : VarQ w g q) : w.cell? ⟨g, 1, none⟩ = some (.int .u64 q.nx) := h.1 1 _ rfl
theorem VarQ.c2 (h : VarQ w g q) : w.cell? ⟨g, 2, none⟩ = some (.int .i64 q.nw) := h.1 2 _ rfl
theorem VarQ.c3 (h : VarQ w g q) : w.cell? ⟨g, 3, none⟩ = some (.int .i64 q.hz) := h.1 3 _ rfl
theorem VarI.c0 (h : VarI w g x) : w.cell? ⟨g, 0, none⟩ = some (.int .i64 x.1) := h.1 0 _ rfl
theorem VarI.c1 (h : VarI w g x) : w.cell? ⟨g, 1, none⟩ = some (.int .i64 x.2.1) := h.1 1 _ rfl
theorem VarI.c2 (h : VarI w g x) : w.cell? ⟨g, 2, none⟩ = some (.int .u64 x.2.2.1) := h.1 2 _ rfl
theorem VarI.c3 (h : VarI w g x) : w.cell? ⟨g, 3, none⟩ = some (.int .i64 x.2.2.2.1) := h.1 3 _ rfl
theorem Row.oth {B n b : Nat} {A : Option Addr} {xs : List It} (h : Row w B A n xs) (ho : Oth b w w') (hA : ∀ g o, A = some ⟨g, o, Option.none⟩ → g ≠ b) : Row w' B A n xs :=
  ⟨h.1, fun hn => by
    obtain ⟨g, o, e, hg, hc⟩ := h.2 hn
    exact ⟨g, o, e, hg, fun j u hu => (World.cell?_of_block (a := ⟨g, o + j, Option.none⟩) (ho g (hA g o e))).trans (hc j u hu)⟩⟩
theorem Row.oth_ge {B n b : Nat} {A : Option Addr} {xs : List It} (h : Row w B A n xs) (ho : Oth b w w') (hb : B ≤ b) : Row w' B A n xs :=
  ⟨h.1, fun hn => by
    obtain ⟨g, o, e, hg, hc⟩ := h.2 hn
    exact ⟨g, o, e, hg, fun j u hu => (World.cell?_of_block (a := ⟨g, o + j, Option.none⟩) (ho g (by omega))).trans (hc j u hu)⟩⟩
/-- A new variable. -/
theorem varq_new (w : World) (q : Qu) (t : TypeId) : VarQ (w.alloc (.cells (encq q).toArray t)) w.heap.size q := by
  have h1 : (w.alloc (.cells (encq q).toArray t)).rangeAt w.heap.size 0 (encq q) := fun j v hv => by
    rw [Nat.zero_add, cell_of_row _ _ _ _ _ _ (heap_alloc_new w _)]
    simpa using hv
  refine ⟨h1, fun j hj => ⟨?_, frozen_of_row _ _ _ _ _ (heap_alloc_new w _)⟩⟩
  rw [h1 j _ (List.getElem?_eq_getElem (by rw [encq_len]; exact hj))]; rfl
theorem vari_new (w : World) (x : It) : VarI (w.alloc (.cells (enc x).toArray 36)) w.heap.size x := ⟨range_new w x 36, there_new w x⟩
/-- Cells of a block set: no other one is touched. -/
theorem setCells_oth (g : Nat) : ∀ (vs : List Value) (o : Nat) (w : World), Below g w (w.setCells g o vs) ∧ Oth g w (w.setCells g o vs) := by
  intro vs
  induction vs with
  | nil => exact fun o w => ⟨Below.refl _ _, fun _ _ => rfl⟩
  | cons v r ih => exact fun o w => ⟨((Below.refl _ _).setCell (p := ⟨g, o, none⟩) (Nat.le_refl _) v).trans (ih (o + 1) _).1, fun k hk => ((ih (o + 1) _).2 k hk).trans (Below.heap_setCell w ⟨g, o, none⟩ v k hk)⟩
theorem setCells_size (g : Nat) : ∀ (vs : List Value) (o : Nat) (w : World), (w.setCells g o vs).heap.size = w.heap.size := by
  intro vs
  induction vs with
  | nil => exact fun o w => rfl
  | cons v r ih => exact fun o w => (ih (o + 1) _).trans (by simp)
theorem there_set {n : Nat} (vs : List Value) (o : Nat) (h : w.there g 0 n) : (w.setCells g o vs).there g 0 n := World.there_setCells h g o vs
theorem varq_stored (ht : w.there g 0 4) (q : Qu) : VarQ (w.setCells g 0 (encq q)) g q := ⟨World.rangeAt_setCells_same w g 0 (encq q) ht, there_set _ _ ht⟩
theorem vari_stored (ht : w.there g 0 6) (x : It) : VarI (w.setCells g 0 (enc x)) g x := ⟨World.rangeAt_setCells_same w g 0 (enc x) ht, there_set _ _ ht⟩

/-! ### At the operation, for the walk -/
variable {ops : Array Oper} {rest : List Oper} {o : Oper} {a : Act} {Q : Exit → Act → World → Prop}
theorem wpList_boxq (hg : o.guard = none) (x : Operand) (ho : o.op = .box 25 x) (hx : a.eval x = qv q)
    (h : ∀ w', VarQ w' w.heap.size q → Below w.heap.size w w' → Hid (w'.heap.size = w.heap.size + 1) → wpList Try.prog ops Q rest (a.put o.dst (.pointer (some ⟨w.heap.size, 0, none⟩))) w') : wpList Try.prog ops Q (o :: rest) a w := by
  refine wpList_plain hg fun K hK => ?_
  unfold Oper.wp execOp
  simp only [ho, hx, Sem.run_bind, Instr.box, newVar, newRow, run_newObj_alloc, Sem.run_pure, Result.andThen_ok]
  exact hK _ _ (h _ (varq_new w q 25) ((Below.refl _ _).alloc (Nat.le_refl _) _) (hid (by simp)))
theorem wpList_boxi (hg : o.guard = none) (x : Operand) (ho : o.op = .box 36 x) {v : It} (hx : a.eval x = itv v)
    (h : ∀ w', VarI w' w.heap.size v → Below w.heap.size w w' → Hid (w'.heap.size = w.heap.size + 1) → wpList Try.prog ops Q rest (a.put o.dst (.pointer (some ⟨w.heap.size, 0, none⟩))) w') : wpList Try.prog ops Q (o :: rest) a w := by
  refine wpList_plain hg fun K hK => ?_
  unfold Oper.wp execOp
  simp only [ho, hx, Sem.run_bind, Instr.box, newVar, newRow, run_newObj_alloc, Sem.run_pure, Result.andThen_ok]
  exact hK _ _ (h _ (vari_new w v) ((Below.refl _ _).alloc (Nat.le_refl _) _) (hid (by simp)))
theorem wpList_alq (hg : o.guard = none) (ho : o.op = .alloc 25)
    (h : ∀ w', VarQ w' w.heap.size qz → Below w.heap.size w w' → Hid (w'.heap.size = w.heap.size + 1) → wpList Try.prog ops Q rest (a.put o.dst (.pointer (some ⟨w.heap.size, 0, none⟩))) w') : wpList Try.prog ops Q (o :: rest) a w := by
  refine wpList_plain hg fun K hK => ?_
  unfold Oper.wp execOp
  simp only [ho, Sem.run_bind, Instr.alloc, zero25, newVar, newRow, run_newObj_alloc, Sem.run_pure, Result.andThen_ok]
  exact hK _ _ (h _ (varq_new w qz 25) ((Below.refl _ _).alloc (Nat.le_refl _) _) (hid (by simp)))
theorem wpList_ali (hg : o.guard = none) (ho : o.op = .alloc 36)
    (h : ∀ w', VarI w' w.heap.size zr → Below w.heap.size w w' → Hid (w'.heap.size = w.heap.size + 1) → wpList Try.prog ops Q rest (a.put o.dst (.pointer (some ⟨w.heap.size, 0, none⟩))) w') : wpList Try.prog ops Q (o :: rest) a w := by
  refine wpList_plain hg fun K hK => ?_
  unfold Oper.wp execOp
  simp only [ho, Sem.run_bind, Instr.alloc, zero36, newVar, newRow, run_newObj_alloc, Sem.run_pure, Result.andThen_ok]
  exact hK _ _ (h _ (vari_new w zr) ((Below.refl _ _).alloc (Nat.le_refl _) _) (hid (by simp)))
theorem wpList_ldq (hw : Region.wanted o (yielded ops a.tmps) = true) (x : Operand) (ho : o.op = .load 25 x) (hx : a.eval x = .pointer (some ⟨g, 0, none⟩)) (hv : VarQ w g q)
    (h : wpList Try.prog ops Q rest (a.put o.dst (qv q)) w) : wpList Try.prog ops Q (o :: rest) a w :=
  wpList_step fun _ hK => by rw [if_pos hw]; exact wp_load_mid 25 x ho g 0 hx (encq q) _ hv.1 Try.underlying25 rfl (by rw [size25]; rfl) (hK _ _ h)
theorem wpList_ldi (hw : Region.wanted o (yielded ops a.tmps) = true) (x : Operand) (ho : o.op = .load 36 x) {v : It} (hx : a.eval x = .pointer (some ⟨g, 0, none⟩)) (hv : VarI w g v)
    (h : wpList Try.prog ops Q rest (a.put o.dst (itv v)) w) : wpList Try.prog ops Q (o :: rest) a w :=
  wpList_step fun _ hK => by rw [if_pos hw]; exact wp_load_mid 36 x ho g 0 hx (enc v) _ hv.1 Try.underlying36 rfl (by rw [size24]; rfl) (hK _ _ h)
theorem wpList_svq (hg : o.guard = none) (x y : Operand) (ho : o.op = .store 25 x y) {p : Qu} (hx : a.eval x = .pointer (some ⟨g, 0, none⟩)) (hy : a.eval y = qv q) (hv : VarQ w g p)
    (h : ∀ w', VarQ w' g q → Below g w w' → Oth g w w' → Hid (w'.heap.size = w.heap.size) → wpList Try.prog ops Q rest (a.put o.dst undef) w') : wpList Try.prog ops Q (o :: rest) a w :=
  wpList_store_mid hg 25 x y ho g 0 (encq q).toArray hx hy hv.2 (by rw [size25]; rfl) (all_oneCell_toArray (encq_one q)) (h _ (varq_stored hv.2 q) (setCells_oth g _ _ _).1 (setCells_oth g _ _ _).2 (hid (setCells_size _ _ _ _)))
theorem wpList_svi (hg : o.guard = none) (x y : Operand) (ho : o.op = .store 36 x y) {v p : It} (hx : a.eval x = .pointer (some ⟨g, 0, none⟩)) (hy : a.eval y = itv v) (hv : VarI w g p)
    (h : ∀ w', VarI w' g v → Below g w w' → Oth g w w' → Hid (w'.heap.size = w.heap.size) → wpList Try.prog ops Q rest (a.put o.dst undef) w') : wpList Try.prog ops Q (o :: rest) a w :=
  wpList_store_mid hg 36 x y ho g 0 (enc v).toArray hx hy hv.2 (by rw [size24]; rfl) (all_oneCell_toArray (enc_one v)) (h _ (vari_stored hv.2 v) (setCells_oth g _ _ _).1 (setCells_oth g _ _ _).2 (hid (setCells_size _ _ _ _)))

theorem size22 : (Try.prog.info? 22).map (·.size) = some 1 := by kernel_rfl
theorem size23 : (Try.prog.info? 23).map (·.size) = some 1 := by kernel_rfl
theorem size2 : (Try.prog.info? 2).map (·.size) = some 1 := by kernel_rfl
/-- One cell stored. -/
theorem wpList_st1 (hg : o.guard = none) (ty : TypeId) (x y : Operand) (ho : o.op = .store ty x y) (j : Nat) (v : Value) (hx : a.eval x = .pointer (some ⟨g, j, none⟩)) (hy : a.eval y = v) (hc : v.cells = #[v]) (h1 : v.oneCell' = true) (hs : (Try.prog.info? ty).map (·.size) = some 1)
    (hv : w.there g 0 4) (hj : j < 4) (h : wpList Try.prog ops Q rest (a.put o.dst undef) (w.setCells g j [v])) : wpList Try.prog ops Q (o :: rest) a w := by
  refine wpList_plain hg fun K hK => ?_
  have ht : w.there g j 1 := fun i hi => by have := hv (j + i) (by omega); rwa [Nat.zero_add] at this
  have := run_storeCells_cells (P := Try.prog) g j [v] 0 w (fun i hi => by simpa using (ht i (by simpa using hi)).1) (fun i hi => by simpa using (ht i (by simpa using hi)).2) (fun u hu => by simp at hu; rw [hu]; exact h1)
  unfold Oper.wp execOp
  cases hq : Try.prog.info? ty with
  | none => simp [hq] at hs
  | some i =>
    have hz : i.size = 1 := by simpa [hq] using hs
    simp only [Nat.add_zero] at this
    have hsv : (storeVar ty ⟨g, j, none⟩ v).run Try.prog w = .ok () (w.setCells g j [v]) := by
      simp [storeVar, sizeOf, typeInfo, hq, hc, hz, this]
    simp only [ho, hx, hy, Instr.storeAt, Instr.sureAddr, Sem.run_bind, Sem.run_pure, Result.andThen_ok, hsv]
    exact hK _ _ h
theorem range_set {cs : List Value} {j : Nat} {v : Value} (h : w.rangeAt g 0 cs) (ht : w.there g 0 cs.length) (hj : j < cs.length) : (w.setCells g j [v]).rangeAt g 0 (cs.set j v) := by
  intro i u hu
  rw [Nat.zero_add]
  have hil : i < cs.length := by have := (List.getElem?_eq_some_iff.1 hu).1; simpa using this
  by_cases e : i = j
  · subst e
    have h2 := World.rangeAt_setCells_same w g i [v] (fun k hk => by have := ht (i + k) (by simp at hk; omega); rwa [Nat.zero_add] at this) 0 v rfl
    rw [List.getElem?_set_self hil] at hu
    injection hu with hu; subst hu; simpa using h2
  · rw [List.getElem?_set_ne (by omega)] at hu
    have h2 : w.rangeAt g i [u] := fun k x hx => by
      rcases k with _ | k
      · simp at hx; subst hx; have := h i _ hu; rwa [Nat.zero_add] at this
      · simp at hx
    have h3 := World.rangeAt_setCells_apart h2 g j [v] (by simp; omega) 0 u rfl
    simpa using h3
theorem wpList_sf0 (hg : o.guard = none) (x y : Operand) (ho : o.op = .store 22 x y) {A : Option Addr} {n c : Nat} (hx : a.eval x = .pointer (some ⟨g, 0, none⟩)) (hy : a.eval y = .slice A n c) (hv : VarQ w g q)
    (h : ∀ w', VarQ w' g { q with A := A, n := n, c := c } → Below g w w' → Oth g w w' → Hid (w'.heap.size = w.heap.size) → wpList Try.prog ops Q rest (a.put o.dst undef) w') : wpList Try.prog ops Q (o :: rest) a w :=
  wpList_st1 hg 22 x y ho 0 (.slice A n c) hx hy rfl rfl size22 hv.2 (by omega) (h _ ⟨range_set (cs := encq q) hv.1 hv.2 (by rw [encq_len]; omega), there_set _ _ hv.2⟩ (setCells_oth g _ _ _).1 (setCells_oth g _ _ _).2 (hid (setCells_size _ _ _ _)))
theorem wpList_sf1 (hg : o.guard = none) (x y : Operand) (ho : o.op = .store 23 x y) {z : Int} (hx : a.eval x = .pointer (some ⟨g, 1, none⟩)) (hy : a.eval y = .int .u64 z) (hv : VarQ w g q)
    (h : ∀ w', VarQ w' g { q with nx := z } → Below g w w' → Oth g w w' → Hid (w'.heap.size = w.heap.size) → wpList Try.prog ops Q rest (a.put o.dst undef) w') : wpList Try.prog ops Q (o :: rest) a w :=
  wpList_st1 hg 23 x y ho 1 (.int .u64 z) hx hy rfl rfl size23 hv.2 (by omega) (h _ ⟨range_set (cs := encq q) hv.1 hv.2 (by rw [encq_len]; omega), there_set _ _ hv.2⟩ (setCells_oth g _ _ _).1 (setCells_oth g _ _ _).2 (hid (setCells_size _ _ _ _)))
theorem wpList_sf2 (hg : o.guard = none) (x y : Operand) (ho : o.op = .store 2 x y) {z : Int} (hx : a.eval x = .pointer (some ⟨g, 2, none⟩)) (hy : a.eval y = .int .i64 z) (hv : VarQ w g q)
    (h : ∀ w', VarQ w' g { q with nw := z } → Below g w w' → Oth g w w' → Hid (w'.heap.size = w.heap.size) → wpList Try.prog ops Q rest (a.put o.dst undef) w') : wpList Try.prog ops Q (o :: rest) a w :=
  wpList_st1 hg 2 x y ho 2 (.int .i64 z) hx hy rfl rfl size2 hv.2 (by omega) (h _ ⟨range_set (cs := encq q) hv.1 hv.2 (by rw [encq_len]; omega), there_set _ _ hv.2⟩ (setCells_oth g _ _ _).1 (setCells_oth g _ _ _).2 (hid (setCells_size _ _ _ _)))

/-! ### Results that lie in cells -/
theorem ldqv (h : VarQ w g q) : (loadVar 25 ⟨g, 0, none⟩).run Try.prog w = .ok (qv q) w := run_loadVar_mid w g 0 25 (encq q) _ h.1 Try.underlying25 rfl (by rw [size25]; rfl)
theorem results_q {fn : Func} {p : Tmp} (h : fn.results = #[.cell p 25]) (tmps : Array Value) (hp : tmps.getD p undef = .pointer (some ⟨g, 0, none⟩)) (hx : VarQ w g q) :
    (results fn tmps).run Try.prog w = .ok (qv q) w := by
  have := ldqv hx
  have hp' : tmps[p]?.getD undef = .pointer (some ⟨g, 0, none⟩) := by simpa using hp
  simp only [results, h]
  simp [hp', this, asAddr]
theorem results_q1 {fn : Func} {p r : Tmp} (h : fn.results = #[.cell p 25, .tmp r]) (tmps : Array Value) (hp : tmps.getD p undef = .pointer (some ⟨g, 0, none⟩)) (hx : VarQ w g q) :
    (results fn tmps).run Try.prog w = .ok (.tuple #[qv q, tmps.getD r undef]) w := by
  have := ldqv hx
  have hp' : tmps[p]?.getD undef = .pointer (some ⟨g, 0, none⟩) := by simpa using hp
  simp only [results, h]
  simp [Result.andThen, hp', this, asAddr]
theorem results_q2 {fn : Func} {p r s : Tmp} (h : fn.results = #[.cell p 25, .tmp r, .tmp s]) (tmps : Array Value) (hp : tmps.getD p undef = .pointer (some ⟨g, 0, none⟩)) (hx : VarQ w g q) :
    (results fn tmps).run Try.prog w = .ok (.tuple #[qv q, tmps.getD r undef, tmps.getD s undef]) w := by
  have := ldqv hx
  have hp' : tmps[p]?.getD undef = .pointer (some ⟨g, 0, none⟩) := by simpa using hp
  simp only [results, h]
  simp [Result.andThen, hp', this, asAddr]
theorem results_i1 {fn : Func} {p r : Tmp} (h : fn.results = #[.cell p 36, .tmp r]) (tmps : Array Value) (hp : tmps.getD p undef = .pointer (some ⟨g, 0, none⟩)) (hx : VarI w g x) :
    (results fn tmps).run Try.prog w = .ok (.tuple #[itv x, tmps.getD r undef]) w := by
  have := ldv w g 0 x hx.1
  have hp' : tmps[p]?.getD undef = .pointer (some ⟨g, 0, none⟩) := by simpa using hp
  simp only [results, h]
  simp [Result.andThen, hp', this, asAddr]
theorem results_qi1 {fn : Func} {p r s : Tmp} {g2 : Nat} (h : fn.results = #[.cell p 25, .cell r 36, .tmp s]) (tmps : Array Value) (hp : tmps.getD p undef = .pointer (some ⟨g, 0, none⟩)) (hr : tmps.getD r undef = .pointer (some ⟨g2, 0, none⟩)) (hq : VarQ w g q) (hx : VarI w g2 x) :
    (results fn tmps).run Try.prog w = .ok (.tuple #[qv q, itv x, tmps.getD s undef]) w := by
  have h1 := ldqv hq
  have h2 := ldv w g2 0 x hx.1
  have hp' : tmps[p]?.getD undef = .pointer (some ⟨g, 0, none⟩) := by simpa using hp
  have hr' : tmps[r]?.getD undef = .pointer (some ⟨g2, 0, none⟩) := by simpa using hr
  simp only [results, h]
  simp [Result.andThen, hp', hr', h1, h2, asAddr]
end
end Go.Proofs.Ytpfidohneddgkaa
