/-
  Words for memory: a variable that holds an api.Air (VarA), the bytes of some (Ba, El), what box, alloc, loads, stores and appends do to them. No condition but what each head says.
-/
import Derived.Test.YtjmkhhmibkiijaaV
namespace Go.Proofs.Ytjmkhhmibkiijaa
open Go Go.RowKit

theorem zero25 (w : World) : (zeroValue 25).run Try.prog w = .ok (itv az) w := by kernel_rfl
/-- Block g is a variable that holds it. -/
def VarA (w : World) (g : Nat) (x : Ar) : Prop := w.rangeAt g 0 (enc x) ∧ w.there g 0 8
/-- Only block g is another one. -/
def Oth (g : Nat) (w w' : World) : Prop := ∀ k, k ≠ g → w'.heap[k]? = w.heap[k]?
theorem range_keep {w w' : World} {b o : Nat} {cs : List Value} (h : w.rangeAt b o cs) {B : Nat} (hb : b < B) (hk : Below B w w') : w'.rangeAt b o cs := fun j v hv => (hk.cell (p := ⟨b, o + j, none⟩) hb).trans (h j v hv)
theorem there_keep {w w' : World} {b o n : Nat} (h : w.there b o n) {B : Nat} (hb : b < B) (hk : Below B w w') : w'.there b o n := fun j hj =>
  ⟨by rw [hk.cell (p := ⟨b, o + j, none⟩) hb]; exact (h j hj).1, by rw [hk.frozen (p := ⟨b, o + j, none⟩) hb]; exact (h j hj).2⟩
theorem range_other {w w' : World} {b o g : Nat} {cs : List Value} (h : w.rangeAt b o cs) (hb : b ≠ g) (ho : Oth g w w') : w'.rangeAt b o cs := fun j v hv => (World.cell?_of_block (a := ⟨b, o + j, none⟩) (ho b hb)).trans (h j v hv)
theorem there_other {w w' : World} {b o n g : Nat} (h : w.there b o n) (hb : b ≠ g) (ho : Oth g w w') : w'.there b o n := fun j hj =>
  ⟨by rw [World.cell?_of_block (a := ⟨b, o + j, none⟩) (ho b hb)]; exact (h j hj).1, by rw [World.frozen?_of_block (a := ⟨b, o + j, none⟩) (ho b hb)]; exact (h j hj).2⟩
theorem range_new (w : World) (x : Ar) (t : TypeId) : (w.alloc (.cells (enc x).toArray t)).rangeAt w.heap.size 0 (enc x) := fun j v hv => by
  rw [cell_of_row (w.alloc (.cells (enc x).toArray t)) w.heap.size (0 + j) (enc x).toArray t (0, 0) (heap_alloc_new w _)]
  simpa using hv
theorem there_new (w : World) (x : Ar) (t : TypeId) : (w.alloc (.cells (enc x).toArray t)).there w.heap.size 0 8 := fun j hj => by
  refine ⟨?_, frozen_of_row _ _ _ _ _ (heap_alloc_new w _)⟩
  rw [range_new w x t j _ (List.getElem?_eq_getElem (by rw [enc_len]; exact hj))]; rfl
section
variable {w w' : World} {g : Nat} {x : Ar}
theorem VarA.below (h : VarA w g x) {B : Nat} (hk : Below B w w') (hb : g < B) : VarA w' g x := ⟨range_keep h.1 hb hk, there_keep h.2 hb hk⟩
theorem VarA.other (h : VarA w g x) {b : Nat} (ho : Oth b w w') (hb : g ≠ b) : VarA w' g x := ⟨range_other h.1 hb ho, there_other h.2 hb ho⟩
theorem VarA.lt (h : VarA w g x) : g < w.heap.size := World.block_lt_of_cell? w _ (h.1 0 _ rfl)
theorem VarA.c0 (h : VarA w g x) : w.cell? ⟨g, 0, none⟩ = some (.int .u64 x.id) := h.1 0 _ rfl
theorem VarA.c1 (h : VarA w g x) : w.cell? ⟨g, 1, none⟩ = some (.int .i64 x.fr) := h.1 1 _ rfl
theorem VarA.c2 (h : VarA w g x) : w.cell? ⟨g, 2, none⟩ = some (.int .i64 x.ch) := h.1 2 _ rfl
theorem VarA.c3 (h : VarA w g x) : w.cell? ⟨g, 3, none⟩ = some (.int .i64 x.sa) := h.1 3 _ rfl
theorem VarA.c4 (h : VarA w g x) : w.cell? ⟨g, 4, none⟩ = some (.int .i64 x.en) := h.1 4 _ rfl
theorem VarA.c5 (h : VarA w g x) : w.cell? ⟨g, 5, none⟩ = some (.slice x.A x.n x.c) := h.1 5 _ rfl
theorem VarA.c6 (h : VarA w g x) : w.cell? ⟨g, 6, none⟩ = some (.bool x.bad) := h.1 6 _ rfl
theorem VarA.c7 (h : VarA w g x) : w.cell? ⟨g, 7, none⟩ = some (.int .i64 x.lf) := h.1 7 _ rfl
theorem vara_new (w : World) (x : Ar) (t : TypeId) : VarA (w.alloc (.cells (enc x).toArray t)) w.heap.size x := ⟨range_new w x t, there_new w x t⟩
/-- Cells of a block set: no other one is touched. -/
theorem setCells_oth (g : Nat) : ∀ (vs : List Value) (o : Nat) (w : World), Below g w (w.setCells g o vs) ∧ Oth g w (w.setCells g o vs) := by
  intro vs
  induction vs with
  | nil => exact fun o w => ⟨Below.refl _ _, fun _ _ => rfl⟩
  | cons v r ih => exact fun o w => ⟨((Below.refl _ _).setCell (p := ⟨g, o, none⟩) (Nat.le_refl _) v).trans (ih (o + 1) _).1, fun k hk => ((ih (o + 1) _).2 k hk).trans (Below.heap_setCell w ⟨g, o, none⟩ v k hk)⟩
theorem setCells_size (g : Nat) : ∀ (vs : List Value) (o : Nat) (w : World), (w.setCells g o vs).heap.size = w.heap.size := by
  intro vs
  induction vs with
  | nil => exact fun o w => rfl
  | cons v r ih => exact fun o w => (ih (o + 1) _).trans (by simp)
theorem there_set {n : Nat} (vs : List Value) (o : Nat) (h : w.there g 0 n) : (w.setCells g o vs).there g 0 n := World.there_setCells h g o vs
theorem vara_stored (ht : w.there g 0 8) (x : Ar) : VarA (w.setCells g 0 (enc x)) g x := ⟨World.rangeAt_setCells_same w g 0 (enc x) ht, there_set _ _ ht⟩

/-! ### The bytes of some -/
/-- The bytes of those that came in; of those that the call made. -/
def Ba (w : World) (B : Nat) (xs : List Ar) : Prop := ∀ x ∈ xs, Row w B x.A x.n (bv x.b)
def El (w : World) (base : Nat) (xs : List Ar) : Prop := ∀ x ∈ xs, Own w base 5 x.A x.n x.c (bv x.b)
def RA (w : World) (B : Nat) (A : Option Addr) (n : Nat) (xs : List Ar) : Prop := Rw w B A n xs ∧ Ba w B xs
theorem Own.other {base n c : Nat} {e : TypeId} {A : Option Addr} {l : List Value} (h : Own w base e A n c l) (ho : ∀ g, base ≤ g → w'.heap[g]? = w.heap[g]?) : Own w' base e A n c l := by
  refine ⟨h.1, ?_⟩
  rcases h.2 with h0 | ⟨g, cap, cur, hv, hg, hh, r⟩
  · exact .inl h0
  · exact .inr ⟨g, cap, cur, hv, hg, (ho g hg).trans hh, r⟩
theorem Ow.other {base n c : Nat} {A : Option Addr} {l : List Ar} (h : Ow w base A n c l) (ho : ∀ g, base ≤ g → w'.heap[g]? = w.heap[g]?) : Ow w' base A n c l := by
  refine ⟨h.1, ?_⟩
  rcases h.2 with h0 | ⟨g, cap, cur, hv, hg, hh, r⟩
  · exact .inl h0
  · exact .inr ⟨g, cap, cur, hv, hg, (ho g hg).trans hh, r⟩
theorem El.nil (w : World) (base : Nat) : El w base [] := fun _ h => by cases h
theorem El.app {base : Nat} {l m : List Ar} (h : El w base l) (k : El w base m) : El w base (l ++ m) := fun y hy => (List.mem_append.1 hy).elim (h y) (k y)
theorem El.one {base : Nat} {x : Ar} (h : Own w base 5 x.A x.n x.c (bv x.b)) : El w base [x] := fun y hy => by (obtain rfl : y = x := (by simpa using hy)); exact h
theorem El.below {base : Nat} {l : List Ar} (h : El w base l) (hb : Below w.heap.size w w') : El w' base l := fun y hy => (h y hy).below hb
theorem El.other {base : Nat} {l : List Ar} (h : El w base l) (ho : ∀ g, base ≤ g → w'.heap[g]? = w.heap[g]?) : El w' base l := fun y hy => (h y hy).other ho
theorem El.oth {base : Nat} {l : List Ar} (h : El w base l) (ho : Oth g w w') (hg : g < base) : El w' base l := h.other fun k hk => ho k (by omega)
theorem El.base_le {base base' : Nat} {l : List Ar} (h : El w base l) (hb : base' ≤ base) : El w base' l := fun y hy => (h y hy).base_le hb
theorem Ba.below {B : Nat} {l : List Ar} (h : Ba w B l) (hb : Below B w w') : Ba w' B l := fun y hy => (h y hy).below hb
theorem Ba.more {B B' : Nat} {l : List Ar} (h : Ba w B l) (hb : B ≤ B') : Ba w B' l := fun y hy => (h y hy).more hb
theorem El.ba {base : Nat} {l : List Ar} (h : El w base l) : Ba w w.heap.size l := fun y hy => (h y hy).row
theorem RA.below {B n : Nat} {A : Option Addr} {l : List Ar} (h : RA w B A n l) (hb : Below B w w') : RA w' B A n l := ⟨h.1.below hb, h.2.below hb⟩
theorem RA.more {B B' n : Nat} {A : Option Addr} {l : List Ar} (h : RA w B A n l) (hb : B ≤ B') : RA w B' A n l := ⟨h.1.more hb, h.2.more hb⟩
theorem RA.nil (w : World) (B : Nat) (A : Option Addr) : RA w B A 0 [] := ⟨Rw.nil w B A, fun _ h => by cases h⟩
theorem Ow.ra {base n c : Nat} {A : Option Addr} {l : List Ar} (h : Ow w base A n c l) (he : El w base l) : RA w w.heap.size A n l := ⟨h.row, he.ba⟩
/-- Bytes lie in other blocks than things do. -/
theorem ob_ne {base b2 : Nat} {A A2 : Option Addr} {n c n2 c2 : Nat} {l : List Ar} {vs : List Value} (h : Own w b2 5 A2 n2 c2 vs) (ho : Ow w base A n c l) : Value.ownBlock (.slice A2 n2 c2) = none ∨ Value.ownBlock (.slice A2 n2 c2) ≠ Value.ownBlock (.slice A n c) := by
  rcases h.2 with ⟨h1, _⟩ | ⟨g, cap, cur, h1, _, hh, _⟩
  · left; rw [h1]; rfl
  · right
    rw [h1]
    rcases ho.2 with ⟨k1, _⟩ | ⟨g', cap', cur', k1, _, hh', _⟩
    · rw [k1]; simp [Value.ownBlock]
    · rw [k1]
      simp [Value.ownBlock]
      rintro rfl
      rw [hh] at hh'
      simp at hh'
theorem Own.grown5 {base b2 : Nat} {A A2 : Option Addr} {n c n2 c2 : Nat} {l : List Ar} {vs : List Value} (h : Own w b2 5 A2 n2 c2 vs) (ho : Ow w base A n c l) (hg : w.grownBy w' (Value.ownBlock (.slice A n c))) : Own w' b2 5 A2 n2 c2 vs := World.ownsRow.kept h hg (ob_ne h ho)
theorem Own.oth5 {base b2 a : Nat} {A2 : Option Addr} {n c n2 c2 : Nat} {l : List Ar} {vs : List Value} (h : Own w b2 5 A2 n2 c2 vs) (ho : Ow w base (some ⟨a, 0, none⟩) n c l) (hg : Oth a w w') : Own w' b2 5 A2 n2 c2 vs := by
  have hne := ob_ne h ho
  refine ⟨h.1, ?_⟩
  rcases h.2 with h0 | ⟨g, cap, cur, hv, hgb, hh, r⟩
  · exact .inl h0
  · refine .inr ⟨g, cap, cur, hv, hgb, (hg g ?_).trans hh, r⟩
    rintro rfl
    rw [hv] at hne
    simp [Value.ownBlock] at hne
theorem El.oth5 {base b2 a n c : Nat} {l m : List Ar} (h : El w b2 m) (ho : Ow w base (some ⟨a, 0, none⟩) n c l) (hg : Oth a w w') : El w' b2 m := fun y hy => (h y hy).oth5 ho hg

/-! ### At the operation, for the walk -/
variable {ops : Array Oper} {rest : List Oper} {o : Oper} {a : Act} {Q : Exit → Act → World → Prop}
theorem wpList_boxa (hg : o.guard = none) (e : Operand) (ho : o.op = .box 25 e) (hx : a.eval e = itv x)
    (h : ∀ w', VarA w' w.heap.size x → Below w.heap.size w w' → Hid (w'.heap.size = w.heap.size + 1) → wpList Try.prog ops Q rest (a.put o.dst (.pointer (some ⟨w.heap.size, 0, none⟩))) w') : wpList Try.prog ops Q (o :: rest) a w := by
  refine wpList_plain hg fun K hK => ?_
  unfold Oper.wp execOp
  simp only [ho, hx, Sem.run_bind, Instr.box, newVar, newRow, run_newObj_alloc, Sem.run_pure, Result.andThen_ok]
  exact hK _ _ (h _ (vara_new w x 25) ((Below.refl _ _).alloc (Nat.le_refl _) _) (hid (by simp)))
theorem wpList_ala (hg : o.guard = none) (ho : o.op = .alloc 25)
    (h : ∀ w', VarA w' w.heap.size az → Below w.heap.size w w' → Hid (w'.heap.size = w.heap.size + 1) → wpList Try.prog ops Q rest (a.put o.dst (.pointer (some ⟨w.heap.size, 0, none⟩))) w') : wpList Try.prog ops Q (o :: rest) a w := by
  refine wpList_plain hg fun K hK => ?_
  unfold Oper.wp execOp
  simp only [ho, Sem.run_bind, Instr.alloc, zero25, newVar, newRow, run_newObj_alloc, Sem.run_pure, Result.andThen_ok]
  exact hK _ _ (h _ (vara_new w az 25) ((Below.refl _ _).alloc (Nat.le_refl _) _) (hid (by simp)))
theorem wpList_lda (hw : Region.wanted o (yielded ops a.tmps) = true) (e : Operand) (ho : o.op = .load 25 e) (hx : a.eval e = .pointer (some ⟨g, 0, none⟩)) (hv : VarA w g x)
    (h : wpList Try.prog ops Q rest (a.put o.dst (itv x)) w) : wpList Try.prog ops Q (o :: rest) a w :=
  wpList_step fun _ hK => by rw [if_pos hw]; exact wp_load_mid 25 e ho g 0 hx (enc x) _ hv.1 Try.underlying25 rfl (by rw [size25]; rfl) (hK _ _ h)
/-- One of a slice. -/
theorem wpList_lde (hw : Region.wanted o (yielded ops a.tmps) = true) (e : Operand) (ho : o.op = .load 25 e) {b off : Nat} (hx : a.eval e = .pointer (some ⟨b, off, none⟩)) (hv : w.rangeAt b off (enc x))
    (h : wpList Try.prog ops Q rest (a.put o.dst (itv x)) w) : wpList Try.prog ops Q (o :: rest) a w :=
  wpList_step fun _ hK => by rw [if_pos hw]; exact wp_load_mid 25 e ho b off hx (enc x) _ hv Try.underlying25 rfl (by rw [size25]; rfl) (hK _ _ h)
theorem wpList_sva (hg : o.guard = none) (e y : Operand) (ho : o.op = .store 25 e y) {p : Ar} (hx : a.eval e = .pointer (some ⟨g, 0, none⟩)) (hy : a.eval y = itv x) (hv : VarA w g p)
    (h : ∀ w', VarA w' g x → Below g w w' → Oth g w w' → Hid (w'.heap.size = w.heap.size) → wpList Try.prog ops Q rest (a.put o.dst undef) w') : wpList Try.prog ops Q (o :: rest) a w :=
  wpList_store_mid hg 25 e y ho g 0 (enc x).toArray hx hy hv.2 (by rw [size25]; rfl) (all_oneCell_toArray (enc_one x)) (h _ (vara_stored hv.2 x) (setCells_oth g _ _ _).1 (setCells_oth g _ _ _).2 (hid (setCells_size _ _ _ _)))
/-- One cell stored. -/
theorem wpList_st1 (hg : o.guard = none) (ty : TypeId) (e y : Operand) (ho : o.op = .store ty e y) (j : Nat) (v : Value) (hx : a.eval e = .pointer (some ⟨g, j, none⟩)) (hy : a.eval y = v) (hc : v.cells = #[v]) (h1 : v.oneCell' = true) (hs : (Try.prog.info? ty).map (·.size) = some 1)
    (ht : w.there g j 1) (h : wpList Try.prog ops Q rest (a.put o.dst undef) (w.setCells g j [v])) : wpList Try.prog ops Q (o :: rest) a w := by
  refine wpList_plain hg fun K hK => ?_
  have := run_storeCells_cells (P := Try.prog) g j [v] 0 w (fun i hi => by simpa using (ht i (by simpa using hi)).1) (fun i hi => by simpa using (ht i (by simpa using hi)).2) (fun u hu => by simp at hu; rw [hu]; exact h1)
  unfold Oper.wp execOp
  cases hq : Try.prog.info? ty with
  | none => simp [hq] at hs
  | some i =>
    have hz : i.size = 1 := by simpa [hq] using hs
    simp only [Nat.add_zero] at this
    have hsv : (storeVar ty ⟨g, j, none⟩ v).run Try.prog w = .ok () (w.setCells g j [v]) := by
      simp [storeVar, sizeOf, typeInfo, hq, hc, hz, this]
    simp only [ho, hx, hy, Instr.storeAt, Instr.sureAddr, Sem.run_bind, Sem.run_pure, Result.andThen_ok, hsv]
    exact hK _ _ h
theorem range_set {cs : List Value} {j : Nat} {v : Value} (h : w.rangeAt g 0 cs) (ht : w.there g 0 cs.length) (hj : j < cs.length) : (w.setCells g j [v]).rangeAt g 0 (cs.set j v) := by
  intro i u hu
  rw [Nat.zero_add]
  have hil : i < cs.length := by have := (List.getElem?_eq_some_iff.1 hu).1; simpa using this
  by_cases e : i = j
  · subst e
    have h2 := World.rangeAt_setCells_same w g i [v] (fun k hk => by have := ht (i + k) (by simp at hk; omega); rwa [Nat.zero_add] at this) 0 v rfl
    rw [List.getElem?_set_self hil] at hu
    injection hu with hu; subst hu; simpa using h2
  · rw [List.getElem?_set_ne (by omega)] at hu
    have h2 : w.rangeAt g i [u] := fun k x hx => by
      rcases k with _ | k
      · simp at hx; subst hx; have := h i _ hu; rwa [Nat.zero_add] at this
      · simp at hx
    have h3 := World.rangeAt_setCells_apart h2 g j [v] (by simp; omega) 0 u rfl
    simpa using h3
/-- One field of a variable stored: y is x with it. -/
theorem wpList_sf (y : Ar) (j : Nat) (v : Value) (hg : o.guard = none) (ty : TypeId) (e f : Operand) (ho : o.op = .store ty e f) (hx : a.eval e = .pointer (some ⟨g, j, none⟩)) (hy : a.eval f = v) (hv : VarA w g x) (he : enc y = (enc x).set j v) (hj : j < 8) (hc : v.cells = #[v]) (h1 : v.oneCell' = true) (hs : (Try.prog.info? ty).map (·.size) = some 1)
    (h : ∀ w', VarA w' g y → Below g w w' → Oth g w w' → Hid (w'.heap.size = w.heap.size) → wpList Try.prog ops Q rest (a.put o.dst undef) w') : wpList Try.prog ops Q (o :: rest) a w :=
  wpList_st1 hg ty e f ho j v hx hy hc h1 hs (fun i hi => by have := hv.2 (j + i) (by omega); rwa [Nat.zero_add] at this)
    (h _ ⟨by rw [he]; exact range_set hv.1 hv.2 (by rw [enc_len]; exact hj), there_set _ _ hv.2⟩ (setCells_oth g _ _ _).1 (setCells_oth g _ _ _).2 (hid (setCells_size _ _ _ _)))
theorem size23 : (Try.prog.info? 23).map (·.size) = some 1 := by kernel_rfl
theorem size22 : (Try.prog.info? 22).map (·.size) = some 1 := by kernel_rfl
theorem size4 : (Try.prog.info? 4).map (·.size) = some 1 := by kernel_rfl
theorem size2 : (Try.prog.info? 2).map (·.size) = some 1 := by kernel_rfl
theorem size3 : (Try.prog.info? 3).map (·.size) = some 1 := by kernel_rfl
/-- One of an own slice stored whole; one field of it. -/
theorem wpList_se (hgd : o.guard = none) (e y : Operand) (ho : o.op = .store 25 e y) {base g n c k : Nat} {l : List Ar} {v : Ar} (hx : a.eval e = .pointer (some ⟨g, k * 8, none⟩))
    (hy : a.eval y = itv v) (hown : Ow w base (some ⟨g, 0, none⟩) n c l) (hk : k < n) (h : ∀ w', Ow w' base (some ⟨g, 0, none⟩) n c (l.set k v) → Below base w w' → Oth g w w' → Hid (w'.heap.size = w.heap.size) → wpList Try.prog ops Q rest (a.put o.dst undef) w') : wpList Try.prog ops Q (o :: rest) a w := by
  obtain ⟨h1, h2⟩ := hown.store hk v
  exact wpList_store_mid hgd 25 e y ho g (k * 8) (enc v).toArray hx hy (hown.there hk) (by rw [size25]; rfl) (all_oneCell_toArray (enc_one v)) (h _ h1 h2 (setCells_oth g _ _ _).2 (hid (setCells_size _ _ _ _)))
theorem flat_setf (l : List Ar) (k j : Nat) (v : Value) (y : Ar) (hk : k < l.length) (hj : j < 8) (he : enc y = (enc (nth l k)).set j v) : (flat l).set (k * 8 + j) v = flat (l.set k y) := by
  refine List.ext_getElem? fun i => ?_
  by_cases hi : i < l.length * 8
  · have h1 := flat_at (l.set k y) (i / 8) (i % 8) (by simp; omega) (by omega)
    rw [show i / 8 * 8 + i % 8 = i by omega] at h1
    rw [h1]
    have h2 := flat_at l (i / 8) (i % 8) (by omega) (by omega)
    rw [show i / 8 * 8 + i % 8 = i by omega] at h2
    by_cases e : i / 8 = k
    · have h3 : nth (l.set k y) (i / 8) = y := nth_of (by rw [e, List.getElem?_set_self hk])
      rw [h3, he]
      by_cases e2 : i % 8 = j
      · have : k * 8 + j = i := by omega
        rw [this, List.getElem?_set_self (by rw [flat_len]; exact hi), e2, List.getElem?_set_self (by rw [enc_len]; exact hj)]
      · rw [List.getElem?_set_ne (by omega), List.getElem?_set_ne (by omega), h2, e]
    · have h3 : nth (l.set k y) (i / 8) = nth l (i / 8) := nth_of (by rw [List.getElem?_set_ne (by omega)]; exact nth_get (by omega))
      rw [h3, List.getElem?_set_ne (by omega), h2]
  · rw [List.getElem?_eq_none (by simp [flat_len]; omega), List.getElem?_eq_none (by rw [flat_len]; simp; omega)]
theorem Ow.setf {base g n c k j : Nat} {l : List Ar} {v : Value} {y : Ar} (hown : Ow w base (some ⟨g, 0, none⟩) n c l) (hk : k < n) (hj : j < 8) (he : enc y = (enc (nth l k)).set j v) : Ow (w.setCells g (k * 8 + j) [v]) base (some ⟨g, 0, none⟩) n c (l.set k y) ∧ Below base w (w.setCells g (k * 8 + j) [v]) := by
  have := ownsRow_setCells [v] (k * 8 + j) w _ hown hown.ge.1
  have e : setL (flat l) (k * 8 + j) [v] = flat (l.set k y) := flat_setf l k j v y (by rw [hown.len]; exact hk) hj he
  rw [e] at this
  exact this
theorem wpList_sef (y : Ar) (j : Nat) (v : Value) (hg : o.guard = none) (ty : TypeId) (e f : Operand) (ho : o.op = .store ty e f) {base g n c k : Nat} {l : List Ar} (hx : a.eval e = .pointer (some ⟨g, k * 8 + j, none⟩)) (hy : a.eval f = v) (hown : Ow w base (some ⟨g, 0, none⟩) n c l) (hk : k < n) (he : enc y = (enc (nth l k)).set j v) (hj : j < 8) (hc : v.cells = #[v]) (h1 : v.oneCell' = true) (hs : (Try.prog.info? ty).map (·.size) = some 1)
    (h : ∀ w', Ow w' base (some ⟨g, 0, none⟩) n c (l.set k y) → Below base w w' → Oth g w w' → Hid (w'.heap.size = w.heap.size) → wpList Try.prog ops Q rest (a.put o.dst undef) w') : wpList Try.prog ops Q (o :: rest) a w :=
  wpList_st1 hg ty e f ho (k * 8 + j) v hx hy hc h1 hs (fun i hi => by have := hown.there hk (j + i) (by omega); rwa [← Nat.add_assoc] at this)
    (h _ (hown.setf hk hj he).1 (hown.setf hk hj he).2 (setCells_oth g _ _ _).2 (hid (setCells_size _ _ _ _)))
/-- A literal of one. -/
theorem wpList_bs (hw : Region.wanted o (yielded ops a.tmps) = true) (e : Operand) (ho : o.op = .buildSlice 34 1 #[(0, e)]) (hx : a.eval e = itv x)
    (h : wpList Try.prog ops Q rest (a.put o.dst (.slice (some ⟨w.heap.size, 0, none⟩) 1 1)) (w.alloc (.cells (enc x).toArray 25))) : wpList Try.prog ops Q (o :: rest) a w :=
  wpList_step fun _ hK => by
    rw [if_pos hw]
    unfold itv enc at hx
    unfold enc at h
    unfold Oper.wp execOp
    simp only [ho, List.map_toArray, List.map_cons, List.map_nil, hx]
    simp [go_sem]
    exact hK _ _ h
theorem row_one (w : World) (x : Ar) : Rw (w.alloc (.cells (enc x).toArray 25)) (w.heap.size + 1) (some ⟨w.heap.size, 0, none⟩) 1 [x] := by
  refine ⟨rfl, fun _ => ⟨w.heap.size, 0, rfl, by omega, fun j u hu => ?_⟩⟩
  have e : flat [x] = enc x := by simp [flat]
  rw [e] at hu
  exact range_new w x 25 j u hu
/-- append of one onto a slice of the call's own. -/
theorem wpList_push (hgd : o.guard = none) (s e : Operand) (ho : o.op = .call { callee := .builtin .append, args := #[s, e], argTypes := #[34, 34] }) {base n c : Nat} {A : Option Addr} {l : List Ar} (hs : a.eval s = .slice A n c) (hown : Ow w base A n c l)
    (hx : a.eval e = .slice (some ⟨w.heap.size, 0, none⟩) 1 1) (hn : n ≤ 100000) (hbase : base ≤ w.heap.size)
    (h : ∀ A' c' w', Ow w' base A' (n + 1) c' (l ++ [x]) → Below base w w' → (∀ b2 A2 n2 c2 vs, Own w b2 5 A2 n2 c2 vs → Own w' b2 5 A2 n2 c2 vs) → wpList Try.prog ops Q rest (a.put o.dst (.slice A' (n + 1) c')) w') :
    wpList Try.prog ops Q (o :: rest) a (w.alloc (.cells (enc x).toArray 25)) := by
  refine wpList_plain hgd fun _ hK => ?_
  obtain ⟨i, hi0, hi1, hi2, hi3⟩ := info_parts info25
  obtain ⟨v', w', hrun, h2, h3, _, _⟩ := run_append_own_at (P := Try.prog) (w.alloc (.cells (enc x).toArray 25)) base 34 o.type 25 i (itv az) 8 80 Try.underlying34 hi0 hi1 hi2 hi3 rfl (by omega) (.slice A n c) n (flat l) (hown.alloc _) ⟨w.heap.size, 0, none⟩ 1 1 (enc x) rfl
    (fun j u hu => by
      rw [plain_add]
      exact range_new w x 25 j u hu)
    (enc_one x) (by unfold maxLen; omega) (by omega) (by simp; omega)
  have e1 : flat l ++ enc x = flat (l ++ [x]) := by rw [flat_app]; simp [flat]
  rw [e1] at h2
  have hbel : Below base w w' := ((Below.refl _ w).alloc hbase _).trans ((Below.refl _ _).grown h3 (by simp; omega) (fun k hk => (World.ownsRow.lt (hown.alloc (.cells (enc x).toArray 25)) k hk).1))
  have hfin : ∃ A' c', v' = .slice A' (n + 1) c' := by
    rcases h2.2 with ⟨rfl, h0⟩ | ⟨g, cap, cur, rfl, r⟩
    · omega
    · exact ⟨_, _, rfl⟩
  obtain ⟨A', c', rfl⟩ := hfin
  unfold Oper.wp execOp
  simp only [ho, resolve, invoke, builtin, Sem.run_bind, Sem.run_pure, Result.andThen_ok, List.map_toArray, List.map_cons, List.map_nil, hs, hx, hrun]
  exact hK _ _ (h A' c' w' h2 hbel fun b2 A2 n2 c2 vs k => Own.grown5 (k.alloc _) (hown.alloc _) h3)
/-- make([]api.Air, 0, n). -/
theorem wpList_mk0 (hg : o.guard = none) (l c : Operand) (hop : o.op = Op.makeSlice 34 l c) (C : Int) (n : Nat) (hl : a.eval l = .int .i64 0) (hc : a.eval c = .int .i64 C) (hC : C = (n : Int)) (hn : n ≤ 100000) (base : Nat) (hb : base ≤ w.heap.size)
    (hK : ∀ w', Ow w' base (some ⟨w.heap.size, 0, none⟩) 0 n [] → Below w.heap.size w w' → wpList Try.prog ops Q rest (a.put o.dst (.slice (some ⟨w.heap.size, 0, none⟩) 0 n)) w') : wpList Try.prog ops Q (o :: rest) a w := by
  obtain ⟨i, hi0, hi1, hi2, hi3⟩ := info_parts info25
  exact wpList_make_own (P := Try.prog) w hg l c 34 hop base 25 i (itv az) 8 Try.underlying34 hi0 hi1 hi2 .i64 .i64 C n hl hc hC (by rw [hi3]; omega) (by unfold maxLen; omega) hb fun w' h1 h2 => hK w' h1 ((Below.refl _ _).grown h2 (Nat.le_refl _) (fun k hk => by cases hk))

/-! ### Results that lie in cells -/
theorem ldav (h : VarA w g x) : (loadVar 25 ⟨g, 0, none⟩).run Try.prog w = .ok (itv x) w := run_loadVar_mid w g 0 25 (enc x) _ h.1 Try.underlying25 rfl (by rw [size25]; rfl)
theorem results_a {fn : Func} {p : Tmp} (h : fn.results = #[.cell p 25]) (tmps : Array Value) (hp : tmps.getD p undef = .pointer (some ⟨g, 0, none⟩)) (hx : VarA w g x) :
    (results fn tmps).run Try.prog w = .ok (itv x) w := by
  have := ldav hx
  have hp' : tmps[p]?.getD undef = .pointer (some ⟨g, 0, none⟩) := by simpa using hp
  simp only [results, h]
  simp [hp', this, asAddr]
theorem results_a1 {fn : Func} {p r : Tmp} (h : fn.results = #[.cell p 25, .tmp r]) (tmps : Array Value) (hp : tmps.getD p undef = .pointer (some ⟨g, 0, none⟩)) (hx : VarA w g x) :
    (results fn tmps).run Try.prog w = .ok (.tuple #[itv x, tmps.getD r undef]) w := by
  have := ldav hx
  have hp' : tmps[p]?.getD undef = .pointer (some ⟨g, 0, none⟩) := by simpa using hp
  simp only [results, h]
  simp [Result.andThen, hp', this, asAddr]
theorem results_1a1 {fn : Func} {p q r : Tmp} (h : fn.results = #[.tmp q, .cell p 25, .tmp r]) (tmps : Array Value) (hp : tmps.getD p undef = .pointer (some ⟨g, 0, none⟩)) (hx : VarA w g x) :
    (results fn tmps).run Try.prog w = .ok (.tuple #[tmps.getD q undef, itv x, tmps.getD r undef]) w := by
  have := ldav hx
  have hp' : tmps[p]?.getD undef = .pointer (some ⟨g, 0, none⟩) := by simpa using hp
  simp only [results, h]
  simp [Result.andThen, hp', this, asAddr]
end
end Go.Proofs.Ytjmkhhmibkiijaa
