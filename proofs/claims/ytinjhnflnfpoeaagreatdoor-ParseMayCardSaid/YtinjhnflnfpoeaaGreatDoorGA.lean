/-
  Words for memory, for structs of any shape (Sh): cells of one, of some; a slice of such that came in and reads as a list (Rw), one that the call made itself (Ow), a variable that holds one (Var); what box, alloc, load, store, make, a literal of one and append do to them. No condition but what each head says.
-/
import Derived.Test.YtinjhnflnfpoeaaGreatDoorA
import Derived.WalkKit
import Derived.WalkSpells
import Derived.WalkLawsBesides
import Derived.LoopTactic
import Derived.Below
import Derived.Maps.AppendAt
import Derived.OwnWalk
import Derived.Laws.OwnMore
import Derived.Laws.BytesArg
import Derived.Deep.MidRow
import Derived.Lib.QuietBelow
import Derived.Lib.OthersKept
namespace Go.Proofs.YtinjhnflnfpoeaaGreatDoor
open Go Go.RowKit

theorem plain_add (b o j : Nat) : (⟨b, o, none⟩ : Addr).add j = ⟨b, o + j, none⟩ := by unfold Addr.add; split <;> simp_all

/-- Cells laid one by one over cells of the same number. -/
theorem foldl_laid : ∀ (l : List Value) (k : Nat) (C : Array Value), k + l.length ≤ C.size →
    ((l.zipIdx k).foldl (fun cs x => cs.setIfInBounds x.snd x.fst) C).toList = C.toList.take k ++ (l ++ C.toList.drop (k + l.length))
  | [], k, C, _ => by simp
  | v :: l, k, C, h => by
    rw [List.zipIdx_cons, List.foldl_cons, foldl_laid l (k + 1) _ (by simp at h ⊢; omega)]
    have hk : k < C.toList.length := by simp at h ⊢; omega
    simp only [Array.toList_setIfInBounds]
    have e : (C.toList.take k).length = k := by rw [List.length_take]; omega
    rw [List.take_set, List.drop_set_of_lt (by omega), List.length_cons, show k + 1 + l.length = k + (l.length + 1) by omega, List.take_succ_eq_append_getElem hk, List.set_append_right _ _ (by omega), e, Nat.sub_self, List.append_assoc]
    rfl
theorem foldl_whole (l : List Value) (C : Array Value) (h : C.size = l.length) : (l.zipIdx 0).foldl (fun cs x => cs.setIfInBounds x.snd x.fst) C = l.toArray := by
  apply Array.ext'
  rw [foldl_laid l 0 C (by omega)]
  simp [h]

/-- A shape: of a struct type T that has N cells, and of []T. -/
structure Sh (P : Program) (α : Type) where
  enc : α → List Value
  N : Nat
  T : TypeId
  S : TypeId
  by_ : Nat
  z : α
  d : TypeDesc
  len : ∀ x, (enc x).length = N
  pos : 0 < N
  one : ∀ x, ∀ u ∈ enc x, u.oneCell' = true
  undS : P.underlying S = some (.slice T)
  undT : P.underlying T = some d
  isRow : d.isRow = true
  info : (P.info? T).map (fun i => (i.zero, i.size, i.bytes)) = some (some (.agg (enc z).toArray), N, by_)
  size : (P.info? T).map (·.size) = some N
  zero : ∀ w, (zeroValue T).run P w = .ok (.agg (enc z).toArray) w
  small : by_ ≤ 10000
  smallN : N ≤ 1000

/-- Only block g is another one. -/
def Oth (g : Nat) (w w' : World) : Prop := ∀ k, k ≠ g → w'.heap[k]? = w.heap[k]?
theorem range_keep {w w' : World} {b o : Nat} {cs : List Value} (h : w.rangeAt b o cs) {B : Nat} (hb : b < B) (hk : Below B w w') : w'.rangeAt b o cs := fun j v hv => (hk.cell (p := ⟨b, o + j, none⟩) hb).trans (h j v hv)
theorem there_keep {w w' : World} {b o n : Nat} (h : w.there b o n) {B : Nat} (hb : b < B) (hk : Below B w w') : w'.there b o n := fun j hj =>
  ⟨by rw [hk.cell (p := ⟨b, o + j, none⟩) hb]; exact (h j hj).1, by rw [hk.frozen (p := ⟨b, o + j, none⟩) hb]; exact (h j hj).2⟩
theorem range_other {w w' : World} {b o g : Nat} {cs : List Value} (h : w.rangeAt b o cs) (hb : b ≠ g) (ho : Oth g w w') : w'.rangeAt b o cs := fun j v hv => (World.cell?_of_block (a := ⟨b, o + j, none⟩) (ho b hb)).trans (h j v hv)
theorem there_other {w w' : World} {b o n g : Nat} (h : w.there b o n) (hb : b ≠ g) (ho : Oth g w w') : w'.there b o n := fun j hj =>
  ⟨by rw [World.cell?_of_block (a := ⟨b, o + j, none⟩) (ho b hb)]; exact (h j hj).1, by rw [World.frozen?_of_block (a := ⟨b, o + j, none⟩) (ho b hb)]; exact (h j hj).2⟩
theorem range_new (w : World) (cs : List Value) (t : TypeId) : (w.alloc (.cells cs.toArray t)).rangeAt w.heap.size 0 cs := fun j v hv => by
  rw [cell_of_row (w.alloc (.cells cs.toArray t)) w.heap.size (0 + j) cs.toArray t (0, 0) (heap_alloc_new w _)]
  simpa using hv
theorem there_new (w : World) (cs : List Value) (t : TypeId) : (w.alloc (.cells cs.toArray t)).there w.heap.size 0 cs.length := fun j hj => by
  refine ⟨?_, frozen_of_row _ _ _ _ _ (heap_alloc_new w _)⟩
  rw [range_new w cs t j _ (List.getElem?_eq_getElem hj)]; rfl
/-- Cells of a block set: no other one is touched. -/
theorem setCells_oth (g : Nat) : ∀ (vs : List Value) (o : Nat) (w : World), Below g w (w.setCells g o vs) ∧ Oth g w (w.setCells g o vs) := by
  intro vs
  induction vs with
  | nil => exact fun o w => ⟨Below.refl _ _, fun _ _ => rfl⟩
  | cons v r ih => exact fun o w => ⟨((Below.refl _ _).setCell (p := ⟨g, o, none⟩) (Nat.le_refl _) v).trans (ih (o + 1) _).1, fun k hk => ((ih (o + 1) _).2 k hk).trans (Below.heap_setCell w ⟨g, o, none⟩ v k hk)⟩
theorem setCells_size (g : Nat) : ∀ (vs : List Value) (o : Nat) (w : World), (w.setCells g o vs).heap.size = w.heap.size := by
  intro vs
  induction vs with
  | nil => exact fun o w => rfl
  | cons v r ih => exact fun o w => (ih (o + 1) _).trans (by simp)

namespace Sh
variable {P : Program} {α : Type} (σ : Sh P α)
def val (x : α) : Value := .agg (σ.enc x).toArray
def flat (l : List α) : List Value := l.flatMap σ.enc
def nth (l : List α) (k : Nat) : α := l.getD k σ.z
theorem nth_of {l : List α} {k : Nat} {x : α} (h : l[k]? = some x) : σ.nth l k = x := by simp [nth, List.getD, h]
theorem nth_get {l : List α} {k : Nat} (h : k < l.length) : l[k]? = some (σ.nth l k) := by simp [nth, List.getD, h]
theorem flat_cons (x : α) (l : List α) : σ.flat (x :: l) = σ.enc x ++ σ.flat l := rfl
theorem flat_len (l : List α) : (σ.flat l).length = l.length * σ.N := by
  induction l with
  | nil => simp [flat]
  | cons x l ih => rw [flat_cons, List.length_append, ih, σ.len, List.length_cons, Nat.add_mul, Nat.one_mul, Nat.add_comm]
theorem flat_app (a b : List α) : σ.flat (a ++ b) = σ.flat a ++ σ.flat b := by simp [flat]
theorem flat_one (l : List α) : ∀ u ∈ σ.flat l, u.oneCell' = true := by
  intro u hu
  obtain ⟨x, _, hx⟩ := List.mem_flatMap.1 hu
  exact σ.one x u hx
theorem flat_at : ∀ (l : List α) (i j : Nat), i < l.length → j < σ.N → (σ.flat l)[i * σ.N + j]? = (σ.enc (σ.nth l i))[j]?
  | x :: l, 0, j, _, hj => by rw [flat_cons, Nat.zero_mul, Nat.zero_add, List.getElem?_append_left (by rw [σ.len]; exact hj)]; simp [nth]
  | x :: l, i + 1, j, hi, hj => by
    rw [flat_cons, List.getElem?_append_right (by rw [σ.len, Nat.add_mul]; omega), σ.len, show (i + 1) * σ.N + j - σ.N = i * σ.N + j by rw [Nat.add_mul]; omega, flat_at l i j (by simpa using hi) hj]
    simp [nth, List.getD]

/-- A slice of n things at A reads as xs, and lies below block B. -/
def Rw (w : World) (B : Nat) (A : Option Addr) (n : Nat) (xs : List α) : Prop :=
  xs.length = n ∧ (0 < n → ∃ b o, A = some ⟨b, o, none⟩ ∧ b < B ∧ ∀ j u, (σ.flat xs)[j]? = some u → w.cell? ⟨b, o + j, none⟩ = some u)
/-- A slice that was made by the call itself: from block 'base' on. -/
def Ow (w : World) (base : Nat) (A : Option Addr) (n c : Nat) (xs : List α) : Prop := w.ownsRow base σ.T σ.N (.slice A n c) n (σ.flat xs)
/-- Block g is a variable that holds it. -/
def Var (w : World) (g : Nat) (x : α) : Prop := w.rangeAt g 0 (σ.enc x) ∧ w.there g 0 σ.N

section
variable {σ} {w w' : World} {B B' n : Nat} {A : Option Addr} {xs : List α}
theorem Rw.nil (w : World) (B : Nat) (A : Option Addr) : σ.Rw w B A 0 [] := ⟨rfl, fun h => absurd h (by omega)⟩
theorem Rw.keep (h : σ.Rw w B A n xs) (hk : ∀ p : Addr, p.block < B → w'.cell? p = w.cell? p) : σ.Rw w' B A n xs :=
  ⟨h.1, fun hn => by
    obtain ⟨b, o, e, hb, hc⟩ := h.2 hn
    exact ⟨b, o, e, hb, fun j u hu => (hk ⟨b, o + j, none⟩ hb).trans (hc j u hu)⟩⟩
theorem Rw.below (h : σ.Rw w B A n xs) (hb : Below B w w') : σ.Rw w' B A n xs := h.keep fun _ hp => hb.cell hp
theorem Rw.more (h : σ.Rw w B A n xs) (hB : B ≤ B') : σ.Rw w B' A n xs :=
  ⟨h.1, fun hn => by
    obtain ⟨b, o, e, hb, hc⟩ := h.2 hn
    exact ⟨b, o, e, by omega, hc⟩⟩
theorem Rw.at_ (h : σ.Rw w B A n xs) {k : Nat} (hk : k < n) : ∃ b o, A = some ⟨b, o, none⟩ ∧ b < B ∧ w.rangeAt b (o + k * σ.N) (σ.enc (σ.nth xs k)) := by
  obtain ⟨b, o, e, hb, hc⟩ := h.2 (by omega)
  refine ⟨b, o, e, hb, fun j v hv => ?_⟩
  have hj : j < σ.N := by have := (List.getElem?_eq_some_iff.1 hv).1; rwa [σ.len] at this
  rw [Nat.add_assoc]
  exact hc _ v (by rw [flat_at σ xs k j (by rw [h.1]; exact hk) hj]; exact hv)
theorem Rw.all (h : σ.Rw w B A n xs) (hn : 0 < n) : ∃ b o, A = some ⟨b, o, none⟩ ∧ b < B ∧ ∀ k, k < n → w.rangeAt b (o + k * σ.N) (σ.enc (σ.nth xs k)) := by
  obtain ⟨b, o, e, hb, hc⟩ := h.2 hn
  refine ⟨b, o, e, hb, fun k hk => ?_⟩
  obtain ⟨b', o', e', _, hr⟩ := h.at_ hk
  rw [e] at e'
  injection e' with e'; injection e' with e1 e2
  subst e1; subst e2
  exact hr
theorem Ow.len {base c : Nat} (h : σ.Ow w base A n c xs) : xs.length = n := by
  have := h.1; rw [flat_len] at this
  exact Nat.eq_of_mul_eq_mul_right σ.pos this
theorem Ow.row {base c : Nat} (h : σ.Ow w base A n c xs) : σ.Rw w w.heap.size A n xs := by
  refine ⟨h.len, fun hn => ?_⟩
  rcases h.2 with ⟨_, h0⟩ | ⟨g, cap, cur, hv, hb, hg, _⟩
  · omega
  · have hA : A = some ⟨g, 0, none⟩ := by injection hv
    subst hA
    refine ⟨g, 0, rfl, (Array.getElem?_eq_some_iff.1 hg).1, fun j u hu => ?_⟩
    have := h.cells (g := g) rfl j u hu
    rwa [plain_add] at this
theorem Ow.cap {base c : Nat} (h : σ.Ow w base A n c xs) : n ≤ c := by
  rcases h.2 with ⟨hv, h0⟩ | ⟨g, cap, cur, hv, hb, hg, hle, _⟩
  · omega
  · have : c = cap := by injection hv
    omega
theorem Ow.nil (w : World) (base : Nat) : σ.Ow w base none 0 0 [] := World.ownsRow_nil w base σ.T σ.N
theorem Ow.below {base c : Nat} (h : σ.Ow w base A n c xs) (hb : Below w.heap.size w w') : σ.Ow w' base A n c xs := by
  refine ⟨h.1, ?_⟩
  rcases h.2 with h0 | ⟨g, cap, cur, hv, hg, hh, r⟩
  · exact .inl h0
  · exact .inr ⟨g, cap, cur, hv, hg, (hb.block g (Array.getElem?_eq_some_iff.1 hh).1).trans hh, r⟩
theorem Ow.base_le {base base' c : Nat} (h : σ.Ow w base A n c xs) (hb : base' ≤ base) : σ.Ow w base' A n c xs := by
  refine ⟨h.1, ?_⟩
  rcases h.2 with h0 | ⟨g, cap, cur, hv, hg, hh, r⟩
  · exact .inl h0
  · exact .inr ⟨g, cap, cur, hv, by omega, hh, r⟩
theorem Ow.drew {base c : Nat} (h : σ.Ow w base A n c xs) : σ.Ow w.drew base A n c xs := h.below ((Below.refl _ _).drew)
theorem Ow.alloc {base c : Nat} (h : σ.Ow w base A n c xs) (o : Obj) : σ.Ow (w.alloc o) base A n c xs := World.ownsRow.alloc h o
theorem Ow.other {base c : Nat} (h : σ.Ow w base A n c xs) (ho : ∀ g, base ≤ g → w'.heap[g]? = w.heap[g]?) : σ.Ow w' base A n c xs := by
  refine ⟨h.1, ?_⟩
  rcases h.2 with h0 | ⟨g, cap, cur, hv, hg, hh, r⟩
  · exact .inl h0
  · exact .inr ⟨g, cap, cur, hv, hg, (ho g hg).trans hh, r⟩
theorem Ow.oth {base c b : Nat} (h : σ.Ow w base A n c xs) (ho : Oth b w w') (hb : b < base) : σ.Ow w' base A n c xs := h.other fun g hg => ho g (by omega)
theorem Ow.ge {base c g : Nat} (h : σ.Ow w base (some ⟨g, 0, none⟩) n c xs) : base ≤ g ∧ g < w.heap.size := World.ownsRow.lt h g rfl
/-- Of another shape, it lies in another block. -/
theorem ow_ne {β : Type} {τ : Sh P β} {base b2 : Nat} {A2 : Option Addr} {c n2 c2 : Nat} {ys : List β} (h : σ.Ow w base A n c xs) (ho : τ.Ow w b2 A2 n2 c2 ys) (hT : σ.T ≠ τ.T) : Value.ownBlock (.slice A n c) = none ∨ Value.ownBlock (.slice A n c) ≠ Value.ownBlock (.slice A2 n2 c2) := by
  rcases h.2 with ⟨h1, _⟩ | ⟨g, cap, cur, h1, _, hh, _⟩
  · left; rw [h1]; rfl
  · right
    rw [h1]
    rcases ho.2 with ⟨k1, _⟩ | ⟨g', cap', cur', k1, _, hh', _⟩
    · rw [k1]; simp [Value.ownBlock]
    · rw [k1]
      simp [Value.ownBlock]
      rintro rfl
      rw [hh] at hh'
      simp at hh'
      exact hT hh'.2
theorem Ow.kept {β : Type} {τ : Sh P β} {base b2 : Nat} {A2 : Option Addr} {c n2 c2 : Nat} {ys : List β} (h : σ.Ow w base A n c xs) (ho : τ.Ow w b2 A2 n2 c2 ys) (hT : σ.T ≠ τ.T) (hg : w.grownBy w' (Value.ownBlock (.slice A2 n2 c2))) : σ.Ow w' base A n c xs := World.ownsRow.kept h hg (ow_ne h ho hT)

theorem Var.below {g : Nat} {x : α} (h : σ.Var w g x) {B : Nat} (hk : Below B w w') (hb : g < B) : σ.Var w' g x := ⟨range_keep h.1 hb hk, there_keep h.2 hb hk⟩
theorem Var.other {g : Nat} {x : α} (h : σ.Var w g x) {b : Nat} (ho : Oth b w w') (hb : g ≠ b) : σ.Var w' g x := ⟨range_other h.1 hb ho, there_other h.2 hb ho⟩
theorem Var.lt {g : Nat} {x : α} (h : σ.Var w g x) : g < w.heap.size := by
  have h0 := (h.2 0 σ.pos).1
  obtain ⟨u, hu⟩ := Option.isSome_iff_exists.1 h0
  exact World.block_lt_of_cell? w _ hu
theorem Var.keep {g : Nat} {x : α} (h : σ.Var w g x) (hk : Below w.heap.size w w') : σ.Var w' g x := h.below hk h.lt
theorem Var.cell {g : Nat} {x : α} (h : σ.Var w g x) {j : Nat} {v : Value} (hj : (σ.enc x)[j]? = some v) : w.cell? ⟨g, j, none⟩ = some v := by
  have := h.1 j v hj; rwa [Nat.zero_add] at this
theorem Var.free {g : Nat} {x : α} (h : σ.Var w g x) {j : Nat} (hj : j < σ.N) : w.frozen? ⟨g, j, none⟩ = false := by
  have := (h.2 j hj).2; rwa [Nat.zero_add] at this
theorem var_new (w : World) (x : α) (t : TypeId) : σ.Var (w.alloc (.cells (σ.enc x).toArray t)) w.heap.size x := ⟨range_new w _ t, by have := there_new w (σ.enc x) t; rwa [σ.len] at this⟩
theorem var_stored {g : Nat} (ht : w.there g 0 σ.N) (x : α) : σ.Var (w.setCells g 0 (σ.enc x)) g x := ⟨World.rangeAt_setCells_same w g 0 (σ.enc x) (by rw [σ.len]; exact ht), World.there_setCells ht g 0 _⟩
theorem Var.drew {g : Nat} {x : α} (h : σ.Var w g x) : σ.Var w.drew g x := by
  refine ⟨?_, ?_⟩
  · simpa using h.1
  · simpa using h.2
end

/-! ### Loads, stores and the rest, at the operation -/
section
variable {w : World} {g : Nat} {x : α} {ops : Array Oper} {rest : List Oper} {o : Oper} {a : Act} {Q : Exit → Act → World → Prop}
theorem ldv (h : w.rangeAt g 0 (σ.enc x)) : (loadVar σ.T ⟨g, 0, none⟩).run P w = .ok (σ.val x) w := run_loadVar_mid w g 0 σ.T (σ.enc x) _ h σ.undT σ.isRow (by rw [σ.size, σ.len])
theorem wp_box (hg : o.guard = none) (e : Operand) (ho : o.op = .box σ.T e) (hx : a.eval e = σ.val x)
    (h : ∀ w', σ.Var w' w.heap.size x → Below w.heap.size w w' → Hid (w'.heap.size = w.heap.size + 1) → wpList P ops Q rest (a.put o.dst (.pointer (some ⟨w.heap.size, 0, none⟩))) w') : wpList P ops Q (o :: rest) a w := by
  refine wpList_plain hg fun K hK => ?_
  unfold Oper.wp execOp
  simp only [ho, hx, Sem.run_bind, Instr.box, newVar, newRow, run_newObj_alloc, Sem.run_pure, Result.andThen_ok]
  exact hK _ _ (h _ (var_new w x σ.T) ((Below.refl _ _).alloc (Nat.le_refl _) _) (hid (by simp)))
theorem wp_al (hg : o.guard = none) (ho : o.op = .alloc σ.T)
    (h : ∀ w', σ.Var w' w.heap.size σ.z → Below w.heap.size w w' → Hid (w'.heap.size = w.heap.size + 1) → wpList P ops Q rest (a.put o.dst (.pointer (some ⟨w.heap.size, 0, none⟩))) w') : wpList P ops Q (o :: rest) a w := by
  refine wpList_plain hg fun K hK => ?_
  unfold Oper.wp execOp
  simp only [ho, Sem.run_bind, Instr.alloc, σ.zero, newVar, newRow, run_newObj_alloc, Sem.run_pure, Result.andThen_ok]
  exact hK _ _ (h _ (var_new w σ.z σ.T) ((Below.refl _ _).alloc (Nat.le_refl _) _) (hid (by simp)))
/-- One loaded, out of a variable or a slice. -/
theorem wp_ld (hw : Region.wanted o (yielded ops a.tmps) = true) (e : Operand) (ho : o.op = .load σ.T e) {b off : Nat} (hx : a.eval e = .pointer (some ⟨b, off, none⟩)) (hv : w.rangeAt b off (σ.enc x))
    (h : wpList P ops Q rest (a.put o.dst (σ.val x)) w) : wpList P ops Q (o :: rest) a w :=
  wpList_step fun _ hK => by rw [if_pos hw]; exact wp_load_mid σ.T e ho b off hx (σ.enc x) _ hv σ.undT σ.isRow (by rw [σ.size, σ.len]) (hK _ _ h)
/-- One stored into a variable. -/
theorem wp_sv (hg : o.guard = none) (e y : Operand) (ho : o.op = .store σ.T e y) {p : α} (hx : a.eval e = .pointer (some ⟨g, 0, none⟩)) (hy : a.eval y = σ.val x) (hv : σ.Var w g p)
    (h : ∀ w', σ.Var w' g x → Below g w w' → Oth g w w' → Hid (w'.heap.size = w.heap.size) → wpList P ops Q rest (a.put o.dst undef) w') : wpList P ops Q (o :: rest) a w :=
  wpList_store_mid hg σ.T e y ho g 0 (σ.enc x).toArray hx hy (by have := hv.2; simpa [σ.len] using this) (by rw [σ.size]; simp [σ.len]) (all_oneCell_toArray (σ.one x)) (h _ (var_stored hv.2 x) (setCells_oth g _ _ _).1 (setCells_oth g _ _ _).2 (hid (setCells_size _ _ _ _)))
/-- A literal of one. -/
theorem wp_bs (hw : Region.wanted o (yielded ops a.tmps) = true) (e : Operand) (ho : o.op = .buildSlice σ.S 1 #[(0, e)]) (hx : a.eval e = σ.val x)
    (h : wpList P ops Q rest (a.put o.dst (.slice (some ⟨w.heap.size, 0, none⟩) 1 1)) (w.alloc (.cells (σ.enc x).toArray σ.T))) : wpList P ops Q (o :: rest) a w :=
  wpList_step fun _ hK => by
    rw [if_pos hw]
    obtain ⟨i, hi0, hi1, hi2, hi3⟩ := info_parts σ.info
    unfold val at hx
    unfold Oper.wp execOp
    simp only [ho, List.map_toArray, List.map_cons, List.map_nil, hx]
    have hl := σ.len σ.z
    have hl2 := σ.len x
    simp [go_sem, run_underlying σ.undS, zeroValue, sizeOf, typeInfo, hi0, hi1, hi2]
    have hs := σ.smallN
    have hp := σ.pos
    rw [if_neg (by omega), if_neg (by omega)]
    have e1 : ¬ (¬(σ.enc x).length = σ.N ∨ σ.N < (σ.enc x).length) := by omega
    rw [if_neg e1, foldl_whole _ _ (by simp [hl2])]
    simp [Result.andThen]
    exact hK _ _ h
/-- One appended to a slice of the call's own: what runs. -/
theorem run_push {b base n c : Nat} {A : Option Addr} {l : List α} (ty : TypeId) (hown : σ.Ow w base A n c l) (hrow : w.rangeAt b 0 (σ.enc x)) (hn : n ≤ 1000000) (hbase : base ≤ w.heap.size) :
    ∃ A' c' w', (Builtin.append_ #[σ.S, σ.S] ty #[.slice A n c, .slice (some ⟨b, 0, none⟩) 1 1]).run P w = .ok (.slice A' (n + 1) c') w' ∧ σ.Ow w' base A' (n + 1) c' (l ++ [x]) ∧ w.grownBy w' (Value.ownBlock (.slice A n c)) := by
  obtain ⟨i, hi0, hi1, hi2, hi3⟩ := info_parts σ.info
  have hsm := σ.small
  have hmul : (n + 1) * σ.by_ ≤ (n + 1) * 10000 := Nat.mul_le_mul_left _ hsm
  obtain ⟨v', w', hrun, h2, h3, _, _⟩ := run_append_own_at (P := P) w base σ.S ty σ.T i (.agg (σ.enc σ.z).toArray) σ.N σ.by_ σ.undS hi0 hi1 hi2 hi3 (by simp [Value.cells, σ.len]) σ.pos (.slice A n c) n (σ.flat l) hown ⟨b, 0, none⟩ 1 1 (σ.enc x) (by rw [σ.len, Nat.one_mul])
    (fun j u hu => by rw [plain_add]; exact hrow j u hu) (σ.one x) (by unfold maxLen; omega) (by omega) hbase
  have e1 : σ.flat l ++ σ.enc x = σ.flat (l ++ [x]) := by rw [flat_app]; simp [flat]
  rw [e1] at h2
  rcases h2.2 with ⟨rfl, h0⟩ | ⟨g, cap, cur, rfl, r⟩
  · omega
  · exact ⟨_, _, w', hrun, h2, h3⟩
theorem step_push {b base n c : Nat} {A : Option Addr} {l : List α} {K : Act → World → Prop} {E : Prop} (hgd : o.guard = none) (s e : Operand) (ho : o.op = .call { callee := .builtin .append, args := #[s, e], argTypes := #[σ.S, σ.S] })
    (hs : a.eval s = .slice A n c) (hown : σ.Ow w base A n c l) (hx : a.eval e = .slice (some ⟨b, 0, none⟩) 1 1) (hrow : w.rangeAt b 0 (σ.enc x)) (hn : n ≤ 1000000) (hbase : base ≤ w.heap.size)
    (h : ∀ A' c' w', σ.Ow w' base A' (n + 1) c' (l ++ [x]) → w.grownBy w' (Value.ownBlock (.slice A n c)) → K (a.put o.dst (.slice A' (n + 1) c')) w') : if Region.wanted o (yielded ops a.tmps) = true then Oper.wp P o a w K Q else E := by
  have hw : Region.wanted o (yielded ops a.tmps) = true := by simp [Region.wanted, hgd]
  rw [if_pos hw]
  obtain ⟨A', c', w', hrun, h2, h3⟩ := run_push σ o.type hown hrow hn hbase
  unfold Oper.wp execOp
  simp only [ho, resolve, invoke, builtin, Sem.run_bind, Sem.run_pure, Result.andThen_ok, List.map_toArray, List.map_cons, List.map_nil, hs, hx, hrun]
  exact h A' c' w' h2 h3
theorem wp_push {b base n c : Nat} {A : Option Addr} {l : List α} (hgd : o.guard = none) (s e : Operand) (ho : o.op = .call { callee := .builtin .append, args := #[s, e], argTypes := #[σ.S, σ.S] })
    (hs : a.eval s = .slice A n c) (hown : σ.Ow w base A n c l) (hx : a.eval e = .slice (some ⟨b, 0, none⟩) 1 1) (hrow : w.rangeAt b 0 (σ.enc x)) (hn : n ≤ 1000000) (hbase : base ≤ w.heap.size)
    (h : ∀ A' c' w', σ.Ow w' base A' (n + 1) c' (l ++ [x]) → w.grownBy w' (Value.ownBlock (.slice A n c)) → wpList P ops Q rest (a.put o.dst (.slice A' (n + 1) c')) w') : wpList P ops Q (o :: rest) a w := by
  refine wpList_plain hgd fun K hK => ?_
  obtain ⟨A', c', w', hrun, h2, h3⟩ := run_push σ o.type hown hrow hn hbase
  unfold Oper.wp execOp
  simp only [ho, resolve, invoke, builtin, Sem.run_bind, Sem.run_pure, Result.andThen_ok, List.map_toArray, List.map_cons, List.map_nil, hs, hx, hrun]
  exact hK _ _ (h A' c' w' h2 h3)
theorem grown_below {base n c : Nat} {A : Option Addr} {l : List α} {w' : World} (hown : σ.Ow w base A n c l) (hbase : base ≤ w.heap.size) (hg : w.grownBy w' (Value.ownBlock (.slice A n c))) : Below base w w' :=
  (Below.refl _ _).grown hg hbase (fun k hk => (World.ownsRow.lt hown k hk).1)
/-- A block that is not its own stands. -/
theorem grown_block {base n c : Nat} {A : Option Addr} {l : List α} {w1 w' : World} (hown : σ.Ow w1 base A n c l) {j : Nat} (hj : w1.heap.size ≤ j ∨ j < base) (hj2 : j < w.heap.size) (hg : w.grownBy w' (Value.ownBlock (.slice A n c))) : w'.heap[j]? = w.heap[j]? :=
  hg.block j hj2 (fun e => by have := World.ownsRow.lt hown j e.symm; omega)
end
end Sh
end Go.Proofs.YtinjhnflnfpoeaaGreatDoor
