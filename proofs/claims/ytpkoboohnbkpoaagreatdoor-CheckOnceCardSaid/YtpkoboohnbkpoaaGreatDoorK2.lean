/-
  GA: Words for memory, for structs of any shape (Sh): cells of one, of some; a slice of such that came in and reads as a list (Rw), one that the call made itself (Ow), a variable that holds one (Var); what box, alloc, load, store, make, a literal of one and append do to them. No condition but what each head says.
  LP: Plain words of the lexer, without the model's runs: a rune of a list of bytes, a piece, a number's and a piece's token, what a text is cut into, and a byte's place; and what follows of them alone. No condition.
  LA: Contracts of lex.isLetter, lex.isDigit, lex.isSmall, lex.behind, at every argument of its kind (a place's numbers below 2^40).
  PP: Plain words of the parser, without the model's runs: forests of statements, how many and how deep they are, all of them flat, and what tokens are read as; and what follows of them alone. No condition.
  PM: Words for memory of the parser: numbers and statements in memory (nmS, smS), a slice that lies in blocks of which P holds (RwP), a forest in memory (Tr, TrS), one under construction (Lo), a reader (Rd), and a call that touches the reader alone (Mov). No condition but what each head says.
  LB: The contract of lex.Word: whether any text is a word (P14.1); under: the text has fewer than 2^62 bytes.
-/
import Derived.Test.YtpkoboohnbkpoaaGreatDoorK1
import Derived.WalkKit
import Derived.WalkSpells
import Derived.WalkLawsBesides
import Derived.LoopTactic
import Derived.Below
import Derived.Maps.AppendAt
import Derived.OwnWalk
import Derived.Laws.OwnMore
import Derived.Laws.BytesArg
import Derived.Deep.MidRow
import Derived.Lib.QuietBelow
import Derived.Lib.OthersKept
import GoSem.Core.Utf8
import Derived.Lib.DecodeN
import Derived.Laws.RangeAny
/-! GA -/
namespace Go.Proofs.YtpkoboohnbkpoaaGreatDoor
open Go Go.RowKit

theorem plain_add (b o j : Nat) : (⟨b, o, none⟩ : Addr).add j = ⟨b, o + j, none⟩ := by unfold Addr.add; split <;> simp_all

/-- Cells laid one by one over cells of the same number. -/
theorem foldl_laid : ∀ (l : List Value) (k : Nat) (C : Array Value), k + l.length ≤ C.size →
    ((l.zipIdx k).foldl (fun cs x => cs.setIfInBounds x.snd x.fst) C).toList = C.toList.take k ++ (l ++ C.toList.drop (k + l.length))
  | [], k, C, _ => by simp
  | v :: l, k, C, h => by
    rw [List.zipIdx_cons, List.foldl_cons, foldl_laid l (k + 1) _ (by simp at h ⊢; omega)]
    have hk : k < C.toList.length := by simp at h ⊢; omega
    simp only [Array.toList_setIfInBounds]
    have e : (C.toList.take k).length = k := by rw [List.length_take]; omega
    rw [List.take_set, List.drop_set_of_lt (by omega), List.length_cons, show k + 1 + l.length = k + (l.length + 1) by omega, List.take_succ_eq_append_getElem hk, List.set_append_right _ _ (by omega), e, Nat.sub_self, List.append_assoc]
    rfl
theorem foldl_whole (l : List Value) (C : Array Value) (h : C.size = l.length) : (l.zipIdx 0).foldl (fun cs x => cs.setIfInBounds x.snd x.fst) C = l.toArray := by
  apply Array.ext'
  rw [foldl_laid l 0 C (by omega)]
  simp [h]

/-- A shape: of a struct type T that has N cells, and of []T. -/
structure Sh (P : Program) (α : Type) where
  enc : α → List Value
  N : Nat
  T : TypeId
  S : TypeId
  by_ : Nat
  z : α
  d : TypeDesc
  len : ∀ x, (enc x).length = N
  pos : 0 < N
  one : ∀ x, ∀ u ∈ enc x, u.oneCell' = true
  undS : P.underlying S = some (.slice T)
  undT : P.underlying T = some d
  isRow : d.isRow = true
  info : (P.info? T).map (fun i => (i.zero, i.size, i.bytes)) = some (some (.agg (enc z).toArray), N, by_)
  size : (P.info? T).map (·.size) = some N
  zero : ∀ w, (zeroValue T).run P w = .ok (.agg (enc z).toArray) w
  small : by_ ≤ 10000
  smallN : N ≤ 1000

/-- Only block g is another one. -/
def Oth (g : Nat) (w w' : World) : Prop := ∀ k, k ≠ g → w'.heap[k]? = w.heap[k]?
theorem range_keep {w w' : World} {b o : Nat} {cs : List Value} (h : w.rangeAt b o cs) {B : Nat} (hb : b < B) (hk : Below B w w') : w'.rangeAt b o cs := fun j v hv => (hk.cell (p := ⟨b, o + j, none⟩) hb).trans (h j v hv)
theorem there_keep {w w' : World} {b o n : Nat} (h : w.there b o n) {B : Nat} (hb : b < B) (hk : Below B w w') : w'.there b o n := fun j hj =>
  ⟨by rw [hk.cell (p := ⟨b, o + j, none⟩) hb]; exact (h j hj).1, by rw [hk.frozen (p := ⟨b, o + j, none⟩) hb]; exact (h j hj).2⟩
theorem range_other {w w' : World} {b o g : Nat} {cs : List Value} (h : w.rangeAt b o cs) (hb : b ≠ g) (ho : Oth g w w') : w'.rangeAt b o cs := fun j v hv => (World.cell?_of_block (a := ⟨b, o + j, none⟩) (ho b hb)).trans (h j v hv)
theorem there_other {w w' : World} {b o n g : Nat} (h : w.there b o n) (hb : b ≠ g) (ho : Oth g w w') : w'.there b o n := fun j hj =>
  ⟨by rw [World.cell?_of_block (a := ⟨b, o + j, none⟩) (ho b hb)]; exact (h j hj).1, by rw [World.frozen?_of_block (a := ⟨b, o + j, none⟩) (ho b hb)]; exact (h j hj).2⟩
theorem range_new (w : World) (cs : List Value) (t : TypeId) : (w.alloc (.cells cs.toArray t)).rangeAt w.heap.size 0 cs := fun j v hv => by
  rw [cell_of_row (w.alloc (.cells cs.toArray t)) w.heap.size (0 + j) cs.toArray t (0, 0) (heap_alloc_new w _)]
  simpa using hv
theorem there_new (w : World) (cs : List Value) (t : TypeId) : (w.alloc (.cells cs.toArray t)).there w.heap.size 0 cs.length := fun j hj => by
  refine ⟨?_, frozen_of_row _ _ _ _ _ (heap_alloc_new w _)⟩
  rw [range_new w cs t j _ (List.getElem?_eq_getElem hj)]; rfl
/-- Cells of a block set: no other one is touched. -/
theorem setCells_oth (g : Nat) : ∀ (vs : List Value) (o : Nat) (w : World), Below g w (w.setCells g o vs) ∧ Oth g w (w.setCells g o vs) := by
  intro vs
  induction vs with
  | nil => exact fun o w => ⟨Below.refl _ _, fun _ _ => rfl⟩
  | cons v r ih => exact fun o w => ⟨((Below.refl _ _).setCell (p := ⟨g, o, none⟩) (Nat.le_refl _) v).trans (ih (o + 1) _).1, fun k hk => ((ih (o + 1) _).2 k hk).trans (Below.heap_setCell w ⟨g, o, none⟩ v k hk)⟩
theorem setCells_size (g : Nat) : ∀ (vs : List Value) (o : Nat) (w : World), (w.setCells g o vs).heap.size = w.heap.size := by
  intro vs
  induction vs with
  | nil => exact fun o w => rfl
  | cons v r ih => exact fun o w => (ih (o + 1) _).trans (by simp)

namespace Sh
variable {P : Program} {α : Type} (σ : Sh P α)
def val (x : α) : Value := .agg (σ.enc x).toArray
def flat (l : List α) : List Value := l.flatMap σ.enc
def nth (l : List α) (k : Nat) : α := l.getD k σ.z
theorem nth_of {l : List α} {k : Nat} {x : α} (h : l[k]? = some x) : σ.nth l k = x := by simp [nth, List.getD, h]
theorem nth_get {l : List α} {k : Nat} (h : k < l.length) : l[k]? = some (σ.nth l k) := by simp [nth, List.getD, h]
theorem flat_cons (x : α) (l : List α) : σ.flat (x :: l) = σ.enc x ++ σ.flat l := rfl
theorem flat_len (l : List α) : (σ.flat l).length = l.length * σ.N := by
  induction l with
  | nil => simp [flat]
  | cons x l ih => rw [flat_cons, List.length_append, ih, σ.len, List.length_cons, Nat.add_mul, Nat.one_mul, Nat.add_comm]
theorem flat_app (a b : List α) : σ.flat (a ++ b) = σ.flat a ++ σ.flat b := by simp [flat]
theorem flat_one (l : List α) : ∀ u ∈ σ.flat l, u.oneCell' = true := by
  intro u hu
  obtain ⟨x, _, hx⟩ := List.mem_flatMap.1 hu
  exact σ.one x u hx
theorem flat_at : ∀ (l : List α) (i j : Nat), i < l.length → j < σ.N → (σ.flat l)[i * σ.N + j]? = (σ.enc (σ.nth l i))[j]?
  | x :: l, 0, j, _, hj => by rw [flat_cons, Nat.zero_mul, Nat.zero_add, List.getElem?_append_left (by rw [σ.len]; exact hj)]; simp [nth]
  | x :: l, i + 1, j, hi, hj => by
    rw [flat_cons, List.getElem?_append_right (by rw [σ.len, Nat.add_mul]; omega), σ.len, show (i + 1) * σ.N + j - σ.N = i * σ.N + j by rw [Nat.add_mul]; omega, flat_at l i j (by simpa using hi) hj]
    simp [nth, List.getD]

/-- A slice of n things at A reads as xs, and lies below block B. -/
def Rw (w : World) (B : Nat) (A : Option Addr) (n : Nat) (xs : List α) : Prop :=
  xs.length = n ∧ (0 < n → ∃ b o, A = some ⟨b, o, none⟩ ∧ b < B ∧ ∀ j u, (σ.flat xs)[j]? = some u → w.cell? ⟨b, o + j, none⟩ = some u)
/-- A slice that was made by the call itself: from block 'base' on. -/
def Ow (w : World) (base : Nat) (A : Option Addr) (n c : Nat) (xs : List α) : Prop := w.ownsRow base σ.T σ.N (.slice A n c) n (σ.flat xs)
/-- Block g is a variable that holds it. -/
def Var (w : World) (g : Nat) (x : α) : Prop := w.rangeAt g 0 (σ.enc x) ∧ w.there g 0 σ.N

section
variable {σ} {w w' : World} {B B' n : Nat} {A : Option Addr} {xs : List α}
theorem Rw.nil (w : World) (B : Nat) (A : Option Addr) : σ.Rw w B A 0 [] := ⟨rfl, fun h => absurd h (by omega)⟩
theorem Rw.keep (h : σ.Rw w B A n xs) (hk : ∀ p : Addr, p.block < B → w'.cell? p = w.cell? p) : σ.Rw w' B A n xs :=
  ⟨h.1, fun hn => by
    obtain ⟨b, o, e, hb, hc⟩ := h.2 hn
    exact ⟨b, o, e, hb, fun j u hu => (hk ⟨b, o + j, none⟩ hb).trans (hc j u hu)⟩⟩
theorem Rw.below (h : σ.Rw w B A n xs) (hb : Below B w w') : σ.Rw w' B A n xs := h.keep fun _ hp => hb.cell hp
theorem Rw.more (h : σ.Rw w B A n xs) (hB : B ≤ B') : σ.Rw w B' A n xs :=
  ⟨h.1, fun hn => by
    obtain ⟨b, o, e, hb, hc⟩ := h.2 hn
    exact ⟨b, o, e, by omega, hc⟩⟩
theorem Rw.at_ (h : σ.Rw w B A n xs) {k : Nat} (hk : k < n) : ∃ b o, A = some ⟨b, o, none⟩ ∧ b < B ∧ w.rangeAt b (o + k * σ.N) (σ.enc (σ.nth xs k)) := by
  obtain ⟨b, o, e, hb, hc⟩ := h.2 (by omega)
  refine ⟨b, o, e, hb, fun j v hv => ?_⟩
  have hj : j < σ.N := by have := (List.getElem?_eq_some_iff.1 hv).1; rwa [σ.len] at this
  rw [Nat.add_assoc]
  exact hc _ v (by rw [flat_at σ xs k j (by rw [h.1]; exact hk) hj]; exact hv)
theorem Rw.all (h : σ.Rw w B A n xs) (hn : 0 < n) : ∃ b o, A = some ⟨b, o, none⟩ ∧ b < B ∧ ∀ k, k < n → w.rangeAt b (o + k * σ.N) (σ.enc (σ.nth xs k)) := by
  obtain ⟨b, o, e, hb, hc⟩ := h.2 hn
  refine ⟨b, o, e, hb, fun k hk => ?_⟩
  obtain ⟨b', o', e', _, hr⟩ := h.at_ hk
  rw [e] at e'
  injection e' with e'; injection e' with e1 e2
  subst e1; subst e2
  exact hr
theorem Ow.len {base c : Nat} (h : σ.Ow w base A n c xs) : xs.length = n := by
  have := h.1; rw [flat_len] at this
  exact Nat.eq_of_mul_eq_mul_right σ.pos this
theorem Ow.row {base c : Nat} (h : σ.Ow w base A n c xs) : σ.Rw w w.heap.size A n xs := by
  refine ⟨h.len, fun hn => ?_⟩
  rcases h.2 with ⟨_, h0⟩ | ⟨g, cap, cur, hv, hb, hg, _⟩
  · omega
  · have hA : A = some ⟨g, 0, none⟩ := by injection hv
    subst hA
    refine ⟨g, 0, rfl, (Array.getElem?_eq_some_iff.1 hg).1, fun j u hu => ?_⟩
    have := h.cells (g := g) rfl j u hu
    rwa [plain_add] at this
theorem Ow.cap {base c : Nat} (h : σ.Ow w base A n c xs) : n ≤ c := by
  rcases h.2 with ⟨hv, h0⟩ | ⟨g, cap, cur, hv, hb, hg, hle, _⟩
  · omega
  · have : c = cap := by injection hv
    omega
theorem Ow.nil (w : World) (base : Nat) : σ.Ow w base none 0 0 [] := World.ownsRow_nil w base σ.T σ.N
theorem Ow.below {base c : Nat} (h : σ.Ow w base A n c xs) (hb : Below w.heap.size w w') : σ.Ow w' base A n c xs := by
  refine ⟨h.1, ?_⟩
  rcases h.2 with h0 | ⟨g, cap, cur, hv, hg, hh, r⟩
  · exact .inl h0
  · exact .inr ⟨g, cap, cur, hv, hg, (hb.block g (Array.getElem?_eq_some_iff.1 hh).1).trans hh, r⟩
theorem Ow.base_le {base base' c : Nat} (h : σ.Ow w base A n c xs) (hb : base' ≤ base) : σ.Ow w base' A n c xs := by
  refine ⟨h.1, ?_⟩
  rcases h.2 with h0 | ⟨g, cap, cur, hv, hg, hh, r⟩
  · exact .inl h0
  · exact .inr ⟨g, cap, cur, hv, by omega, hh, r⟩
theorem Ow.drew {base c : Nat} (h : σ.Ow w base A n c xs) : σ.Ow w.drew base A n c xs := h.below ((Below.refl _ _).drew)
theorem Ow.alloc {base c : Nat} (h : σ.Ow w base A n c xs) (o : Obj) : σ.Ow (w.alloc o) base A n c xs := World.ownsRow.alloc h o
theorem Ow.other {base c : Nat} (h : σ.Ow w base A n c xs) (ho : ∀ g, base ≤ g → w'.heap[g]? = w.heap[g]?) : σ.Ow w' base A n c xs := by
  refine ⟨h.1, ?_⟩
  rcases h.2 with h0 | ⟨g, cap, cur, hv, hg, hh, r⟩
  · exact .inl h0
  · exact .inr ⟨g, cap, cur, hv, hg, (ho g hg).trans hh, r⟩
theorem Ow.oth {base c b : Nat} (h : σ.Ow w base A n c xs) (ho : Oth b w w') (hb : b < base) : σ.Ow w' base A n c xs := h.other fun g hg => ho g (by omega)
theorem Ow.ge {base c g : Nat} (h : σ.Ow w base (some ⟨g, 0, none⟩) n c xs) : base ≤ g ∧ g < w.heap.size := World.ownsRow.lt h g rfl
/-- Of another shape, it lies in another block. -/
theorem ow_ne {β : Type} {τ : Sh P β} {base b2 : Nat} {A2 : Option Addr} {c n2 c2 : Nat} {ys : List β} (h : σ.Ow w base A n c xs) (ho : τ.Ow w b2 A2 n2 c2 ys) (hT : σ.T ≠ τ.T) : Value.ownBlock (.slice A n c) = none ∨ Value.ownBlock (.slice A n c) ≠ Value.ownBlock (.slice A2 n2 c2) := by
  rcases h.2 with ⟨h1, _⟩ | ⟨g, cap, cur, h1, _, hh, _⟩
  · left; rw [h1]; rfl
  · right
    rw [h1]
    rcases ho.2 with ⟨k1, _⟩ | ⟨g', cap', cur', k1, _, hh', _⟩
    · rw [k1]; simp [Value.ownBlock]
    · rw [k1]
      simp [Value.ownBlock]
      rintro rfl
      rw [hh] at hh'
      simp at hh'
      exact hT hh'.2
theorem Ow.kept {β : Type} {τ : Sh P β} {base b2 : Nat} {A2 : Option Addr} {c n2 c2 : Nat} {ys : List β} (h : σ.Ow w base A n c xs) (ho : τ.Ow w b2 A2 n2 c2 ys) (hT : σ.T ≠ τ.T) (hg : w.grownBy w' (Value.ownBlock (.slice A2 n2 c2))) : σ.Ow w' base A n c xs := World.ownsRow.kept h hg (ow_ne h ho hT)

theorem Var.below {g : Nat} {x : α} (h : σ.Var w g x) {B : Nat} (hk : Below B w w') (hb : g < B) : σ.Var w' g x := ⟨range_keep h.1 hb hk, there_keep h.2 hb hk⟩
theorem Var.other {g : Nat} {x : α} (h : σ.Var w g x) {b : Nat} (ho : Oth b w w') (hb : g ≠ b) : σ.Var w' g x := ⟨range_other h.1 hb ho, there_other h.2 hb ho⟩
theorem Var.lt {g : Nat} {x : α} (h : σ.Var w g x) : g < w.heap.size := by
  have h0 := (h.2 0 σ.pos).1
  obtain ⟨u, hu⟩ := Option.isSome_iff_exists.1 h0
  exact World.block_lt_of_cell? w _ hu
theorem Var.keep {g : Nat} {x : α} (h : σ.Var w g x) (hk : Below w.heap.size w w') : σ.Var w' g x := h.below hk h.lt
theorem Var.cell {g : Nat} {x : α} (h : σ.Var w g x) {j : Nat} {v : Value} (hj : (σ.enc x)[j]? = some v) : w.cell? ⟨g, j, none⟩ = some v := by
  have := h.1 j v hj; rwa [Nat.zero_add] at this
theorem Var.free {g : Nat} {x : α} (h : σ.Var w g x) {j : Nat} (hj : j < σ.N) : w.frozen? ⟨g, j, none⟩ = false := by
  have := (h.2 j hj).2; rwa [Nat.zero_add] at this
theorem var_new (w : World) (x : α) (t : TypeId) : σ.Var (w.alloc (.cells (σ.enc x).toArray t)) w.heap.size x := ⟨range_new w _ t, by have := there_new w (σ.enc x) t; rwa [σ.len] at this⟩
theorem var_stored {g : Nat} (ht : w.there g 0 σ.N) (x : α) : σ.Var (w.setCells g 0 (σ.enc x)) g x := ⟨World.rangeAt_setCells_same w g 0 (σ.enc x) (by rw [σ.len]; exact ht), World.there_setCells ht g 0 _⟩
theorem Var.drew {g : Nat} {x : α} (h : σ.Var w g x) : σ.Var w.drew g x := by
  refine ⟨?_, ?_⟩
  · simpa using h.1
  · simpa using h.2
end

/-! ### Loads, stores and the rest, at the operation -/
section
variable {w : World} {g : Nat} {x : α} {ops : Array Oper} {rest : List Oper} {o : Oper} {a : Act} {Q : Exit → Act → World → Prop}
theorem ldv (h : w.rangeAt g 0 (σ.enc x)) : (loadVar σ.T ⟨g, 0, none⟩).run P w = .ok (σ.val x) w := run_loadVar_mid w g 0 σ.T (σ.enc x) _ h σ.undT σ.isRow (by rw [σ.size, σ.len])
theorem wp_box (hg : o.guard = none) (e : Operand) (ho : o.op = .box σ.T e) (hx : a.eval e = σ.val x)
    (h : ∀ w', σ.Var w' w.heap.size x → Below w.heap.size w w' → Hid (w'.heap.size = w.heap.size + 1) → wpList P ops Q rest (a.put o.dst (.pointer (some ⟨w.heap.size, 0, none⟩))) w') : wpList P ops Q (o :: rest) a w := by
  refine wpList_plain hg fun K hK => ?_
  unfold Oper.wp execOp
  simp only [ho, hx, Sem.run_bind, Instr.box, newVar, newRow, run_newObj_alloc, Sem.run_pure, Result.andThen_ok]
  exact hK _ _ (h _ (var_new w x σ.T) ((Below.refl _ _).alloc (Nat.le_refl _) _) (hid (by simp)))
theorem wp_al (hg : o.guard = none) (ho : o.op = .alloc σ.T)
    (h : ∀ w', σ.Var w' w.heap.size σ.z → Below w.heap.size w w' → Hid (w'.heap.size = w.heap.size + 1) → wpList P ops Q rest (a.put o.dst (.pointer (some ⟨w.heap.size, 0, none⟩))) w') : wpList P ops Q (o :: rest) a w := by
  refine wpList_plain hg fun K hK => ?_
  unfold Oper.wp execOp
  simp only [ho, Sem.run_bind, Instr.alloc, σ.zero, newVar, newRow, run_newObj_alloc, Sem.run_pure, Result.andThen_ok]
  exact hK _ _ (h _ (var_new w σ.z σ.T) ((Below.refl _ _).alloc (Nat.le_refl _) _) (hid (by simp)))
/-- One loaded, out of a variable or a slice. -/
theorem wp_ld (hw : Region.wanted o (yielded ops a.tmps) = true) (e : Operand) (ho : o.op = .load σ.T e) {b off : Nat} (hx : a.eval e = .pointer (some ⟨b, off, none⟩)) (hv : w.rangeAt b off (σ.enc x))
    (h : wpList P ops Q rest (a.put o.dst (σ.val x)) w) : wpList P ops Q (o :: rest) a w :=
  wpList_step fun _ hK => by rw [if_pos hw]; exact wp_load_mid σ.T e ho b off hx (σ.enc x) _ hv σ.undT σ.isRow (by rw [σ.size, σ.len]) (hK _ _ h)
/-- One stored into a variable. -/
theorem wp_sv (hg : o.guard = none) (e y : Operand) (ho : o.op = .store σ.T e y) {p : α} (hx : a.eval e = .pointer (some ⟨g, 0, none⟩)) (hy : a.eval y = σ.val x) (hv : σ.Var w g p)
    (h : ∀ w', σ.Var w' g x → Below g w w' → Oth g w w' → Hid (w'.heap.size = w.heap.size) → wpList P ops Q rest (a.put o.dst undef) w') : wpList P ops Q (o :: rest) a w :=
  wpList_store_mid hg σ.T e y ho g 0 (σ.enc x).toArray hx hy (by have := hv.2; simpa [σ.len] using this) (by rw [σ.size]; simp [σ.len]) (all_oneCell_toArray (σ.one x)) (h _ (var_stored hv.2 x) (setCells_oth g _ _ _).1 (setCells_oth g _ _ _).2 (hid (setCells_size _ _ _ _)))
/-- A literal of one. -/
theorem wp_bs (hw : Region.wanted o (yielded ops a.tmps) = true) (e : Operand) (ho : o.op = .buildSlice σ.S 1 #[(0, e)]) (hx : a.eval e = σ.val x)
    (h : wpList P ops Q rest (a.put o.dst (.slice (some ⟨w.heap.size, 0, none⟩) 1 1)) (w.alloc (.cells (σ.enc x).toArray σ.T))) : wpList P ops Q (o :: rest) a w :=
  wpList_step fun _ hK => by
    rw [if_pos hw]
    obtain ⟨i, hi0, hi1, hi2, hi3⟩ := info_parts σ.info
    unfold val at hx
    unfold Oper.wp execOp
    simp only [ho, List.map_toArray, List.map_cons, List.map_nil, hx]
    have hl := σ.len σ.z
    have hl2 := σ.len x
    simp [go_sem, run_underlying σ.undS, zeroValue, sizeOf, typeInfo, hi0, hi1, hi2]
    have hs := σ.smallN
    have hp := σ.pos
    rw [if_neg (by omega), if_neg (by omega)]
    have e1 : ¬ (¬(σ.enc x).length = σ.N ∨ σ.N < (σ.enc x).length) := by omega
    rw [if_neg e1, foldl_whole _ _ (by simp [hl2])]
    simp [Result.andThen]
    exact hK _ _ h
/-- One appended to a slice of the call's own: what runs. -/
theorem run_push {b base n c : Nat} {A : Option Addr} {l : List α} (ty : TypeId) (hown : σ.Ow w base A n c l) (hrow : w.rangeAt b 0 (σ.enc x)) (hn : n ≤ 1000000) (hbase : base ≤ w.heap.size) :
    ∃ A' c' w', (Builtin.append_ #[σ.S, σ.S] ty #[.slice A n c, .slice (some ⟨b, 0, none⟩) 1 1]).run P w = .ok (.slice A' (n + 1) c') w' ∧ σ.Ow w' base A' (n + 1) c' (l ++ [x]) ∧ w.grownBy w' (Value.ownBlock (.slice A n c)) := by
  obtain ⟨i, hi0, hi1, hi2, hi3⟩ := info_parts σ.info
  have hsm := σ.small
  have hmul : (n + 1) * σ.by_ ≤ (n + 1) * 10000 := Nat.mul_le_mul_left _ hsm
  obtain ⟨v', w', hrun, h2, h3, _, _⟩ := run_append_own_at (P := P) w base σ.S ty σ.T i (.agg (σ.enc σ.z).toArray) σ.N σ.by_ σ.undS hi0 hi1 hi2 hi3 (by simp [Value.cells, σ.len]) σ.pos (.slice A n c) n (σ.flat l) hown ⟨b, 0, none⟩ 1 1 (σ.enc x) (by rw [σ.len, Nat.one_mul])
    (fun j u hu => by rw [plain_add]; exact hrow j u hu) (σ.one x) (by unfold maxLen; omega) (by omega) hbase
  have e1 : σ.flat l ++ σ.enc x = σ.flat (l ++ [x]) := by rw [flat_app]; simp [flat]
  rw [e1] at h2
  rcases h2.2 with ⟨rfl, h0⟩ | ⟨g, cap, cur, rfl, r⟩
  · omega
  · exact ⟨_, _, w', hrun, h2, h3⟩
theorem step_push {b base n c : Nat} {A : Option Addr} {l : List α} {K : Act → World → Prop} {E : Prop} (hgd : o.guard = none) (s e : Operand) (ho : o.op = .call { callee := .builtin .append, args := #[s, e], argTypes := #[σ.S, σ.S] })
    (hs : a.eval s = .slice A n c) (hown : σ.Ow w base A n c l) (hx : a.eval e = .slice (some ⟨b, 0, none⟩) 1 1) (hrow : w.rangeAt b 0 (σ.enc x)) (hn : n ≤ 1000000) (hbase : base ≤ w.heap.size)
    (h : ∀ A' c' w', σ.Ow w' base A' (n + 1) c' (l ++ [x]) → w.grownBy w' (Value.ownBlock (.slice A n c)) → K (a.put o.dst (.slice A' (n + 1) c')) w') : if Region.wanted o (yielded ops a.tmps) = true then Oper.wp P o a w K Q else E := by
  have hw : Region.wanted o (yielded ops a.tmps) = true := by simp [Region.wanted, hgd]
  rw [if_pos hw]
  obtain ⟨A', c', w', hrun, h2, h3⟩ := run_push σ o.type hown hrow hn hbase
  unfold Oper.wp execOp
  simp only [ho, resolve, invoke, builtin, Sem.run_bind, Sem.run_pure, Result.andThen_ok, List.map_toArray, List.map_cons, List.map_nil, hs, hx, hrun]
  exact h A' c' w' h2 h3
theorem wp_push {b base n c : Nat} {A : Option Addr} {l : List α} (hgd : o.guard = none) (s e : Operand) (ho : o.op = .call { callee := .builtin .append, args := #[s, e], argTypes := #[σ.S, σ.S] })
    (hs : a.eval s = .slice A n c) (hown : σ.Ow w base A n c l) (hx : a.eval e = .slice (some ⟨b, 0, none⟩) 1 1) (hrow : w.rangeAt b 0 (σ.enc x)) (hn : n ≤ 1000000) (hbase : base ≤ w.heap.size)
    (h : ∀ A' c' w', σ.Ow w' base A' (n + 1) c' (l ++ [x]) → w.grownBy w' (Value.ownBlock (.slice A n c)) → wpList P ops Q rest (a.put o.dst (.slice A' (n + 1) c')) w') : wpList P ops Q (o :: rest) a w := by
  refine wpList_plain hgd fun K hK => ?_
  obtain ⟨A', c', w', hrun, h2, h3⟩ := run_push σ o.type hown hrow hn hbase
  unfold Oper.wp execOp
  simp only [ho, resolve, invoke, builtin, Sem.run_bind, Sem.run_pure, Result.andThen_ok, List.map_toArray, List.map_cons, List.map_nil, hs, hx, hrun]
  exact hK _ _ (h A' c' w' h2 h3)
theorem grown_below {base n c : Nat} {A : Option Addr} {l : List α} {w' : World} (hown : σ.Ow w base A n c l) (hbase : base ≤ w.heap.size) (hg : w.grownBy w' (Value.ownBlock (.slice A n c))) : Below base w w' :=
  (Below.refl _ _).grown hg hbase (fun k hk => (World.ownsRow.lt hown k hk).1)
/-- A block that is not its own stands. -/
theorem grown_block {base n c : Nat} {A : Option Addr} {l : List α} {w1 w' : World} (hown : σ.Ow w1 base A n c l) {j : Nat} (hj : w1.heap.size ≤ j ∨ j < base) (hj2 : j < w.heap.size) (hg : w.grownBy w' (Value.ownBlock (.slice A n c))) : w'.heap[j]? = w.heap[j]? :=
  hg.block j hj2 (fun e => by have := World.ownsRow.lt hown j e.symm; omega)
end
end Sh
end Go.Proofs.YtpkoboohnbkpoaaGreatDoor

/-! LP -/
namespace Go.Proofs.YtpkoboohnbkpoaaGreatDoor
open Go

def gb (l : List UInt8) (k : Nat) : Nat := (l.getD k 0).toNat
/-- the rune that a text begins with, and its bytes -/
def dec (l : List UInt8) : Nat × Nat := Lib.decodeN l.length (gb l 0) (gb l 1) (gb l 2) (gb l 3)

theorem get!_of (s : ByteArray) (i : Nat) : s.get! i = s.data.toList.getD i 0 := by
  show s.data[i]! = _
  simp [getElem!_def, List.getD]
  cases s.data[i]? <;> rfl

theorem dec_of (s : ByteArray) (i : Nat) : Utf8.decode s i = dec (s.data.toList.drop i) := by
  rw [Lib.decode_at]
  have h : ∀ k, (s.get! (i + k)).toNat = gb (s.data.toList.drop i) k := by
    intro k
    unfold gb
    rw [get!_of, List.getD_eq_getElem?_getD, List.getD_eq_getElem?_getD, List.getElem?_drop]
  have h0 := h 0
  rw [Nat.add_zero] at h0
  rw [h0, h 1, h 2, h 3]
  unfold dec
  rw [List.length_drop]
  rfl

theorem decodeN_pos (n b0 b1 b2 b3 : Nat) : 1 ≤ (Lib.decodeN n b0 b1 b2 b3).2 ∧ (1 ≤ n → (Lib.decodeN n b0 b1 b2 b3).2 ≤ n) := by
  unfold Lib.decodeN
  repeat' split
  all_goals (constructor <;> simp only <;> omega)
theorem dec_pos (l : List UInt8) : 1 ≤ (dec l).2 := (decodeN_pos _ _ _ _ _).1
theorem dec_le (c : UInt8) (r : List UInt8) : (dec (c :: r)).2 ≤ r.length + 1 := (decodeN_pos _ _ _ _ _).2 (by simp)
theorem dec_ascii (c : UInt8) (r : List UInt8) (h : c.toNat < 128) : dec (c :: r) = (c.toNat, 1) := by
  unfold dec Lib.decodeN
  rw [if_pos (by simpa [gb] using h)]
  simp [gb]
theorem decodeN_high (n b0 b1 b2 b3 : Nat) (h : 128 ≤ b0) : 128 ≤ (Lib.decodeN n b0 b1 b2 b3).1 := by
  unfold Lib.decodeN
  repeat' split
  all_goals (simp only; omega)
theorem dec_high (c : UInt8) (r : List UInt8) (h : 128 ≤ c.toNat) : 128 ≤ (dec (c :: r)).1 := decodeN_high _ _ _ _ _ (by simpa [gb] using h)
/-- a rune below 128 is its byte -/
theorem dec_low (c : UInt8) (r : List UInt8) (h : (dec (c :: r)).1 < 128) : c.toNat = (dec (c :: r)).1 ∧ (dec (c :: r)).2 = 1 := by
  by_cases hc : c.toNat < 128
  · rw [dec_ascii c r hc]; exact ⟨rfl, rfl⟩
  · have := dec_high c r (by omega); omega
theorem decodeN_top (n b0 b1 b2 b3 : Nat) : (Lib.decodeN n b0 b1 b2 b3).1 ≤ 1114111 := by
  unfold Lib.decodeN
  repeat' split
  all_goals (simp only; omega)
theorem dec_top (l : List UInt8) : (dec l).1 ≤ 1114111 := decodeN_top _ _ _ _ _

/-- a byte that is no rune's -/
def brok (l : List UInt8) : Bool := (dec l).1 == 65533 && !([239, 191, 189] : List UInt8).isPrefixOf l

def letB (c : UInt8) : Bool := decide (97 ≤ c.toNat) && decide (c.toNat ≤ 122)
def digB (c : UInt8) : Bool := decide (48 ≤ c.toNat) && decide (c.toNat ≤ 57)
def ldB (c : UInt8) : Bool := letB c || digB c
def sgB (c : UInt8) : Bool := c == 59 || c == 123 || c == 125

structure Pl where
  line : Nat
  col : Nat
deriving DecidableEq
def behindP (p : Pl) (r : Nat) : Pl := if r = 10 then ⟨p.line + 1, 1⟩ else ⟨p.line, p.col + 1⟩
def firstP : Pl := ⟨1, 1⟩

structure Tk where
  kind : Int
  s : List UInt8
  n : Int
  time : Bool
deriving DecidableEq

def pieceF : List UInt8 → List UInt8
  | [] => []
  | c :: r => if sgB c then [c] else (c :: r).take (dec (c :: r)).2 ++ ((c :: r).drop (dec (c :: r)).2).takeWhile ldB

theorem pieceF_cons (c : UInt8) (r : List UInt8) : pieceF (c :: r) = if sgB c then [c] else (c :: r).take (dec (c :: r)).2 ++ ((c :: r).drop (dec (c :: r)).2).takeWhile ldB := rfl
def wordB : List UInt8 → Bool
  | [] => false
  | c :: r => letB c && r.all ldB && decide (r.length ≤ 15)

def unitF (l : List UInt8) : Option Int :=
  if l = [112, 115] then some 1 else if l = [110, 115] then some 1000 else if l = [117, 115] then some 1000000 else if l = [109, 115] then some 1000000000 else if l = [115] then some 1000000000000 else none

def decV (l : List UInt8) : Nat := l.foldl (fun n c => 10 * n + (c.toNat - 48)) 0
def sizeF : List UInt8 → List UInt8
  | [] => []
  | c :: r => if c = 45 then r else c :: r
theorem sizeF_cons (c : UInt8) (r : List UInt8) : sizeF (c :: r) = if c = 45 then r else c :: r := rfl
def minusB : List UInt8 → Bool
  | [] => false
  | c :: _ => c == 45
def valF (p : List UInt8) : Int := if minusB p then -(decV ((sizeF p).takeWhile digB) : Int) else decV ((sizeF p).takeWhile digB)

def numF (p : List UInt8) : Except Nat Tk :=
  if (sizeF p).takeWhile digB = [] ∨ ((sizeF p).dropWhile digB ≠ [] ∧ unitF ((sizeF p).dropWhile digB) = none) then .error 4
  else if 18 < ((sizeF p).takeWhile digB).length then .error 6
  else match unitF ((sizeF p).dropWhile digB) with
    | some ps => if -1000000000000000000 < valF p * ps ∧ valF p * ps < 1000000000000000000 then .ok ⟨2, p, valF p * ps, true⟩ else .error 2
    | none => .ok ⟨2, p, valF p, false⟩

def tokF (p : List UInt8) : Except Nat Tk :=
  match p with
  | [] => .error 4
  | c :: r => if r = [] ∧ sgB c then .ok ⟨3, p, 0, false⟩ else if wordB p then .ok ⟨1, p, 0, false⟩ else if letB c then .error 6 else numF p

/-- what a text is cut into, from a place on, in a remark or not; and what is wrong, and where -/
def cutL : List UInt8 → Bool → Pl → List (Tk × Pl) × Option (Pl × Nat)
  | [], _, _ => ([], none)
  | c :: r, rem, here =>
    if brok (c :: r) then ([], some (here, 4))
    else if (dec (c :: r)).1 = 10 then cutL (r.drop ((dec (c :: r)).2 - 1)) false (behindP here 10)
    else if rem = true ∨ (dec (c :: r)).1 = 32 ∨ (dec (c :: r)).1 = 9 then cutL (r.drop ((dec (c :: r)).2 - 1)) rem (behindP here (dec (c :: r)).1)
    else if (dec (c :: r)).1 = 35 then cutL (r.drop ((dec (c :: r)).2 - 1)) true (behindP here (dec (c :: r)).1)
    else match tokF (pieceF (c :: r)) with
      | .error e => ([], some (here, e))
      | .ok t => ((t, here) :: (cutL (r.drop ((pieceF (c :: r)).length - 1)) false ⟨here.line, here.col + (pieceF (c :: r)).length⟩).1, (cutL (r.drop ((pieceF (c :: r)).length - 1)) false ⟨here.line, here.col + (pieceF (c :: r)).length⟩).2)
termination_by l => l.length
decreasing_by all_goals (simp only [List.length_drop, List.length_cons]; omega)

/-- the place of the rune at a byte, or around it -/
def plAt : List UInt8 → Pl → Nat → Pl
  | [], p, _ => p
  | c :: r, p, a => if a < (dec (c :: r)).2 then p else plAt (r.drop ((dec (c :: r)).2 - 1)) (behindP p (dec (c :: r)).1) (a - (dec (c :: r)).2)
termination_by l => l.length
decreasing_by (simp only [List.length_drop, List.length_cons]; omega)

theorem tail_drop (c : UInt8) (r : List UInt8) (k : Nat) (h : 1 ≤ k) : r.drop (k - 1) = (c :: r).drop k := by
  obtain ⟨j, rfl⟩ : ∃ j, k = j + 1 := ⟨k - 1, by omega⟩
  rfl

theorem ld_ascii {c : UInt8} (h : ldB c = true) : c.toNat < 128 ∧ c.toNat ≠ 10 := by
  simp only [ldB, letB, digB, Bool.or_eq_true, Bool.and_eq_true, decide_eq_true_eq] at h
  omega
theorem sg_ascii {c : UInt8} (h : sgB c = true) : c.toNat < 128 ∧ c.toNat ≠ 10 := by
  simp only [sgB, Bool.or_eq_true, beq_iff_eq] at h
  rcases h with (rfl | rfl) | rfl <;> decide
theorem all_takeWhile (f : UInt8 → Bool) (l : List UInt8) : (l.takeWhile f).all f = true := by
  induction l with
  | nil => rfl
  | cons c l ih =>
    by_cases h : f c = true
    · rw [List.takeWhile_cons_of_pos h, List.all_cons, h, ih]; rfl
    · rw [List.takeWhile_cons_of_neg h]; rfl
theorem takeWhile_all (f : UInt8 → Bool) (l : List UInt8) (h : l.all f = true) : l.takeWhile f = l := by
  induction l with
  | nil => rfl
  | cons c l ih =>
    rw [List.all_cons, Bool.and_eq_true] at h
    rw [List.takeWhile_cons_of_pos h.1, ih h.2]

theorem unit_all (u : List UInt8) (ps : Int) (h : unitF u = some ps) : u.all letB = true ∧ u ≠ [] ∧ 0 < ps ∧ ps ≤ 1000000000000 := by
  have h : (if u = [112, 115] then some 1 else if u = [110, 115] then some 1000 else if u = [117, 115] then some 1000000 else if u = [109, 115] then some 1000000000 else if u = [115] then some 1000000000000 else none) = some ps := h
  by_cases h1 : u = [112, 115]
  · subst h1; rw [if_pos rfl] at h; cases h; exact ⟨by decide, by decide, by decide, by decide⟩
  rw [if_neg h1] at h
  by_cases h2 : u = [110, 115]
  · subst h2; rw [if_pos rfl] at h; cases h; exact ⟨by decide, by decide, by decide, by decide⟩
  rw [if_neg h2] at h
  by_cases h3 : u = [117, 115]
  · subst h3; rw [if_pos rfl] at h; cases h; exact ⟨by decide, by decide, by decide, by decide⟩
  rw [if_neg h3] at h
  by_cases h4 : u = [109, 115]
  · subst h4; rw [if_pos rfl] at h; cases h; exact ⟨by decide, by decide, by decide, by decide⟩
  rw [if_neg h4] at h
  by_cases h5 : u = [115]
  · subst h5; rw [if_pos rfl] at h; cases h; exact ⟨by decide, by decide, by decide, by decide⟩
  rw [if_neg h5] at h
  cases h

/-- all bytes of a piece that is a token are ASCII, and no line's end -/
theorem tok_ascii (p : List UInt8) (t : Tk) (h : tokF p = .ok t) : t.s = p ∧ p ≠ [] ∧ ∀ c ∈ p, c.toNat < 128 ∧ c.toNat ≠ 10 := by
  match p with
  | [] => cases h
  | c :: r =>
    unfold tokF at h
    simp only at h
    split at h
    · rename_i h1
      cases h
      refine ⟨rfl, by simp, ?_⟩
      obtain ⟨rfl, h1⟩ := h1
      intro d hd
      rw [List.mem_singleton] at hd
      subst hd
      exact sg_ascii h1
    split at h
    · rename_i h1
      cases h
      refine ⟨rfl, by simp, ?_⟩
      simp only [wordB, Bool.and_eq_true, decide_eq_true_eq, List.all_eq_true] at h1
      intro d hd
      rcases List.mem_cons.1 hd with rfl | hd
      · exact ld_ascii (by simp [ldB, h1.1.1])
      · exact ld_ascii (h1.1.2 d hd)
    split at h
    · cases h
    · have hs : ∀ d ∈ c :: r, d = 45 ∨ d ∈ sizeF (c :: r) := by
        intro d hd
        rw [sizeF_cons]
        split
        · rename_i hc
          rcases List.mem_cons.1 hd with rfl | hd
          · exact .inl hc
          · exact .inr hd
        · exact .inr hd
      have hall : (∀ d ∈ sizeF (c :: r), digB d = true ∨ letB d = true) ∧ t.s = c :: r := by
        unfold numF at h
        split at h
        · cases h
        rename_i h1
        split at h
        · cases h
        have hm : ∀ d ∈ sizeF (c :: r), d ∈ (sizeF (c :: r)).takeWhile digB ∨ d ∈ (sizeF (c :: r)).dropWhile digB := by
          intro d hd
          rw [← List.takeWhile_append_dropWhile (p := digB) (l := sizeF (c :: r))] at hd
          exact List.mem_append.1 hd
        have htk : ∀ d ∈ (sizeF (c :: r)).takeWhile digB, digB d = true := fun d hd => List.all_eq_true.1 (all_takeWhile _ _) d hd
        split at h
        · rename_i ps hu
          split at h
          · cases h
            refine ⟨fun d hd => ?_, rfl⟩
            rcases hm d hd with h2 | h2
            · exact .inl (htk d h2)
            · exact .inr (List.all_eq_true.1 (unit_all _ _ hu).1 d h2)
          · cases h
        · rename_i hu
          cases h
          refine ⟨fun d hd => ?_, rfl⟩
          have he : (sizeF (c :: r)).dropWhile digB = [] := by
            rcases Classical.em ((sizeF (c :: r)).dropWhile digB = []) with h2 | h2
            · exact h2
            · exact absurd (.inr ⟨h2, hu⟩) h1
          rcases hm d hd with h2 | h2
          · exact .inl (htk d h2)
          · rw [he] at h2; cases h2
      refine ⟨hall.2, by simp, fun d hd => ?_⟩
      rcases hs d hd with rfl | h2
      · decide
      · rcases hall.1 d h2 with h3 | h3
        · exact ld_ascii (by simp [ldB, h3])
        · exact ld_ascii (by simp [ldB, h3])

theorem piece_pre (l : List UInt8) : ∃ k, pieceF l = l.take k ∧ k ≤ l.length ∧ (l ≠ [] → 1 ≤ k) := by
  match l with
  | [] => exact ⟨0, rfl, Nat.le_refl _, fun h => absurd rfl h⟩
  | c :: r =>
    rw [pieceF_cons]
    split
    · exact ⟨1, rfl, by simp, fun _ => Nat.le_refl _⟩
    · have hle := dec_le c r
      have hpos := dec_pos (c :: r)
      refine ⟨(dec (c :: r)).2 + (((c :: r).drop (dec (c :: r)).2).takeWhile ldB).length, ?_, ?_, fun _ => by omega⟩
      · rw [List.take_add]
        congr 1
        exact (List.prefix_iff_eq_take.1 (List.takeWhile_prefix _))
      · have h := (List.takeWhile_prefix ldB (l := (c :: r).drop (dec (c :: r)).2)).length_le
        rw [List.length_drop] at h
        simp only [List.length_cons] at h ⊢
        omega
theorem piece_take (l : List UInt8) : pieceF l = l.take (pieceF l).length := by
  obtain ⟨k, hk, hle, _⟩ := piece_pre l
  rw [hk, List.length_take, Nat.min_eq_left hle]
theorem piece_len (l : List UInt8) : (pieceF l).length ≤ l.length ∧ (l ≠ [] → 1 ≤ (pieceF l).length) := by
  obtain ⟨k, hk, hle, h1⟩ := piece_pre l
  rw [hk, List.length_take, Nat.min_eq_left hle]
  exact ⟨hle, h1⟩
end Go.Proofs.YtpkoboohnbkpoaaGreatDoor

/-! LA -/
namespace Go.Proofs.YtpkoboohnbkpoaaGreatDoor
open Go Go.RowKit

theorem letter_any (r : Nat) (w : World) : Calls Tryz.prog 125 #[.int .i32 r] w fun e w' => e = .returned (.bool (decide (97 ≤ r) && decide (r ≤ 122))) ∧ w' = w := by
  go_enter Tryz.func125, Tryz.ntmps125
  go_wp2
  all_goals (go_ret; exact ⟨ret_bool (by rw [Bool.eq_iff_iff]; simp; try omega), rfl⟩)
theorem digit_any (r : Nat) (w : World) : Calls Tryz.prog 126 #[.int .i32 r] w fun e w' => e = .returned (.bool (decide (48 ≤ r) && decide (r ≤ 57))) ∧ w' = w := by
  go_enter Tryz.func126, Tryz.ntmps126
  go_wp2
  all_goals (go_ret; exact ⟨ret_bool (by rw [Bool.eq_iff_iff]; simp; try omega), rfl⟩)
theorem small_any (n : Int) (w : World) : Calls Tryz.prog 160 #[.int .i64 n] w fun e w' => e = .returned (.bool (decide (-1000000000000000000 < n) && decide (n < 1000000000000000000))) ∧ w' = w := by
  go_enter Tryz.func160, Tryz.ntmps160
  go_wp2
  all_goals (go_ret; exact ⟨ret_bool (by rw [Bool.eq_iff_iff]; simp; try omega), rfl⟩)

/-! ### Places and tokens in memory -/
def encP (p : Pl) : List Value := [.int .i64 p.line, .int .i64 p.col]
def plS : Sh Tryz.prog Pl where
  enc := encP
  N := 2
  T := 26
  S := 62
  by_ := 16
  z := ⟨0, 0⟩
  d := _
  len := fun _ => rfl
  pos := by omega
  one := by intro x u hu; simp [encP] at hu; rcases hu with rfl | rfl <;> rfl
  undS := Tryz.underlying62
  undT := Tryz.underlying26
  isRow := rfl
  info := by kernel_rfl
  size := by kernel_rfl
  zero := fun w => by kernel_rfl
  small := by omega
  smallN := by omega
def strB (l : List UInt8) : ByteArray := ⟨l.toArray⟩
def encT (t : Tk) : List Value := [.int .i64 t.kind, .string (strB t.s), .int .i64 t.n, .bool t.time]
def tkS : Sh Tryz.prog Tk where
  enc := encT
  N := 4
  T := 133
  S := 61
  by_ := 40
  z := ⟨0, [], 0, false⟩
  d := _
  len := fun _ => rfl
  pos := by omega
  one := by intro x u hu; simp [encT] at hu; rcases hu with rfl | rfl | rfl | rfl <;> rfl
  undS := Tryz.underlying61
  undT := Tryz.underlying133
  isRow := rfl
  info := by kernel_rfl
  size := by kernel_rfl
  zero := fun w => by kernel_rfl
  small := by omega
  smallN := by omega
theorem pl_tk : plS.T ≠ tkS.T := by show 26 ≠ 133; decide
theorem tk_pl : tkS.T ≠ plS.T := by show 133 ≠ 26; decide
def plV (p : Pl) : Value := .agg #[.int .i64 p.line, .int .i64 p.col]
def tkV (t : Tk) : Value := .agg #[.int .i64 t.kind, .string (strB t.s), .int .i64 t.n, .bool t.time]

section
variable {w : World} {g : Nat}
theorem results_p {fn : Func} {p : Tmp} (h : fn.results = #[.cell p 26]) (tmps : Array Value) (hp : tmps.getD p undef = .pointer (some ⟨g, 0, none⟩)) {x : Pl} (hx : plS.Var w g x) :
    (results fn tmps).run Tryz.prog w = .ok (plV x) w := by
  have : (loadVar 26 ⟨g, 0, none⟩).run Tryz.prog w = .ok (plV x) w := Sh.ldv plS hx.1
  have hp' : tmps[p]?.getD undef = .pointer (some ⟨g, 0, none⟩) := by simpa using hp
  simp only [results, h]
  simp [hp', this, asAddr]
theorem results_p1 {fn : Func} {p r : Tmp} (h : fn.results = #[.cell p 26, .tmp r]) (tmps : Array Value) (hp : tmps.getD p undef = .pointer (some ⟨g, 0, none⟩)) {x : Pl} (hx : plS.Var w g x) :
    (results fn tmps).run Tryz.prog w = .ok (.tuple #[plV x, tmps.getD r undef]) w := by
  have : (loadVar 26 ⟨g, 0, none⟩).run Tryz.prog w = .ok (plV x) w := Sh.ldv plS hx.1
  have hp' : tmps[p]?.getD undef = .pointer (some ⟨g, 0, none⟩) := by simpa using hp
  simp only [results, h]
  simp [Result.andThen, hp', this, asAddr]
theorem results_t1 {fn : Func} {p r : Tmp} (h : fn.results = #[.cell p 133, .tmp r]) (tmps : Array Value) (hp : tmps.getD p undef = .pointer (some ⟨g, 0, none⟩)) {x : Tk} (hx : tkS.Var w g x) :
    (results fn tmps).run Tryz.prog w = .ok (.tuple #[tkV x, tmps.getD r undef]) w := by
  have : (loadVar 133 ⟨g, 0, none⟩).run Tryz.prog w = .ok (tkV x) w := Sh.ldv tkS hx.1
  have hp' : tmps[p]?.getD undef = .pointer (some ⟨g, 0, none⟩) := by simpa using hp
  simp only [results, h]
  simp [Result.andThen, hp', this, asAddr]
theorem results_11p1 {fn : Func} {p q s r : Tmp} (h : fn.results = #[.tmp q, .tmp s, .cell p 26, .tmp r]) (tmps : Array Value) (hp : tmps.getD p undef = .pointer (some ⟨g, 0, none⟩)) {x : Pl} (hx : plS.Var w g x) :
    (results fn tmps).run Tryz.prog w = .ok (.tuple #[tmps.getD q undef, tmps.getD s undef, plV x, tmps.getD r undef]) w := by
  have : (loadVar 26 ⟨g, 0, none⟩).run Tryz.prog w = .ok (plV x) w := Sh.ldv plS hx.1
  have hp' : tmps[p]?.getD undef = .pointer (some ⟨g, 0, none⟩) := by simpa using hp
  simp only [results, h]
  simp [Result.andThen, hp', this, asAddr]
end

theorem behind_line (p : Pl) (w : World) (h1 : p.line < 1099511627776) : Calls Tryz.prog 90 #[plV p, .int .i32 10] w fun e w' => e = .returned (plV ⟨p.line + 1, 1⟩) ∧ Below w.heap.size w w' := by
  go_enter Tryz.func90, Tryz.ntmps90
  go_wp2_with (first
    | (refine Sh.wp_sv plS (x := ⟨p.line + 1, 1⟩) rfl (.tmp 4) (.tmp 10) rfl rfl (by simp [Act.eval, Sh.val, plS, encP]) q2 ?_; intro w3 q3 b3 o3 s3)
    | (refine Sh.wp_al plS rfl rfl ?_; intro w2 q2 b2 s2; have v2 := v1.keep b2; have c0 : w2.cell? ⟨w.heap.size, 0, none⟩ = some (.int .i64 p.line) := v2.cell (j := 0) rfl; have B2 : Hid (Below w.heap.size w w2) := hid (b1.trans (b2.mono b1.size)); have N2 : Hid (w.heap.size < w1.heap.size) := hid v1.lt; clear b1 b2 s1)
    | (refine Sh.wp_box plS (x := p) rfl (.tmp 0) rfl rfl ?_; intro w1 v1 b1 s1))
  exact bodyPost_ret (results_p (g := w1.heap.size) Tryz.results90 _ rfl q3) rfl ⟨rfl, B2.out.trans (b3.mono (by have := N2.out; omega))⟩
theorem behind_col (p : Pl) (r : Nat) (w : World) (hr : ¬ (r : Int) = 10) (h2 : p.col < 1099511627776) : Calls Tryz.prog 90 #[plV p, .int .i32 r] w fun e w' => e = .returned (plV ⟨p.line, p.col + 1⟩) ∧ Below w.heap.size w w' := by
  go_enter Tryz.func90, Tryz.ntmps90
  go_wp2_with (first
    | (refine Sh.wp_sv plS (x := ⟨p.line, p.col + 1⟩) rfl (.tmp 4) (.tmp 16) rfl rfl (by simp [Act.eval, Sh.val, plS, encP]) q2 ?_; intro w3 q3 b3 o3 s3)
    | (refine Sh.wp_al plS rfl rfl ?_; intro w2 q2 b2 s2; have v2 := v1.keep b2; have c0 : w2.cell? ⟨w.heap.size, 0, none⟩ = some (.int .i64 p.line) := v2.cell (j := 0) rfl; have c1 : w2.cell? ⟨w.heap.size, 1, none⟩ = some (.int .i64 p.col) := v2.cell (j := 1) rfl; have B2 : Hid (Below w.heap.size w w2) := hid (b1.trans (b2.mono b1.size)); have N2 : Hid (w.heap.size < w1.heap.size) := hid v1.lt; clear b1 b2 s1)
    | (refine Sh.wp_box plS (x := p) rfl (.tmp 0) rfl rfl ?_; intro w1 v1 b1 s1))
  exact bodyPost_ret (results_p (g := w1.heap.size) Tryz.results90 _ rfl q3) rfl ⟨rfl, B2.out.trans (b3.mono (by have := N2.out; omega))⟩
theorem behind_any (p : Pl) (r : Nat) (w : World) (h1 : p.line < 1099511627776) (h2 : p.col < 1099511627776) : Calls Tryz.prog 90 #[plV p, .int .i32 r] w fun e w' => e = .returned (plV (behindP p r)) ∧ Below w.heap.size w w' := by
  by_cases h : r = 10
  · subst h
    have e : behindP p 10 = ⟨p.line + 1, 1⟩ := by simp [behindP]
    rw [e]
    exact behind_line p w h1
  · have e : behindP p r = ⟨p.line, p.col + 1⟩ := by simp [behindP, h]
    rw [e]
    exact behind_col p r w (by omega) h2
end Go.Proofs.YtpkoboohnbkpoaaGreatDoor

/-! PP -/
namespace Go.Proofs.YtpkoboohnbkpoaaGreatDoor
open Go

/-- Statements that stand one behind the other: a word, numbers, whether there is a block, those in it, and those behind. -/
inductive Fo where
  | nil : Fo
  | cons (word : List UInt8) (nums : List (Int × Bool)) (block : Bool) (body next : Fo) : Fo
deriving DecidableEq

namespace Fo
def len : Fo → Nat
  | nil => 0
  | cons _ _ _ _ n => n.len + 1
def app : Fo → Fo → Fo
  | nil, g => g
  | cons w ns b y n, g => cons w ns b y (n.app g)
def count : Fo → Nat
  | nil => 0
  | cons _ _ _ y n => 1 + y.count + n.count
def depth : Fo → Nat
  | nil => 0
  | cons _ _ b y n => max (1 + max y.depth (if b then 1 else 0)) n.depth
def flat : Fo → Fo
  | nil => nil
  | cons w ns b y n => cons w ns b nil (y.flat.app n.flat)
theorem app_nil (f : Fo) : f.app nil = f := by
  induction f with
  | nil => rfl
  | cons w ns b y n _ ih => rw [app, ih]
theorem app_assoc (f g h : Fo) : (f.app g).app h = f.app (g.app h) := by
  induction f with
  | nil => rfl
  | cons w ns b y n _ ih => rw [app, app, app, ih]
theorem len_app (f g : Fo) : (f.app g).len = f.len + g.len := by
  induction f with
  | nil => simp [app, len]
  | cons w ns b y n _ ih => rw [app, len, ih, len]; omega
theorem count_app (f g : Fo) : (f.app g).count = f.count + g.count := by
  induction f with
  | nil => simp [app, count]
  | cons w ns b y n _ ih => rw [app, count, ih, count]; omega
theorem depth_app (f g : Fo) : (f.app g).depth = max f.depth g.depth := by
  induction f with
  | nil => simp [app, depth]
  | cons w ns b y n _ ih => rw [app, depth, ih, depth]; omega
theorem flat_app (f g : Fo) : (f.app g).flat = f.flat.app g.flat := by
  induction f with
  | nil => rfl
  | cons w ns b y n _ ih => rw [app, flat, ih, flat, app, app_assoc]
theorem len_flat (f : Fo) : f.flat.len = f.count := by
  induction f with
  | nil => rfl
  | cons w ns b y n ih1 ih2 => rw [flat, len, len_app, ih1, ih2, count]; omega
theorem len_le (f : Fo) : f.len ≤ f.count := by
  induction f with
  | nil => exact Nat.le_refl _
  | cons w ns b y n ih1 ih2 => rw [len, count]; omega
end Fo

/-- What is read: the statements, how many have begun, and what is left; or what is wrong, and what is left there. -/
inductive Res where
  | ok (f : Fo) (many : Nat) (rest : List Tk)
  | bad (e : Nat) (rest : List Tk)

def isW (t : Tk) : Bool := decide (t.kind = 1)
def isN (t : Tk) : Bool := decide (t.kind = 2)
def numT (t : Tk) : Int × Bool := (t.n, t.time)
/-- what is wrong with the token that is next -/
def wrongE : List Tk → Nat
  | [] => 3
  | _ :: _ => 4
def numsF (ts : List Tk) : List (Int × Bool) := (ts.takeWhile isN).map numT
def restF (ts : List Tk) : List Tk := ts.dropWhile isN
def fewN (ts : List Tk) : Bool := decide ((ts.takeWhile isN).length ≤ 8)

section
variable (L : Nat → Nat → List Tk → Res)
/-- a block behind its { : statements, and } -/
def blkF (deep many : Nat) (ts : List Tk) : Res :=
  match L deep many ts with
  | .bad e r => .bad e r
  | .ok f m r => match r with
    | [] => .bad 3 []
    | c :: r3 => if c.kind = 3 ∧ c.s = [125] then .ok f m r3 else .bad 4 (c :: r3)
/-- what follows a word and its numbers -/
def endF (wd : List UInt8) (ns : List (Int × Bool)) (deep many : Nat) (r : List Tk) : Res :=
  match r with
  | [] => .bad 3 []
  | s :: r2 =>
    if s.kind = 1 then .bad 4 (s :: r2)
    else if s.s = [59] then .ok (.cons wd ns false .nil .nil) many r2
    else if s.s = [123] then
      if 6 ≤ deep then .bad 6 (s :: r2)
      else match blkF L (deep + 1) many r2 with
        | .bad e r3 => .bad e r3
        | .ok f m r3 => .ok (.cons wd ns true f .nil) m r3
    else .bad 4 (s :: r2)
/-- a statement, its word apart -/
def stmF (wd : List UInt8) (deep many : Nat) (ts : List Tk) : Res :=
  if fewN ts then endF L wd (numsF ts) deep many (restF ts) else .bad 7 (ts.drop 8)
end

/-- the statements ahead of the first token that begins none -/
def lstF : Nat → Nat → Nat → List Tk → Res
  | 0, _, many, ts => .ok .nil many ts
  | _ + 1, _, many, [] => .ok .nil many []
  | n + 1, deep, many, t :: r =>
    if t.kind = 1 then
      if many = 2000 then .bad 7 (t :: r)
      else match stmF (lstF n) t.s deep (many + 1) r with
        | .bad e r2 => .bad e r2
        | .ok x m r2 => match lstF n deep m r2 with
          | .bad e r3 => .bad e r3
          | .ok f m2 r3 => .ok (x.app f) m2 r3
    else .ok .nil many (t :: r)

def preR (acc : Fo) : Res → Res
  | .ok f m r => .ok (acc.app f) m r
  | .bad e r => .bad e r
theorem preR_nil (x : Res) : preR .nil x = x := by cases x <;> rfl
theorem preR_app (a b : Fo) (x : Res) : preR a (preR b x) = preR (a.app b) x := by
  cases x with
  | ok f m r => simp only [preR, Fo.app_assoc]
  | bad e r => rfl

/-- all of a text's tokens -/
def allF (ts : List Tk) : Res :=
  match lstF ts.length 1 0 ts with
  | .bad e r => .bad e r
  | .ok f m r => match r with
    | [] => .ok f m []
    | c :: r2 => .bad 4 (c :: r2)

/-! ### What is left grows shorter -/
def Short (ts : List Tk) : Res → Prop
  | .ok _ _ r => ∃ p, ts = p ++ r
  | .bad _ r => ∃ p, ts = p ++ r
theorem short_more {p ts : List Tk} {x : Res} (h : Short ts x) : Short (p ++ ts) x := by
  cases x with
  | ok f m r => obtain ⟨q, rfl⟩ := h; exact ⟨p ++ q, by simp⟩
  | bad e r => obtain ⟨q, rfl⟩ := h; exact ⟨p ++ q, by simp⟩
theorem short_bad (e : Nat) (ts : List Tk) : Short ts (.bad e ts) := ⟨[], rfl⟩
theorem short_ok (f : Fo) (m : Nat) (ts : List Tk) : Short ts (.ok f m ts) := ⟨[], rfl⟩
section
variable {L : Nat → Nat → List Tk → Res}
theorem blk_short (hL : ∀ d m ts, Short ts (L d m ts)) (d m : Nat) (ts : List Tk) : Short ts (blkF L d m ts) := by
  have h := hL d m ts
  unfold blkF
  generalize L d m ts = x at h
  match x with
  | .bad e r => exact h
  | .ok f m r =>
    match r with
    | [] => exact h
    | c :: r3 =>
      simp only
      split
      · obtain ⟨p, rfl⟩ := h
        exact ⟨p ++ [c], by simp⟩
      · exact h
theorem end_short (hL : ∀ d m ts, Short ts (L d m ts)) (wd : List UInt8) (ns : List (Int × Bool)) (d m : Nat) (ts : List Tk) : Short ts (endF L wd ns d m ts) := by
  unfold endF
  match ts with
  | [] => exact ⟨[], rfl⟩
  | s :: r2 =>
    simp only
    split
    · exact short_bad _ _
    split
    · exact ⟨[s], rfl⟩
    split
    · split
      · exact short_bad _ _
      · have h := short_more (p := [s]) (blk_short hL (d + 1) m r2)
        generalize blkF L (d + 1) m r2 = x at h
        cases x <;> exact h
    · exact short_bad _ _
theorem stm_short (hL : ∀ d m ts, Short ts (L d m ts)) (wd : List UInt8) (d m : Nat) (ts : List Tk) : Short ts (stmF L wd d m ts) := by
  unfold stmF
  split
  · have h := short_more (p := ts.takeWhile isN) (end_short hL wd (numsF ts) d m (restF ts))
    rwa [restF, List.takeWhile_append_dropWhile] at h
  · exact ⟨ts.take 8, (List.take_append_drop 8 ts).symm⟩
end
theorem lst_short : ∀ (n d m : Nat) (ts : List Tk), Short ts (lstF n d m ts)
  | 0, d, m, ts => short_ok _ _ _
  | n + 1, d, m, [] => short_ok _ _ _
  | n + 1, d, m, t :: r => by
    unfold lstF
    split
    · split
      · exact short_bad _ _
      · have h := short_more (p := [t]) (stm_short (lst_short n) t.s d (m + 1) r)
        generalize stmF (lstF n) t.s d (m + 1) r = x at h
        match x with
        | .bad e r2 => exact h
        | .ok x m r2 =>
          obtain ⟨p, hp⟩ := h
          have h2 := short_more (p := p) (lst_short n d m r2)
          rw [← hp] at h2
          simp only
          generalize lstF n d m r2 = y at h2
          cases y <;> exact h2
    · exact short_ok _ _ _

/-! ### How many have begun -/
def Many (m0 : Nat) : Res → Prop
  | .ok f m _ => m = m0 + f.count ∧ (m0 ≤ 2000 → m ≤ 2000)
  | .bad _ _ => True
section
variable {L : Nat → Nat → List Tk → Res}
theorem blk_many (hL : ∀ d m ts, Many m (L d m ts)) (d m : Nat) (ts : List Tk) : Many m (blkF L d m ts) := by
  have h := hL d m ts
  unfold blkF
  generalize L d m ts = x at h
  match x with
  | .bad e r => trivial
  | .ok f m r =>
    match r with
    | [] => trivial
    | c :: r3 =>
      simp only
      split
      · exact h
      · trivial
theorem end_one (hL : ∀ d m ts, Many m (L d m ts)) {wd : List UInt8} {ns : List (Int × Bool)} {d m : Nat} {ts : List Tk} {f : Fo} {m2 : Nat} {r : List Tk} (h : endF L wd ns d (m + 1) ts = .ok f m2 r) : f.len = 1 ∧ m2 = m + f.count ∧ (m + 1 ≤ 2000 → m2 ≤ 2000) := by
  unfold endF at h
  match ts with
  | [] => cases h
  | s :: r2 =>
    simp only at h
    split at h
    · cases h
    split at h
    · cases h
      exact ⟨rfl, by simp [Fo.count], fun h => h⟩
    split at h
    · split at h
      · cases h
      · have hb := blk_many hL (d + 1) (m + 1) r2
        revert h hb
        generalize blkF L (d + 1) (m + 1) r2 = x
        match x with
        | .bad e r => intro h; cases h
        | .ok f m2 r =>
          intro h hb
          cases h
          exact ⟨rfl, by simp only [Fo.count]; have := hb.1; omega, hb.2⟩
    · cases h
theorem stm_one (hL : ∀ d m ts, Many m (L d m ts)) {wd : List UInt8} {d m : Nat} {ts : List Tk} {f : Fo} {m2 : Nat} {r : List Tk} (h : stmF L wd d (m + 1) ts = .ok f m2 r) : f.len = 1 ∧ m2 = m + f.count ∧ (m + 1 ≤ 2000 → m2 ≤ 2000) := by
  unfold stmF at h
  split at h
  · exact end_one hL h
  · cases h
end
theorem lst_many : ∀ (n d m : Nat) (ts : List Tk), Many m (lstF n d m ts)
  | 0, d, m, ts => ⟨by simp [Fo.count], fun h => h⟩
  | n + 1, d, m, [] => ⟨by simp [Fo.count], fun h => h⟩
  | n + 1, d, m, t :: r => by
    unfold lstF
    split
    · split
      · trivial
      · rename_i hm
        have h : ∀ x, stmF (lstF n) t.s d (m + 1) r = x → Many m (match x with
          | .bad e r2 => .bad e r2
          | .ok x m r2 => match lstF n d m r2 with
            | .bad e r3 => .bad e r3
            | .ok f m2 r3 => .ok (x.app f) m2 r3) := by
          intro x hx
          match x with
          | .bad e r2 => trivial
          | .ok x m1 r2 =>
            have h1 := stm_one (fun d m ts => lst_many n d m ts) hx
            have h2 := lst_many n d m1 r2
            simp only
            generalize lstF n d m1 r2 = y at h2
            match y with
            | .bad e r3 => trivial
            | .ok f m2 r3 => exact ⟨by rw [Fo.count_app, h2.1]; omega, fun h => h2.2 (h1.2.2 (by omega))⟩
        exact h _ rfl
    · exact ⟨by simp [Fo.count], fun h => h⟩
end Go.Proofs.YtpkoboohnbkpoaaGreatDoor

/-! PM -/
namespace Go.Proofs.YtpkoboohnbkpoaaGreatDoor
open Go Go.RowKit

def encN (x : Int × Bool) : List Value := [.int .i64 x.1, .bool x.2]
def nmS : Sh Tryz.prog (Int × Bool) where
  enc := encN
  N := 2
  T := 57
  S := 34
  by_ := 16
  z := (0, false)
  d := _
  len := fun _ => rfl
  pos := by omega
  one := by intro x u hu; simp [encN] at hu; rcases hu with rfl | rfl <;> rfl
  undS := Tryz.underlying34
  undT := Tryz.underlying57
  isRow := rfl
  info := by kernel_rfl
  size := by kernel_rfl
  zero := fun w => by kernel_rfl
  small := by omega
  smallN := by omega
/-- A statement's four cells. -/
structure Sm where
  word : List UInt8
  nA : Option Addr
  nn : Nat
  nc : Nat
  block : Bool
  bA : Option Addr
  bn : Nat
  bc : Nat
def encS (x : Sm) : List Value := [.string (strB x.word), .slice x.nA x.nn x.nc, .bool x.block, .slice x.bA x.bn x.bc]
def smS : Sh Tryz.prog Sm where
  enc := encS
  N := 4
  T := 36
  S := 24
  by_ := 72
  z := ⟨[], none, 0, 0, false, none, 0, 0⟩
  d := _
  len := fun _ => rfl
  pos := by omega
  one := by intro x u hu; simp [encS] at hu; rcases hu with rfl | rfl | rfl | rfl <;> rfl
  undS := Tryz.underlying24
  undT := Tryz.underlying36
  isRow := rfl
  info := by kernel_rfl
  size := by kernel_rfl
  zero := fun w => by kernel_rfl
  small := by omega
  smallN := by omega
def smV (x : Sm) : Value := .agg #[.string (strB x.word), .slice x.nA x.nn x.nc, .bool x.block, .slice x.bA x.bn x.bc]
theorem nm_sm : nmS.T ≠ smS.T := by show 57 ≠ 36; decide
theorem sm_nm : smS.T ≠ nmS.T := by show 36 ≠ 57; decide

/-! ### A shape of which there is no slice -/
structure Sv (P : Program) (α : Type) where
  enc : α → List Value
  N : Nat
  T : TypeId
  z : α
  d : TypeDesc
  len : ∀ x, (enc x).length = N
  pos : 0 < N
  one : ∀ x, ∀ u ∈ enc x, u.oneCell' = true
  undT : P.underlying T = some d
  isRow : d.isRow = true
  size : (P.info? T).map (·.size) = some N
  zero : ∀ w, (zeroValue T).run P w = .ok (.agg (enc z).toArray) w
namespace Sv
variable {P : Program} {α : Type} (σ : Sv P α)
def val (x : α) : Value := .agg (σ.enc x).toArray
def Var (w : World) (g : Nat) (x : α) : Prop := w.rangeAt g 0 (σ.enc x) ∧ w.there g 0 σ.N
section
variable {σ} {w w' : World} {g : Nat} {x : α}
theorem Var.below (h : σ.Var w g x) {B : Nat} (hk : Below B w w') (hb : g < B) : σ.Var w' g x := ⟨range_keep h.1 hb hk, there_keep h.2 hb hk⟩
theorem Var.lt (h : σ.Var w g x) : g < w.heap.size := by
  have h0 := (h.2 0 σ.pos).1
  obtain ⟨u, hu⟩ := Option.isSome_iff_exists.1 h0
  exact World.block_lt_of_cell? w _ hu
theorem Var.keep (h : σ.Var w g x) (hk : Below w.heap.size w w') : σ.Var w' g x := h.below hk h.lt
theorem Var.cell (h : σ.Var w g x) {j : Nat} {v : Value} (hj : (σ.enc x)[j]? = some v) : w.cell? ⟨g, j, none⟩ = some v := by
  have := h.1 j v hj; rwa [Nat.zero_add] at this
theorem Var.free (h : σ.Var w g x) {j : Nat} (hj : j < σ.N) : w.frozen? ⟨g, j, none⟩ = false := by
  have := (h.2 j hj).2; rwa [Nat.zero_add] at this
end
section
variable {w : World} {g : Nat} {x : α} {ops : Array Oper} {rest : List Oper} {o : Oper} {a : Act} {Q : Exit → Act → World → Prop}
theorem var_new (w : World) (x : α) (t : TypeId) : σ.Var (w.alloc (.cells (σ.enc x).toArray t)) w.heap.size x := ⟨range_new w _ t, by have := there_new w (σ.enc x) t; rwa [σ.len] at this⟩
theorem var_stored {g : Nat} (ht : w.there g 0 σ.N) (x : α) : σ.Var (w.setCells g 0 (σ.enc x)) g x := ⟨World.rangeAt_setCells_same w g 0 (σ.enc x) (by rw [σ.len]; exact ht), World.there_setCells ht g 0 _⟩
theorem wp_al (hg : o.guard = none) (ho : o.op = .alloc σ.T)
    (h : ∀ w', σ.Var w' w.heap.size σ.z → Below w.heap.size w w' → Hid (w'.heap.size = w.heap.size + 1) → wpList P ops Q rest (a.put o.dst (.pointer (some ⟨w.heap.size, 0, none⟩))) w') : wpList P ops Q (o :: rest) a w := by
  refine wpList_plain hg fun K hK => ?_
  unfold Oper.wp execOp
  simp only [ho, Sem.run_bind, Instr.alloc, σ.zero, newVar, newRow, run_newObj_alloc, Sem.run_pure, Result.andThen_ok]
  exact hK _ _ (h _ (var_new σ w σ.z σ.T) ((Below.refl _ _).alloc (Nat.le_refl _) _) (hid (by simp)))
theorem wp_ld (hw : Region.wanted o (yielded ops a.tmps) = true) (e : Operand) (ho : o.op = .load σ.T e) {b off : Nat} (hx : a.eval e = .pointer (some ⟨b, off, none⟩)) (hv : w.rangeAt b off (σ.enc x))
    (h : wpList P ops Q rest (a.put o.dst (σ.val x)) w) : wpList P ops Q (o :: rest) a w :=
  wpList_step fun _ hK => by rw [if_pos hw]; exact wp_load_mid σ.T e ho b off hx (σ.enc x) _ hv σ.undT σ.isRow (by rw [σ.size, σ.len]) (hK _ _ h)
theorem wp_sv (hg : o.guard = none) (e y : Operand) (ho : o.op = .store σ.T e y) {p : α} (hx : a.eval e = .pointer (some ⟨g, 0, none⟩)) (hy : a.eval y = σ.val x) (hv : σ.Var w g p)
    (h : ∀ w', σ.Var w' g x → Below g w w' → Oth g w w' → Hid (w'.heap.size = w.heap.size) → wpList P ops Q rest (a.put o.dst undef) w') : wpList P ops Q (o :: rest) a w :=
  wpList_store_mid hg σ.T e y ho g 0 (σ.enc x).toArray hx hy (by have := hv.2; simpa [σ.len] using this) (by rw [σ.size]; simp [σ.len]) (all_oneCell_toArray (σ.one x)) (h _ (var_stored σ hv.2 x) (setCells_oth g _ _ _).1 (setCells_oth g _ _ _).2 (hid (setCells_size _ _ _ _)))
end
end Sv
/-- a number's token -/
def ntS : Sv Tryz.prog (Int × Bool) where
  enc := encN
  N := 2
  T := 139
  z := (0, false)
  d := _
  len := fun _ => rfl
  pos := by omega
  one := by intro x u hu; simp [encN] at hu; rcases hu with rfl | rfl <;> rfl
  undT := Tryz.underlying139
  isRow := rfl
  size := by kernel_rfl
  zero := fun w => by kernel_rfl

/-- A slice of n things at A reads as xs, and lies in a block of which P holds. -/
def RwP {Q : Program} {α : Type} (σ : Sh Q α) (w : World) (P : Nat → Prop) (A : Option Addr) (n : Nat) (xs : List α) : Prop :=
  xs.length = n ∧ (0 < n → ∃ b o, A = some ⟨b, o, none⟩ ∧ P b ∧ ∀ j u, (σ.flat xs)[j]? = some u → w.cell? ⟨b, o + j, none⟩ = some u)
section
variable {Q : Program} {α : Type} {σ : Sh Q α} {w w' : World} {P P' : Nat → Prop} {A : Option Addr} {n c base B : Nat} {xs : List α}
theorem RwP.nil : RwP σ w P A 0 [] := ⟨rfl, fun h => absurd h (by omega)⟩
theorem RwP.mono (h : RwP σ w P A n xs) (hP : ∀ b, P b → b < w.heap.size → P' b) : RwP σ w P' A n xs := ⟨h.1, fun hn => by
  obtain ⟨b, o, e, hb, hc⟩ := h.2 hn
  refine ⟨b, o, e, hP b hb ?_, hc⟩
  obtain ⟨x, xs', rfl⟩ : ∃ x xs', xs = x :: xs' := by
    cases xs with
    | nil => have := h.1; simp at this; omega
    | cons x xs' => exact ⟨x, xs', rfl⟩
  obtain ⟨u, us, hu⟩ : ∃ u us, σ.enc x = u :: us := by
    cases he : σ.enc x with
    | nil => have := σ.len x; rw [he] at this; have := σ.pos; simp at *; omega
    | cons u us => exact ⟨u, us, rfl⟩
  exact World.block_lt_of_cell? w _ (hc 0 u (by rw [Sh.flat_cons, hu]; rfl))⟩
theorem RwP.keep (h : RwP σ w P A n xs) (hk : ∀ b, P b → b < w.heap.size → w'.heap[b]? = w.heap[b]?) : RwP σ w' P A n xs := ⟨h.1, fun hn => by
  obtain ⟨b, o, e, hb, hc⟩ := h.2 hn
  obtain ⟨b', o', e', hb', _⟩ := (h.mono (P' := fun b => P b ∧ b < w.heap.size) (fun b h1 h2 => ⟨h1, h2⟩)).2 hn
  obtain ⟨rfl, rfl⟩ : b = b' ∧ o = o' := by
    rw [e] at e'; injection e' with e'; injection e' with e1 e2; exact ⟨e1, e2⟩
  exact ⟨b, o, e, hb, fun j u hu => (World.cell?_of_block (a := ⟨b, o + j, none⟩) (hk b hb hb'.2)).trans (hc j u hu)⟩⟩
theorem RwP.row (h : RwP σ w P A n xs) (hP : ∀ b, P b → b < B) : σ.Rw w B A n xs := ⟨h.1, fun hn => by
  obtain ⟨b, o, e, hb, hc⟩ := h.2 hn
  exact ⟨b, o, e, hP b hb, hc⟩⟩
theorem RwP.size (h : RwP σ w P A n xs) : σ.Rw w w.heap.size A n xs := (h.mono (P' := fun b => b < w.heap.size) (fun _ _ h => h)).row fun _ h => h
theorem _root_.Go.Proofs.YtpkoboohnbkpoaaGreatDoor.Sh.Ow.rowP (h : σ.Ow w base A n c xs) : RwP σ w (fun k => base ≤ k ∧ k < w.heap.size ∧ some k = Value.ownBlock (.slice A n c)) A n xs := by
  refine ⟨h.len, fun hn => ?_⟩
  rcases h.2 with ⟨_, h0⟩ | ⟨g, cap, cur, hv, hb, hg, _⟩
  · omega
  · have hA : A = some ⟨g, 0, none⟩ := by injection hv
    subst hA
    refine ⟨g, 0, rfl, ⟨hb, (Array.getElem?_eq_some_iff.1 hg).1, rfl⟩, fun j u hu => ?_⟩
    have := h.cells (g := g) rfl j u hu
    rwa [plain_add] at this
end

/-- A forest in memory: what the statements' cells tell of, in blocks of which P holds. -/
def Tr (w : World) (P : Nat → Prop) : Fo → List Sm → Prop
  | .nil, xs => xs = []
  | .cons wd ns bl y nx, xs => ∃ x xs', xs = x :: xs' ∧ x.word = wd ∧ x.block = bl ∧ RwP nmS w P x.nA x.nn ns ∧ (∃ ys, RwP smS w P x.bA x.bn ys ∧ Tr w P y ys) ∧ Tr w P nx xs'
/-- A slice that reads as a forest. -/
def TrS (w : World) (P : Nat → Prop) (A : Option Addr) (n : Nat) (f : Fo) : Prop := ∃ xs, RwP smS w P A n xs ∧ Tr w P f xs
section
variable {w w' : World} {P P' : Nat → Prop} {A : Option Addr} {n c base g : Nat} {f : Fo} {xs : List Sm}
theorem Tr.mono (hP : ∀ b, P b → b < w.heap.size → P' b) : ∀ {f : Fo} {xs : List Sm}, Tr w P f xs → Tr w P' f xs
  | .nil, _, h => h
  | .cons _ _ _ _ _, _, ⟨x, xs', e, h1, h2, h3, ⟨ys, h4, h5⟩, h6⟩ => ⟨x, xs', e, h1, h2, h3.mono hP, ⟨ys, h4.mono hP, Tr.mono hP h5⟩, Tr.mono hP h6⟩
theorem Tr.keep (hk : ∀ b, P b → b < w.heap.size → w'.heap[b]? = w.heap[b]?) : ∀ {f : Fo} {xs : List Sm}, Tr w P f xs → Tr w' P f xs
  | .nil, _, h => h
  | .cons _ _ _ _ _, _, ⟨x, xs', e, h1, h2, h3, ⟨ys, h4, h5⟩, h6⟩ => ⟨x, xs', e, h1, h2, h3.keep hk, ⟨ys, h4.keep hk, Tr.keep hk h5⟩, Tr.keep hk h6⟩
theorem Tr.app : ∀ {f : Fo} {xs : List Sm} {h : Fo} {zs : List Sm}, Tr w P f xs → Tr w P h zs → Tr w P (f.app h) (xs ++ zs)
  | .nil, _, _, _, rfl, h2 => h2
  | .cons _ _ _ _ _, _, _, _, ⟨x, xs', rfl, h1, h2, h3, h4, h6⟩, h7 => ⟨x, _, rfl, h1, h2, h3, h4, Tr.app h6 h7⟩
theorem Tr.len : ∀ {f : Fo} {xs : List Sm}, Tr w P f xs → xs.length = f.len
  | .nil, _, rfl => rfl
  | .cons _ _ _ _ _, _, ⟨x, xs', rfl, _, _, _, _, h6⟩ => by rw [List.length_cons, Tr.len h6]; rfl
theorem TrS.mono (h : TrS w P A n f) (hP : ∀ b, P b → b < w.heap.size → P' b) : TrS w P' A n f := ⟨h.choose, h.choose_spec.1.mono hP, h.choose_spec.2.mono hP⟩
theorem TrS.keep (h : TrS w P A n f) (hk : ∀ b, P b → b < w.heap.size → w'.heap[b]? = w.heap[b]?) : TrS w' P A n f := ⟨h.choose, h.choose_spec.1.keep hk, h.choose_spec.2.keep hk⟩
theorem TrS.len (h : TrS w P A n f) : n = f.len := by obtain ⟨xs, h1, h2⟩ := h; rw [← h2.len, h1.1]
theorem TrS.nil : TrS w P A 0 .nil := ⟨[], RwP.nil, rfl⟩

/-- Statements under construction: a slice of the call's own, what it tells of in other blocks of the call's own. -/
structure Lo (w : World) (base : Nat) (A : Option Addr) (n c : Nat) (f : Fo) (xs : List Sm) : Prop where
  ow : smS.Ow w base A n c xs
  tr : Tr w (fun k => base ≤ k ∧ k < w.heap.size ∧ some k ≠ Value.ownBlock (.slice A n c)) f xs
theorem Lo.nil (w : World) (base : Nat) : Lo w base none 0 0 .nil [] := ⟨Sh.Ow.nil _ _, rfl⟩
theorem Lo.keep (h : Lo w base A n c f xs) (hb : ∀ k, base ≤ k → k < w.heap.size → w'.heap[k]? = w.heap[k]?) (_ : w.heap.size ≤ w'.heap.size) : Lo w' base A n c f xs := by
  refine ⟨⟨h.ow.1, ?_⟩, (h.tr.keep fun b hP hb' => hb b hP.1 hb').mono fun b hP _ => ⟨hP.1, by omega, hP.2.2⟩⟩
  rcases h.ow.2 with h0 | ⟨g, cap, cur, hv, hg, hh, r⟩
  · exact .inl h0
  · exact .inr ⟨g, cap, cur, hv, hg, (hb g hg (Array.getElem?_eq_some_iff.1 hh).1).trans hh, r⟩
theorem Lo.below (h : Lo w base A n c f xs) (hb : Below w.heap.size w w') : Lo w' base A n c f xs := h.keep (fun k _ h2 => hb.block k h2) hb.size
theorem Lo.len (h : Lo w base A n c f xs) : n = f.len := by rw [← h.tr.len, h.ow.len]
theorem Lo.tree (h : Lo w base A n c f xs) : TrS w (fun k => base ≤ k ∧ k < w.heap.size) A n f :=
  ⟨xs, h.ow.rowP.mono fun _ h _ => ⟨h.1, h.2.1⟩, h.tr.mono fun _ h _ => ⟨h.1, h.2.1⟩⟩
theorem own_lt {A : Option Addr} (h : smS.Ow w base A n c xs) (k : Nat) (hk : Value.ownBlock (.slice A n c) = some k) : base ≤ k ∧ k < w.heap.size := World.ownsRow.lt h k hk
/-- One more at the end. -/
theorem Lo.push {w0 : World} {x : Sm} {h : Fo} {A' : Option Addr} {n' c' : Nat} (hl : Lo w base A n c f xs) (h0 : Value.ownBlock (.slice A n c) = none ∨ ∃ k, Value.ownBlock (.slice A n c) = some k ∧ k < w0.heap.size) (hbase : base ≤ w0.heap.size) (hx : Tr w (fun k => w0.heap.size ≤ k ∧ k < w.heap.size) h [x])
    (ow : smS.Ow w' base A' n' c' (xs ++ [x])) (hg : w.grownBy w' (Value.ownBlock (.slice A n c))) (hl2 : Value.ownBlock (.slice A' n' c') = Value.ownBlock (.slice A n c) ∨ Value.ownBlock (.slice A' n' c') = some w.heap.size) : Lo w' base A' n' c' (f.app h) (xs ++ [x]) := by
  have hx2 : Tr w (fun k => base ≤ k ∧ k < w.heap.size ∧ some k ≠ Value.ownBlock (.slice A n c)) h [x] := hx.mono fun b hb _ => ⟨by omega, hb.2, fun e => by
    rcases h0 with h0 | ⟨k, h0, hk⟩
    · rw [h0] at e; cases e
    · rw [h0] at e; cases e; have := hb.1; omega⟩
  have h1 := hl.tr.app hx2
  refine ⟨ow, (h1.keep fun b hb hs => hg.block b hs hb.2.2).mono fun b hb _ => ⟨hb.1, Nat.lt_of_lt_of_le hb.2.1 hg.size, ?_⟩⟩
  rcases hl2 with e | e
  · rw [e]; exact hb.2.2
  · rw [e]; intro e2; cases e2; have := hb.2.1; omega

/-- Of what was there at w only block g may have turned. -/
structure Mov (g : Nat) (w w' : World) : Prop where
  bl : Below g w w'
  up : ∀ k, g < k → k < w.heap.size → w'.heap[k]? = w.heap[k]?
theorem Mov.refl (g : Nat) (w : World) : Mov g w w := ⟨Below.refl _ _, fun _ _ _ => rfl⟩
theorem Mov.trans {w1 w2 : World} (h : Mov g w w1) (h2 : Mov g w1 w2) : Mov g w w2 := ⟨h.bl.trans h2.bl, fun k hk hs => (h2.up k hk (Nat.lt_of_lt_of_le hs h.bl.size)).trans (h.up k hk hs)⟩
theorem Mov.of (h : Below w.heap.size w w') (hg : g ≤ w.heap.size) : Mov g w w' := ⟨h.mono hg, fun k _ hs => h.block k hs⟩
theorem Mov.then {w1 w2 : World} (h : Mov g w w1) (h2 : Below w1.heap.size w1 w2) (hg : g ≤ w.heap.size) : Mov g w w2 := h.trans (.of h2 (Nat.le_trans hg h.bl.size))
/-- What was made since may turn, too. -/
theorem Mov.since {w1 w2 : World} (h : Mov g w w1) (h2 : Below w.heap.size w1 w2) (hg : g ≤ w.heap.size) : Mov g w w2 := ⟨h.bl.trans (h2.mono hg), fun k hk hs => (h2.block k hs).trans (h.up k hk hs)⟩
theorem Mov.oth (hb : Below g w w') (ho : Oth g w w') : Mov g w w' := ⟨hb, fun k hk _ => ho k (by omega)⟩
theorem _root_.Go.Proofs.YtpkoboohnbkpoaaGreatDoor.Sh.Ow.mov {Q : Program} {α : Type} {σ : Sh Q α} {ys : List α} (h : σ.Ow w base A n c ys) (hm : Mov g w w') (hg : g < base) : σ.Ow w' base A n c ys := by
  refine ⟨h.1, ?_⟩
  rcases h.2 with h0 | ⟨j, cap, cur, hv, hj, hh, r⟩
  · exact .inl h0
  · exact .inr ⟨j, cap, cur, hv, hj, (hm.up j (by omega) (Array.getElem?_eq_some_iff.1 hh).1).trans hh, r⟩
theorem Mov.size {w1 : World} (h : Mov g w w1) : w.heap.size ≤ w1.heap.size := h.bl.size
theorem Lo.mov (h : Lo w base A n c f xs) (hm : Mov g w w') (hg : g < base) : Lo w' base A n c f xs := h.keep (fun k h1 h2 => hm.up k (by omega) h2) hm.size
theorem Tr.mov (h : Tr w P f xs) (hm : Mov g w w') (hg : ∀ b, P b → g < b) : Tr w' P f xs := h.keep fun b hb hs => hm.up b (hg b hb) hs
theorem TrS.mov (h : TrS w P A n f) (hm : Mov g w w') (hg : ∀ b, P b → g < b) : TrS w' P A n f := h.keep fun b hb hs => hm.up b (hg b hb) hs
end

/-! ### Tokens, each of its type, and a reader of them -/
def tyV (t : Tk) : Value := if t.kind = 1 then .iface 138 (.string (strB t.s)) else if t.kind = 2 then .iface 139 (.agg #[.int .i64 t.n, .bool t.time]) else .iface 140 (.string (strB t.s))
def endV : Value := .iface 142 (.agg #[])
def nowV : List Tk → Value
  | [] => endV
  | t :: _ => tyV t
def rowV (ts : List Tk) : List Value := ts.map tyV ++ [endV]
theorem row_at (pre rest : List Tk) : (rowV (pre ++ rest))[pre.length]? = some (nowV rest) := by
  unfold rowV
  rw [List.map_append, List.append_assoc, List.getElem?_append_right (by simp)]
  cases rest <;> simp [nowV]
/-- Block g is a reader of the tokens in block b, at which so many are behind. -/
structure Rd (w : World) (g b c : Nat) (pre rest : List Tk) (many : Nat) : Prop where
  cells : w.rangeAt g 0 [.slice (some ⟨b, 0, none⟩) (pre.length + rest.length + 1) c, .int .i64 pre.length, .int .i64 many]
  there : w.there g 0 3
  row : w.rangeAt b 0 (rowV (pre ++ rest))
  ne : b ≠ g
  le : pre.length + rest.length ≤ 1000000
  le2 : many ≤ 2000
  kd : ∀ t ∈ pre ++ rest, t.kind = 1 ∨ t.kind = 2 ∨ t.kind = 3
section
variable {w w' : World} {g b c many : Nat} {pre rest : List Tk}
theorem Rd.lt (h : Rd w g b c pre rest many) : g < w.heap.size := World.block_lt_of_cell? w _ (h.cells 1 _ rfl)
theorem Rd.ltb (h : Rd w g b c pre rest many) : b < w.heap.size := World.block_lt_of_cell? w _ (h.row _ _ (row_at pre rest))
theorem Rd.below (h : Rd w g b c pre rest many) (hb : Below w.heap.size w w') : Rd w' g b c pre rest many :=
  ⟨range_keep h.cells h.lt hb, there_keep h.there h.lt hb, range_keep h.row h.ltb hb, h.ne, h.le, h.le2, h.kd⟩
theorem Rd.over (h : Rd w g b c pre rest many) {B : Nat} (hb : Below B w w') (hg : g < B) (h2 : b < B) : Rd w' g b c pre rest many :=
  ⟨range_keep h.cells hg hb, there_keep h.there hg hb, range_keep h.row h2 hb, h.ne, h.le, h.le2, h.kd⟩
theorem Rd.free (h : Rd w g b c pre rest many) {j : Nat} (hj : j < 3) : w.frozen? ⟨g, j, none⟩ = false := by
  have := (h.there j hj).2; rwa [Nat.zero_add] at this
theorem Rd.sign {t : Tk} {r : List Tk} (h : Rd w g b c pre (t :: r) many) (h1 : ¬ t.kind = 1) (h2 : ¬ t.kind = 2) : t.kind = 3 := by
  rcases h.kd t (by simp) with h3 | h3 | h3
  · exact absurd h3 h1
  · exact absurd h3 h2
  · exact h3
theorem Rd.drew (h : Rd w g b c pre rest many) : Rd w.drew g b c pre rest many := h.below ((Below.refl _ _).drew)
theorem Rd.c0 (h : Rd w g b c pre rest many) : w.cell? ⟨g, 0, none⟩ = some (.slice (some ⟨b, 0, none⟩) (pre.length + rest.length + 1) c) := h.cells 0 _ rfl
theorem Rd.c1 (h : Rd w g b c pre rest many) : w.cell? ⟨g, 1, none⟩ = some (.int .i64 pre.length) := h.cells 1 _ rfl
theorem Rd.c2 (h : Rd w g b c pre rest many) : w.cell? ⟨g, 2, none⟩ = some (.int .i64 many) := h.cells 2 _ rfl
theorem Rd.now (h : Rd w g b c pre rest many) : w.cell? ⟨b, pre.length, none⟩ = some (nowV rest) := by
  have := h.row _ _ (row_at pre rest); rwa [Nat.zero_add] at this
/-- One field set. -/
theorem Rd.at1 {t : Tk} {r : List Tk} (h : Rd w g b c pre (t :: r) many) {z : Int} (hz : z = (pre.length : Int) + 1) : Rd (w.setCell ⟨g, 1, none⟩ (.int .i64 z)) g b c (pre ++ [t]) r many ∧ Mov g w (w.setCell ⟨g, 1, none⟩ (.int .i64 z)) := by
  obtain rfl : z = (pre.length + 1 : Nat) := by omega
  have hs := setCells_oth g [.int .i64 (pre.length + 1 : Nat)] 1 w
  have hm : Mov g w (w.setCell ⟨g, 1, none⟩ (.int .i64 (pre.length + 1 : Nat))) := .oth hs.1 hs.2
  refine ⟨⟨?_, World.there_setCells h.there g 1 [_], ?_, h.ne, by have := h.le; simp at *; omega, h.le2, by simpa using h.kd⟩, hm⟩
  · have h0 : w.rangeAt g 0 [.slice (some ⟨b, 0, none⟩) (pre.length + (t :: r).length + 1) c] := fun j v hj => by
      obtain rfl : j = 0 := by have := (List.getElem?_eq_some_iff.1 hj).1; simp at this; exact this
      exact h.cells 0 v hj
    have h2 : w.rangeAt g 2 [.int .i64 many] := fun j v hj => by
      obtain rfl : j = 0 := by have := (List.getElem?_eq_some_iff.1 hj).1; simp at this; exact this
      exact h.cells 2 v hj
    have a0 := World.rangeAt_setCells_apart h0 g 1 [.int .i64 (pre.length + 1 : Nat)] (.inr (.inl (by simp)))
    have a2 := World.rangeAt_setCells_apart h2 g 1 [.int .i64 (pre.length + 1 : Nat)] (.inr (.inr (by simp)))
    have a1 := World.rangeAt_setCells_same w g 1 [.int .i64 (pre.length + 1 : Nat)] (fun j hj => by
      obtain rfl : j = 0 := by simp at hj; exact hj
      exact h.there 1 (by omega))
    have e1 : (pre ++ [t]).length + r.length + 1 = pre.length + (t :: r).length + 1 := by simp; omega
    have e2 : (pre ++ [t]).length = pre.length + 1 := by simp
    rw [e1, e2]
    intro j v hj
    match j, hj with
    | 0, hj => exact a0 0 v hj
    | 1, hj => exact a1 0 v hj
    | 2, hj => exact a2 0 v hj
  · have := range_other h.row h.ne hs.2
    rwa [List.append_assoc, List.singleton_append]
theorem Rd.many1 (h : Rd w g b c pre rest many) (hm : many < 2000) {z : Int} (hz : z = (many : Int) + 1) : Rd (w.setCell ⟨g, 2, none⟩ (.int .i64 z)) g b c pre rest (many + 1) ∧ Mov g w (w.setCell ⟨g, 2, none⟩ (.int .i64 z)) := by
  obtain rfl : z = (many + 1 : Nat) := by omega
  have hs := setCells_oth g [.int .i64 (many + 1 : Nat)] 2 w
  have hm : Mov g w (w.setCell ⟨g, 2, none⟩ (.int .i64 (many + 1 : Nat))) := .oth hs.1 hs.2
  refine ⟨⟨?_, World.there_setCells h.there g 2 [_], range_other h.row h.ne hs.2, h.ne, h.le, by omega, h.kd⟩, hm⟩
  have h0 : w.rangeAt g 0 [.slice (some ⟨b, 0, none⟩) (pre.length + rest.length + 1) c, .int .i64 pre.length] := fun j v hj => by
    match j, hj with
    | 0, hj => exact h.cells 0 v hj
    | 1, hj => exact h.cells 1 v hj
  have a0 := World.rangeAt_setCells_apart h0 g 2 [.int .i64 (many + 1 : Nat)] (.inr (.inl (by simp)))
  have a2 := World.rangeAt_setCells_same w g 2 [.int .i64 (many + 1 : Nat)] (fun j hj => by
    obtain rfl : j = 0 := by simp at hj; exact hj
    exact h.there 2 (by omega))
  intro j v hj
  match j, hj with
  | 0, hj => exact a0 0 v hj
  | 1, hj => exact a0 1 v hj
  | 2, hj => exact a2 0 v hj
end
end Go.Proofs.YtpkoboohnbkpoaaGreatDoor

/-! LB -/
namespace Go.Proofs.YtpkoboohnbkpoaaGreatDoor
open Go Go.RowKit

def wordP : List UInt8 → Bool
  | [] => true
  | c :: r => letB c && r.all ldB
theorem wordB_eq (l : List UInt8) : wordB l = (decide (l ≠ []) && (wordP l && decide (l.length ≤ 16))) := by
  cases l with
  | nil => rfl
  | cons c r => simp only [wordB, wordP, List.length_cons]; simp [Bool.and_assoc]
theorem let_rune (c : UInt8) (r : List UInt8) : (decide (97 ≤ (dec (c :: r)).1) && decide ((dec (c :: r)).1 ≤ 122)) = letB c := by
  by_cases h : c.toNat < 128
  · rw [dec_ascii c r h]; rfl
  · have := dec_high c r (by omega)
    unfold letB
    rw [Bool.eq_iff_iff]; simp; omega
theorem dig_rune (c : UInt8) (r : List UInt8) : (decide (48 ≤ (dec (c :: r)).1) && decide ((dec (c :: r)).1 ≤ 57)) = digB c := by
  by_cases h : c.toNat < 128
  · rw [dec_ascii c r h]; rfl
  · have := dec_high c r (by omega)
    unfold digB
    rw [Bool.eq_iff_iff]; simp; omega
theorem ld_width {c : UInt8} (r : List UInt8) (h : ldB c = true) : (dec (c :: r)).2 = 1 := by rw [dec_ascii c r (ld_ascii h).1]
theorem drop_cons {l : List UInt8} {k : Nat} (h : k < l.length) : ∃ c r, l.drop k = c :: r ∧ l.take (k + 1) = l.take k ++ [c] := by
  refine ⟨l[k], l.drop (k + 1), List.drop_eq_getElem_cons h, ?_⟩
  rw [List.take_succ_eq_append_getElem h]
theorem wordP_snoc (l : List UInt8) (c : UInt8) : wordP (l ++ [c]) = (wordP l && (letB c || (decide (l ≠ []) && digB c))) := by
  cases l with
  | nil => simp [wordP]
  | cons d r => simp [wordP, ldB, Bool.and_assoc]
theorem wordP_take {l : List UInt8} (k : Nat) (h : wordP (l.take k) = false) : wordP l = false := by
  rw [← List.take_append_drop k l]
  generalize l.take k = a at *
  cases a with
  | nil => cases h
  | cons d r =>
    simp only [wordP, List.cons_append, List.all_append, Bool.and_eq_false_iff] at h ⊢
    rcases h with h | h
    · exact .inl h
    · exact .inr (.inl h)
theorem ne_size (l : List UInt8) (k : Nat) (h : k ≤ l.length) : decide (l.take k ≠ []) = !decide ((k : Int) = 0) := by
  cases k with
  | zero => simp
  | succ k =>
    cases l with
    | nil => simp at h
    | cons c r => simp; omega

def WordPost (s : ByteArray) (w : World) (e : Ending) (w' : World) : Prop := e = .returned (.bool (wordB s.data.toList)) ∧ Below w.heap.size w w'
theorem below_iter (w : World) (s : ByteArray) (pos : Nat) : Below w.heap.size w (w.iter s pos) := (Below.refl _ _).alloc (Nat.le_refl _) _

set_option maxRecDepth 100000 in
theorem word_any (s : ByteArray) (w : World) (hs : s.size ≤ 4611686018427387904) : Calls Tryz.prog 123 #[.string s] w (WordPost s w) := by
  go_enter Tryz.func123, Tryz.ntmps123
  go_wp2
  go_loopw [] (fun wr => ∃ pos : Nat, wr = w.iter s pos ∧ pos ≤ s.size ∧ wordP (s.data.toList.take pos) = true) (fun wr => s.size - wr.iterPos w.heap.size)
  case atStart => exact ⟨0, rfl, Nat.zero_le _, rfl⟩
  case round =>
    obtain ⟨pos, rfl, hp, hw⟩ := hrel
    by_cases hlt : pos < s.size
    · obtain ⟨c, r, hd, ht⟩ := drop_cons (l := s.data.toList) (k := pos) (by simpa using hlt)
      have h1 := let_rune c r
      have h2 := dig_rune c r
      have h3 := ld_width (c := c) r
      have h4 := dec_top (c :: r)
      have hne := ne_size s.data.toList pos (by simpa using hp)
      have hsn := wordP_snoc (s.data.toList.take pos) c
      rw [← ht, hw, hne, Bool.true_and] at hsn
      have hnx : ∀ ty, (Instr.next (.pointer (some ⟨w.heap.size, 0, none⟩)) true ty).run Tryz.prog (w.iter s pos) = _ := fun ty => run_next_any w s pos ty hlt
      rw [dec_of, hd] at hnx
      generalize (dec (c :: r)).1 = x at *
      generalize (dec (c :: r)).2 = n at *
      have HL : ∀ w, Calls Tryz.prog 125 #[.int .i32 x] w fun e w' => e = .returned (.bool (letB c)) ∧ w' = w := fun w => by have := letter_any x w; rwa [h1] at this
      have HD : ∀ w, Calls Tryz.prog 126 #[.int .i32 x] w fun e w' => e = .returned (.bool (digB c)) ∧ w' = w := fun w => by have := digit_any x w; rwa [h2] at this
      have HL := hid HL
      have HD := hid HD
      have HS := hid hsn
      have HT := hid (show wordP (s.data.toList.take (pos + 1)) = false → wordB s.data.toList = false from fun h => by rw [wordB_eq, wordP_take _ h]; simp)
      have HN := hid (show letB c = true ∨ digB c = true → n = 1 from fun h => h3 (by unfold ldB; rcases h with h | h <;> simp [h]))
      clear h1 h2 h3 hne hsn hd ht hw
      by_cases hl : letB c = true
      · have hn := HN.out (.inl hl)
        subst hn
        rw [hl] at HL HS
        have hok : Hid (wordP (s.data.toList.take (pos + 1)) = true) := hid (by rw [HS.out]; simp)
        clear HN HT HD HS
        go_wp2_with (first | (go_at_call 125; refine (HL.out _).mono ?_; rintro e w' ⟨rfl, rfl⟩))
        go_roundw
        case rel => exact ⟨pos + 1, rfl, by omega, hok.out⟩
        case measure => simp; omega
      · have hl : letB c = false := by simpa using hl
        rw [hl] at HL HS
        by_cases h0 : (pos : Int) = 0
        · have hok : Hid (wordB s.data.toList = false) := hid (HT.out (by rw [HS.out]; simp [h0]))
          obtain rfl : pos = 0 := by omega
          clear HN HT HD HS
          go_wp2_with (first | (go_at_call 125; refine (HL.out _).mono ?_; rintro e w' ⟨rfl, rfl⟩))
          go_ret
          exact ⟨ret_bool hok.out.symm, below_iter _ _ _⟩
        · by_cases hdg : digB c = true
          · have hn := HN.out (.inr hdg)
            subst hn
            rw [hdg] at HD HS
            have hok : Hid (wordP (s.data.toList.take (pos + 1)) = true) := hid (by rw [HS.out, decide_eq_false h0]; rfl)
            clear HN HT HS
            go_wp2_with (first | (go_at_call 125; refine (HL.out _).mono ?_; rintro e w' ⟨rfl, rfl⟩) | (go_at_call 126; refine (HD.out _).mono ?_; rintro e w' ⟨rfl, rfl⟩))
            go_roundw
            case rel => exact ⟨pos + 1, rfl, by omega, hok.out⟩
            case measure => simp; omega
          · have hdg : digB c = false := by simpa using hdg
            rw [hdg] at HD HS
            have hok : Hid (wordB s.data.toList = false) := hid (HT.out (by rw [HS.out]; simp))
            clear HN HT HS
            go_wp2_with (first | (go_at_call 125; refine (HL.out _).mono ?_; rintro e w' ⟨rfl, rfl⟩) | (go_at_call 126; refine (HD.out _).mono ?_; rintro e w' ⟨rfl, rfl⟩))
            go_ret
            exact ⟨ret_bool hok.out.symm, below_iter _ _ _⟩
    · have hnx : ∀ ty, (Instr.next (.pointer (some ⟨w.heap.size, 0, none⟩)) true ty).run Tryz.prog (w.iter s pos) = _ := fun ty => run_next_end w s pos ty hlt
      have HE : Hid (wordB s.data.toList = (decide (s.data.toList ≠ []) && decide (s.size ≤ 16))) := hid (by
        rw [List.take_of_length_le (by simp; omega)] at hw
        rw [wordB_eq, hw, Bool.true_and]
        rfl)
      clear hw
      go_wp2
      · rename_i h
        rw [ByteArray.toList_eq] at h
        go_ret
        exact ⟨ret_bool (by rw [HE.out, h]; rfl), below_iter _ _ _⟩
      · rename_i h
        rw [ByteArray.toList_eq] at h
        go_ret
        refine ⟨ret_bool ?_, below_iter _ _ _⟩
        rw [HE.out, ByteArray.toList_eq]
        congr 1
        · rw [decide_eq_true h]
          cases hh : s.data.toList with
          | nil => exact absurd hh h
          | cons _ _ => rfl
        · exact decide_eq_decide.2 (by omega)
end Go.Proofs.YtpkoboohnbkpoaaGreatDoor
