/-
  PM: Words for memory of the parser: numbers and statements in memory (nmS, smS), a slice that lies in blocks of which P holds (RwP), a forest in memory (Tr, TrS), one under construction (Lo), a reader (Rd), and a call that touches the reader alone (Mov). No condition but what each head says.
  PN: Contracts of the reader's now, wrong and numbers, at every reader of at most a million tokens.
  PO: The contract of the reader's numbers, at every reader of at most a million tokens.
  PQ: The contract of the reader's block, given what its list tells, at every reader of at most a million tokens.
  PR: The contract of the reader's statement, given what its list tells, at every reader of at most a million tokens.
  PS: The contract of the reader's statement, continued: what follows a word and its numbers is a sign; and the whole, given what its list tells.
-/
import Derived.Test.YtkfnkieljcipnaaGreatDoorK1
import Derived.Test.YtkfnkieljcipnaaGreatDoorK4
import Derived.Deep.RegionHeld3
import Derived.BigQuiet
/-! PM -/
namespace Go.Proofs.YtkfnkieljcipnaaGreatDoor
open Go Go.RowKit

def encN (x : Int × Bool) : List Value := [.int .i64 x.1, .bool x.2]
def nmS : Sh Tryz.prog (Int × Bool) where
  enc := encN
  N := 2
  T := 38
  S := 34
  by_ := 16
  z := (0, false)
  d := _
  len := fun _ => rfl
  pos := by omega
  one := by intro x u hu; simp [encN] at hu; rcases hu with rfl | rfl <;> rfl
  undS := Tryz.underlying34
  undT := Tryz.underlying38
  isRow := rfl
  info := by kernel_rfl
  size := by kernel_rfl
  zero := fun w => by kernel_rfl
  small := by omega
  smallN := by omega
/-- A statement's four cells. -/
structure Sm where
  word : List UInt8
  nA : Option Addr
  nn : Nat
  nc : Nat
  block : Bool
  bA : Option Addr
  bn : Nat
  bc : Nat
def encS (x : Sm) : List Value := [.string (strB x.word), .slice x.nA x.nn x.nc, .bool x.block, .slice x.bA x.bn x.bc]
def smS : Sh Tryz.prog Sm where
  enc := encS
  N := 4
  T := 36
  S := 24
  by_ := 72
  z := ⟨[], none, 0, 0, false, none, 0, 0⟩
  d := _
  len := fun _ => rfl
  pos := by omega
  one := by intro x u hu; simp [encS] at hu; rcases hu with rfl | rfl | rfl | rfl <;> rfl
  undS := Tryz.underlying24
  undT := Tryz.underlying36
  isRow := rfl
  info := by kernel_rfl
  size := by kernel_rfl
  zero := fun w => by kernel_rfl
  small := by omega
  smallN := by omega
def smV (x : Sm) : Value := .agg #[.string (strB x.word), .slice x.nA x.nn x.nc, .bool x.block, .slice x.bA x.bn x.bc]
theorem nm_sm : nmS.T ≠ smS.T := by show 38 ≠ 36; decide
theorem sm_nm : smS.T ≠ nmS.T := by show 36 ≠ 38; decide

/-! ### A shape of which there is no slice -/
structure Sv (P : Program) (α : Type) where
  enc : α → List Value
  N : Nat
  T : TypeId
  z : α
  d : TypeDesc
  len : ∀ x, (enc x).length = N
  pos : 0 < N
  one : ∀ x, ∀ u ∈ enc x, u.oneCell' = true
  undT : P.underlying T = some d
  isRow : d.isRow = true
  size : (P.info? T).map (·.size) = some N
  zero : ∀ w, (zeroValue T).run P w = .ok (.agg (enc z).toArray) w
namespace Sv
variable {P : Program} {α : Type} (σ : Sv P α)
def val (x : α) : Value := .agg (σ.enc x).toArray
def Var (w : World) (g : Nat) (x : α) : Prop := w.rangeAt g 0 (σ.enc x) ∧ w.there g 0 σ.N
section
variable {σ} {w w' : World} {g : Nat} {x : α}
theorem Var.below (h : σ.Var w g x) {B : Nat} (hk : Below B w w') (hb : g < B) : σ.Var w' g x := ⟨range_keep h.1 hb hk, there_keep h.2 hb hk⟩
theorem Var.lt (h : σ.Var w g x) : g < w.heap.size := by
  have h0 := (h.2 0 σ.pos).1
  obtain ⟨u, hu⟩ := Option.isSome_iff_exists.1 h0
  exact World.block_lt_of_cell? w _ hu
theorem Var.keep (h : σ.Var w g x) (hk : Below w.heap.size w w') : σ.Var w' g x := h.below hk h.lt
theorem Var.cell (h : σ.Var w g x) {j : Nat} {v : Value} (hj : (σ.enc x)[j]? = some v) : w.cell? ⟨g, j, none⟩ = some v := by
  have := h.1 j v hj; rwa [Nat.zero_add] at this
theorem Var.free (h : σ.Var w g x) {j : Nat} (hj : j < σ.N) : w.frozen? ⟨g, j, none⟩ = false := by
  have := (h.2 j hj).2; rwa [Nat.zero_add] at this
end
section
variable {w : World} {g : Nat} {x : α} {ops : Array Oper} {rest : List Oper} {o : Oper} {a : Act} {Q : Exit → Act → World → Prop}
theorem var_new (w : World) (x : α) (t : TypeId) : σ.Var (w.alloc (.cells (σ.enc x).toArray t)) w.heap.size x := ⟨range_new w _ t, by have := there_new w (σ.enc x) t; rwa [σ.len] at this⟩
theorem var_stored {g : Nat} (ht : w.there g 0 σ.N) (x : α) : σ.Var (w.setCells g 0 (σ.enc x)) g x := ⟨World.rangeAt_setCells_same w g 0 (σ.enc x) (by rw [σ.len]; exact ht), World.there_setCells ht g 0 _⟩
theorem wp_al (hg : o.guard = none) (ho : o.op = .alloc σ.T)
    (h : ∀ w', σ.Var w' w.heap.size σ.z → Below w.heap.size w w' → Hid (w'.heap.size = w.heap.size + 1) → wpList P ops Q rest (a.put o.dst (.pointer (some ⟨w.heap.size, 0, none⟩))) w') : wpList P ops Q (o :: rest) a w := by
  refine wpList_plain hg fun K hK => ?_
  unfold Oper.wp execOp
  simp only [ho, Sem.run_bind, Instr.alloc, σ.zero, newVar, newRow, run_newObj_alloc, Sem.run_pure, Result.andThen_ok]
  exact hK _ _ (h _ (var_new σ w σ.z σ.T) ((Below.refl _ _).alloc (Nat.le_refl _) _) (hid (by simp)))
theorem wp_ld (hw : Region.wanted o (yielded ops a.tmps) = true) (e : Operand) (ho : o.op = .load σ.T e) {b off : Nat} (hx : a.eval e = .pointer (some ⟨b, off, none⟩)) (hv : w.rangeAt b off (σ.enc x))
    (h : wpList P ops Q rest (a.put o.dst (σ.val x)) w) : wpList P ops Q (o :: rest) a w :=
  wpList_step fun _ hK => by rw [if_pos hw]; exact wp_load_mid σ.T e ho b off hx (σ.enc x) _ hv σ.undT σ.isRow (by rw [σ.size, σ.len]) (hK _ _ h)
theorem wp_sv (hg : o.guard = none) (e y : Operand) (ho : o.op = .store σ.T e y) {p : α} (hx : a.eval e = .pointer (some ⟨g, 0, none⟩)) (hy : a.eval y = σ.val x) (hv : σ.Var w g p)
    (h : ∀ w', σ.Var w' g x → Below g w w' → Oth g w w' → Hid (w'.heap.size = w.heap.size) → wpList P ops Q rest (a.put o.dst undef) w') : wpList P ops Q (o :: rest) a w :=
  wpList_store_mid hg σ.T e y ho g 0 (σ.enc x).toArray hx hy (by have := hv.2; simpa [σ.len] using this) (by rw [σ.size]; simp [σ.len]) (all_oneCell_toArray (σ.one x)) (h _ (var_stored σ hv.2 x) (setCells_oth g _ _ _).1 (setCells_oth g _ _ _).2 (hid (setCells_size _ _ _ _)))
end
end Sv
/-- a number's token -/
def ntS : Sv Tryz.prog (Int × Bool) where
  enc := encN
  N := 2
  T := 90
  z := (0, false)
  d := _
  len := fun _ => rfl
  pos := by omega
  one := by intro x u hu; simp [encN] at hu; rcases hu with rfl | rfl <;> rfl
  undT := Tryz.underlying90
  isRow := rfl
  size := by kernel_rfl
  zero := fun w => by kernel_rfl

/-- A slice of n things at A reads as xs, and lies in a block of which P holds. -/
def RwP {Q : Program} {α : Type} (σ : Sh Q α) (w : World) (P : Nat → Prop) (A : Option Addr) (n : Nat) (xs : List α) : Prop :=
  xs.length = n ∧ (0 < n → ∃ b o, A = some ⟨b, o, none⟩ ∧ P b ∧ ∀ j u, (σ.flat xs)[j]? = some u → w.cell? ⟨b, o + j, none⟩ = some u)
section
variable {Q : Program} {α : Type} {σ : Sh Q α} {w w' : World} {P P' : Nat → Prop} {A : Option Addr} {n c base B : Nat} {xs : List α}
theorem RwP.nil : RwP σ w P A 0 [] := ⟨rfl, fun h => absurd h (by omega)⟩
theorem RwP.mono (h : RwP σ w P A n xs) (hP : ∀ b, P b → b < w.heap.size → P' b) : RwP σ w P' A n xs := ⟨h.1, fun hn => by
  obtain ⟨b, o, e, hb, hc⟩ := h.2 hn
  refine ⟨b, o, e, hP b hb ?_, hc⟩
  obtain ⟨x, xs', rfl⟩ : ∃ x xs', xs = x :: xs' := by
    cases xs with
    | nil => have := h.1; simp at this; omega
    | cons x xs' => exact ⟨x, xs', rfl⟩
  obtain ⟨u, us, hu⟩ : ∃ u us, σ.enc x = u :: us := by
    cases he : σ.enc x with
    | nil => have := σ.len x; rw [he] at this; have := σ.pos; simp at *; omega
    | cons u us => exact ⟨u, us, rfl⟩
  exact World.block_lt_of_cell? w _ (hc 0 u (by rw [Sh.flat_cons, hu]; rfl))⟩
theorem RwP.keep (h : RwP σ w P A n xs) (hk : ∀ b, P b → b < w.heap.size → w'.heap[b]? = w.heap[b]?) : RwP σ w' P A n xs := ⟨h.1, fun hn => by
  obtain ⟨b, o, e, hb, hc⟩ := h.2 hn
  obtain ⟨b', o', e', hb', _⟩ := (h.mono (P' := fun b => P b ∧ b < w.heap.size) (fun b h1 h2 => ⟨h1, h2⟩)).2 hn
  obtain ⟨rfl, rfl⟩ : b = b' ∧ o = o' := by
    rw [e] at e'; injection e' with e'; injection e' with e1 e2; exact ⟨e1, e2⟩
  exact ⟨b, o, e, hb, fun j u hu => (World.cell?_of_block (a := ⟨b, o + j, none⟩) (hk b hb hb'.2)).trans (hc j u hu)⟩⟩
theorem RwP.row (h : RwP σ w P A n xs) (hP : ∀ b, P b → b < B) : σ.Rw w B A n xs := ⟨h.1, fun hn => by
  obtain ⟨b, o, e, hb, hc⟩ := h.2 hn
  exact ⟨b, o, e, hP b hb, hc⟩⟩
theorem RwP.size (h : RwP σ w P A n xs) : σ.Rw w w.heap.size A n xs := (h.mono (P' := fun b => b < w.heap.size) (fun _ _ h => h)).row fun _ h => h
theorem _root_.Go.Proofs.YtkfnkieljcipnaaGreatDoor.Sh.Ow.rowP (h : σ.Ow w base A n c xs) : RwP σ w (fun k => base ≤ k ∧ k < w.heap.size ∧ some k = Value.ownBlock (.slice A n c)) A n xs := by
  refine ⟨h.len, fun hn => ?_⟩
  rcases h.2 with ⟨_, h0⟩ | ⟨g, cap, cur, hv, hb, hg, _⟩
  · omega
  · have hA : A = some ⟨g, 0, none⟩ := by injection hv
    subst hA
    refine ⟨g, 0, rfl, ⟨hb, (Array.getElem?_eq_some_iff.1 hg).1, rfl⟩, fun j u hu => ?_⟩
    have := h.cells (g := g) rfl j u hu
    rwa [plain_add] at this
end

/-- A forest in memory: what the statements' cells tell of, in blocks of which P holds. -/
def Tr (w : World) (P : Nat → Prop) : Fo → List Sm → Prop
  | .nil, xs => xs = []
  | .cons wd ns bl y nx, xs => ∃ x xs', xs = x :: xs' ∧ x.word = wd ∧ x.block = bl ∧ RwP nmS w P x.nA x.nn ns ∧ (∃ ys, RwP smS w P x.bA x.bn ys ∧ Tr w P y ys) ∧ Tr w P nx xs'
/-- A slice that reads as a forest. -/
def TrS (w : World) (P : Nat → Prop) (A : Option Addr) (n : Nat) (f : Fo) : Prop := ∃ xs, RwP smS w P A n xs ∧ Tr w P f xs
section
variable {w w' : World} {P P' : Nat → Prop} {A : Option Addr} {n c base g : Nat} {f : Fo} {xs : List Sm}
theorem Tr.mono (hP : ∀ b, P b → b < w.heap.size → P' b) : ∀ {f : Fo} {xs : List Sm}, Tr w P f xs → Tr w P' f xs
  | .nil, _, h => h
  | .cons _ _ _ _ _, _, ⟨x, xs', e, h1, h2, h3, ⟨ys, h4, h5⟩, h6⟩ => ⟨x, xs', e, h1, h2, h3.mono hP, ⟨ys, h4.mono hP, Tr.mono hP h5⟩, Tr.mono hP h6⟩
theorem Tr.keep (hk : ∀ b, P b → b < w.heap.size → w'.heap[b]? = w.heap[b]?) : ∀ {f : Fo} {xs : List Sm}, Tr w P f xs → Tr w' P f xs
  | .nil, _, h => h
  | .cons _ _ _ _ _, _, ⟨x, xs', e, h1, h2, h3, ⟨ys, h4, h5⟩, h6⟩ => ⟨x, xs', e, h1, h2, h3.keep hk, ⟨ys, h4.keep hk, Tr.keep hk h5⟩, Tr.keep hk h6⟩
theorem Tr.app : ∀ {f : Fo} {xs : List Sm} {h : Fo} {zs : List Sm}, Tr w P f xs → Tr w P h zs → Tr w P (f.app h) (xs ++ zs)
  | .nil, _, _, _, rfl, h2 => h2
  | .cons _ _ _ _ _, _, _, _, ⟨x, xs', rfl, h1, h2, h3, h4, h6⟩, h7 => ⟨x, _, rfl, h1, h2, h3, h4, Tr.app h6 h7⟩
theorem Tr.len : ∀ {f : Fo} {xs : List Sm}, Tr w P f xs → xs.length = f.len
  | .nil, _, rfl => rfl
  | .cons _ _ _ _ _, _, ⟨x, xs', rfl, _, _, _, _, h6⟩ => by rw [List.length_cons, Tr.len h6]; rfl
theorem TrS.mono (h : TrS w P A n f) (hP : ∀ b, P b → b < w.heap.size → P' b) : TrS w P' A n f := ⟨h.choose, h.choose_spec.1.mono hP, h.choose_spec.2.mono hP⟩
theorem TrS.keep (h : TrS w P A n f) (hk : ∀ b, P b → b < w.heap.size → w'.heap[b]? = w.heap[b]?) : TrS w' P A n f := ⟨h.choose, h.choose_spec.1.keep hk, h.choose_spec.2.keep hk⟩
theorem TrS.len (h : TrS w P A n f) : n = f.len := by obtain ⟨xs, h1, h2⟩ := h; rw [← h2.len, h1.1]
theorem TrS.nil : TrS w P A 0 .nil := ⟨[], RwP.nil, rfl⟩

/-- Statements under construction: a slice of the call's own, what it tells of in other blocks of the call's own. -/
structure Lo (w : World) (base : Nat) (A : Option Addr) (n c : Nat) (f : Fo) (xs : List Sm) : Prop where
  ow : smS.Ow w base A n c xs
  tr : Tr w (fun k => base ≤ k ∧ k < w.heap.size ∧ some k ≠ Value.ownBlock (.slice A n c)) f xs
theorem Lo.nil (w : World) (base : Nat) : Lo w base none 0 0 .nil [] := ⟨Sh.Ow.nil _ _, rfl⟩
theorem Lo.keep (h : Lo w base A n c f xs) (hb : ∀ k, base ≤ k → k < w.heap.size → w'.heap[k]? = w.heap[k]?) (_ : w.heap.size ≤ w'.heap.size) : Lo w' base A n c f xs := by
  refine ⟨⟨h.ow.1, ?_⟩, (h.tr.keep fun b hP hb' => hb b hP.1 hb').mono fun b hP _ => ⟨hP.1, by omega, hP.2.2⟩⟩
  rcases h.ow.2 with h0 | ⟨g, cap, cur, hv, hg, hh, r⟩
  · exact .inl h0
  · exact .inr ⟨g, cap, cur, hv, hg, (hb g hg (Array.getElem?_eq_some_iff.1 hh).1).trans hh, r⟩
theorem Lo.below (h : Lo w base A n c f xs) (hb : Below w.heap.size w w') : Lo w' base A n c f xs := h.keep (fun k _ h2 => hb.block k h2) hb.size
theorem Lo.len (h : Lo w base A n c f xs) : n = f.len := by rw [← h.tr.len, h.ow.len]
theorem Lo.tree (h : Lo w base A n c f xs) : TrS w (fun k => base ≤ k ∧ k < w.heap.size) A n f :=
  ⟨xs, h.ow.rowP.mono fun _ h _ => ⟨h.1, h.2.1⟩, h.tr.mono fun _ h _ => ⟨h.1, h.2.1⟩⟩
theorem own_lt {A : Option Addr} (h : smS.Ow w base A n c xs) (k : Nat) (hk : Value.ownBlock (.slice A n c) = some k) : base ≤ k ∧ k < w.heap.size := World.ownsRow.lt h k hk
/-- One more at the end. -/
theorem Lo.push {w0 : World} {x : Sm} {h : Fo} {A' : Option Addr} {n' c' : Nat} (hl : Lo w base A n c f xs) (h0 : Value.ownBlock (.slice A n c) = none ∨ ∃ k, Value.ownBlock (.slice A n c) = some k ∧ k < w0.heap.size) (hbase : base ≤ w0.heap.size) (hx : Tr w (fun k => w0.heap.size ≤ k ∧ k < w.heap.size) h [x])
    (ow : smS.Ow w' base A' n' c' (xs ++ [x])) (hg : w.grownBy w' (Value.ownBlock (.slice A n c))) (hl2 : Value.ownBlock (.slice A' n' c') = Value.ownBlock (.slice A n c) ∨ Value.ownBlock (.slice A' n' c') = some w.heap.size) : Lo w' base A' n' c' (f.app h) (xs ++ [x]) := by
  have hx2 : Tr w (fun k => base ≤ k ∧ k < w.heap.size ∧ some k ≠ Value.ownBlock (.slice A n c)) h [x] := hx.mono fun b hb _ => ⟨by omega, hb.2, fun e => by
    rcases h0 with h0 | ⟨k, h0, hk⟩
    · rw [h0] at e; cases e
    · rw [h0] at e; cases e; have := hb.1; omega⟩
  have h1 := hl.tr.app hx2
  refine ⟨ow, (h1.keep fun b hb hs => hg.block b hs hb.2.2).mono fun b hb _ => ⟨hb.1, Nat.lt_of_lt_of_le hb.2.1 hg.size, ?_⟩⟩
  rcases hl2 with e | e
  · rw [e]; exact hb.2.2
  · rw [e]; intro e2; cases e2; have := hb.2.1; omega

/-- Of what was there at w only block g may have turned. -/
structure Mov (g : Nat) (w w' : World) : Prop where
  bl : Below g w w'
  up : ∀ k, g < k → k < w.heap.size → w'.heap[k]? = w.heap[k]?
theorem Mov.refl (g : Nat) (w : World) : Mov g w w := ⟨Below.refl _ _, fun _ _ _ => rfl⟩
theorem Mov.trans {w1 w2 : World} (h : Mov g w w1) (h2 : Mov g w1 w2) : Mov g w w2 := ⟨h.bl.trans h2.bl, fun k hk hs => (h2.up k hk (Nat.lt_of_lt_of_le hs h.bl.size)).trans (h.up k hk hs)⟩
theorem Mov.of (h : Below w.heap.size w w') (hg : g ≤ w.heap.size) : Mov g w w' := ⟨h.mono hg, fun k _ hs => h.block k hs⟩
theorem Mov.then {w1 w2 : World} (h : Mov g w w1) (h2 : Below w1.heap.size w1 w2) (hg : g ≤ w.heap.size) : Mov g w w2 := h.trans (.of h2 (Nat.le_trans hg h.bl.size))
/-- What was made since may turn, too. -/
theorem Mov.since {w1 w2 : World} (h : Mov g w w1) (h2 : Below w.heap.size w1 w2) (hg : g ≤ w.heap.size) : Mov g w w2 := ⟨h.bl.trans (h2.mono hg), fun k hk hs => (h2.block k hs).trans (h.up k hk hs)⟩
theorem Mov.oth (hb : Below g w w') (ho : Oth g w w') : Mov g w w' := ⟨hb, fun k hk _ => ho k (by omega)⟩
theorem _root_.Go.Proofs.YtkfnkieljcipnaaGreatDoor.Sh.Ow.mov {Q : Program} {α : Type} {σ : Sh Q α} {ys : List α} (h : σ.Ow w base A n c ys) (hm : Mov g w w') (hg : g < base) : σ.Ow w' base A n c ys := by
  refine ⟨h.1, ?_⟩
  rcases h.2 with h0 | ⟨j, cap, cur, hv, hj, hh, r⟩
  · exact .inl h0
  · exact .inr ⟨j, cap, cur, hv, hj, (hm.up j (by omega) (Array.getElem?_eq_some_iff.1 hh).1).trans hh, r⟩
theorem Mov.size {w1 : World} (h : Mov g w w1) : w.heap.size ≤ w1.heap.size := h.bl.size
theorem Lo.mov (h : Lo w base A n c f xs) (hm : Mov g w w') (hg : g < base) : Lo w' base A n c f xs := h.keep (fun k h1 h2 => hm.up k (by omega) h2) hm.size
theorem Tr.mov (h : Tr w P f xs) (hm : Mov g w w') (hg : ∀ b, P b → g < b) : Tr w' P f xs := h.keep fun b hb hs => hm.up b (hg b hb) hs
theorem TrS.mov (h : TrS w P A n f) (hm : Mov g w w') (hg : ∀ b, P b → g < b) : TrS w' P A n f := h.keep fun b hb hs => hm.up b (hg b hb) hs
end

/-! ### Tokens, each of its type, and a reader of them -/
def tyV (t : Tk) : Value := if t.kind = 1 then .iface 89 (.string (strB t.s)) else if t.kind = 2 then .iface 90 (.agg #[.int .i64 t.n, .bool t.time]) else .iface 91 (.string (strB t.s))
def endV : Value := .iface 93 (.agg #[])
def nowV : List Tk → Value
  | [] => endV
  | t :: _ => tyV t
def rowV (ts : List Tk) : List Value := ts.map tyV ++ [endV]
theorem row_at (pre rest : List Tk) : (rowV (pre ++ rest))[pre.length]? = some (nowV rest) := by
  unfold rowV
  rw [List.map_append, List.append_assoc, List.getElem?_append_right (by simp)]
  cases rest <;> simp [nowV]
/-- Block g is a reader of the tokens in block b, at which so many are behind. -/
structure Rd (w : World) (g b c : Nat) (pre rest : List Tk) (many : Nat) : Prop where
  cells : w.rangeAt g 0 [.slice (some ⟨b, 0, none⟩) (pre.length + rest.length + 1) c, .int .i64 pre.length, .int .i64 many]
  there : w.there g 0 3
  row : w.rangeAt b 0 (rowV (pre ++ rest))
  ne : b ≠ g
  le : pre.length + rest.length ≤ 1000000
  le2 : many ≤ 2000
  kd : ∀ t ∈ pre ++ rest, t.kind = 1 ∨ t.kind = 2 ∨ t.kind = 3
section
variable {w w' : World} {g b c many : Nat} {pre rest : List Tk}
theorem Rd.lt (h : Rd w g b c pre rest many) : g < w.heap.size := World.block_lt_of_cell? w _ (h.cells 1 _ rfl)
theorem Rd.ltb (h : Rd w g b c pre rest many) : b < w.heap.size := World.block_lt_of_cell? w _ (h.row _ _ (row_at pre rest))
theorem Rd.below (h : Rd w g b c pre rest many) (hb : Below w.heap.size w w') : Rd w' g b c pre rest many :=
  ⟨range_keep h.cells h.lt hb, there_keep h.there h.lt hb, range_keep h.row h.ltb hb, h.ne, h.le, h.le2, h.kd⟩
theorem Rd.over (h : Rd w g b c pre rest many) {B : Nat} (hb : Below B w w') (hg : g < B) (h2 : b < B) : Rd w' g b c pre rest many :=
  ⟨range_keep h.cells hg hb, there_keep h.there hg hb, range_keep h.row h2 hb, h.ne, h.le, h.le2, h.kd⟩
theorem Rd.free (h : Rd w g b c pre rest many) {j : Nat} (hj : j < 3) : w.frozen? ⟨g, j, none⟩ = false := by
  have := (h.there j hj).2; rwa [Nat.zero_add] at this
theorem Rd.sign {t : Tk} {r : List Tk} (h : Rd w g b c pre (t :: r) many) (h1 : ¬ t.kind = 1) (h2 : ¬ t.kind = 2) : t.kind = 3 := by
  rcases h.kd t (by simp) with h3 | h3 | h3
  · exact absurd h3 h1
  · exact absurd h3 h2
  · exact h3
theorem Rd.drew (h : Rd w g b c pre rest many) : Rd w.drew g b c pre rest many := h.below ((Below.refl _ _).drew)
theorem Rd.c0 (h : Rd w g b c pre rest many) : w.cell? ⟨g, 0, none⟩ = some (.slice (some ⟨b, 0, none⟩) (pre.length + rest.length + 1) c) := h.cells 0 _ rfl
theorem Rd.c1 (h : Rd w g b c pre rest many) : w.cell? ⟨g, 1, none⟩ = some (.int .i64 pre.length) := h.cells 1 _ rfl
theorem Rd.c2 (h : Rd w g b c pre rest many) : w.cell? ⟨g, 2, none⟩ = some (.int .i64 many) := h.cells 2 _ rfl
theorem Rd.now (h : Rd w g b c pre rest many) : w.cell? ⟨b, pre.length, none⟩ = some (nowV rest) := by
  have := h.row _ _ (row_at pre rest); rwa [Nat.zero_add] at this
/-- One field set. -/
theorem Rd.at1 {t : Tk} {r : List Tk} (h : Rd w g b c pre (t :: r) many) {z : Int} (hz : z = (pre.length : Int) + 1) : Rd (w.setCell ⟨g, 1, none⟩ (.int .i64 z)) g b c (pre ++ [t]) r many ∧ Mov g w (w.setCell ⟨g, 1, none⟩ (.int .i64 z)) := by
  obtain rfl : z = (pre.length + 1 : Nat) := by omega
  have hs := setCells_oth g [.int .i64 (pre.length + 1 : Nat)] 1 w
  have hm : Mov g w (w.setCell ⟨g, 1, none⟩ (.int .i64 (pre.length + 1 : Nat))) := .oth hs.1 hs.2
  refine ⟨⟨?_, World.there_setCells h.there g 1 [_], ?_, h.ne, by have := h.le; simp at *; omega, h.le2, by simpa using h.kd⟩, hm⟩
  · have h0 : w.rangeAt g 0 [.slice (some ⟨b, 0, none⟩) (pre.length + (t :: r).length + 1) c] := fun j v hj => by
      obtain rfl : j = 0 := by have := (List.getElem?_eq_some_iff.1 hj).1; simp at this; exact this
      exact h.cells 0 v hj
    have h2 : w.rangeAt g 2 [.int .i64 many] := fun j v hj => by
      obtain rfl : j = 0 := by have := (List.getElem?_eq_some_iff.1 hj).1; simp at this; exact this
      exact h.cells 2 v hj
    have a0 := World.rangeAt_setCells_apart h0 g 1 [.int .i64 (pre.length + 1 : Nat)] (.inr (.inl (by simp)))
    have a2 := World.rangeAt_setCells_apart h2 g 1 [.int .i64 (pre.length + 1 : Nat)] (.inr (.inr (by simp)))
    have a1 := World.rangeAt_setCells_same w g 1 [.int .i64 (pre.length + 1 : Nat)] (fun j hj => by
      obtain rfl : j = 0 := by simp at hj; exact hj
      exact h.there 1 (by omega))
    have e1 : (pre ++ [t]).length + r.length + 1 = pre.length + (t :: r).length + 1 := by simp; omega
    have e2 : (pre ++ [t]).length = pre.length + 1 := by simp
    rw [e1, e2]
    intro j v hj
    match j, hj with
    | 0, hj => exact a0 0 v hj
    | 1, hj => exact a1 0 v hj
    | 2, hj => exact a2 0 v hj
  · have := range_other h.row h.ne hs.2
    rwa [List.append_assoc, List.singleton_append]
theorem Rd.many1 (h : Rd w g b c pre rest many) (hm : many < 2000) {z : Int} (hz : z = (many : Int) + 1) : Rd (w.setCell ⟨g, 2, none⟩ (.int .i64 z)) g b c pre rest (many + 1) ∧ Mov g w (w.setCell ⟨g, 2, none⟩ (.int .i64 z)) := by
  obtain rfl : z = (many + 1 : Nat) := by omega
  have hs := setCells_oth g [.int .i64 (many + 1 : Nat)] 2 w
  have hm : Mov g w (w.setCell ⟨g, 2, none⟩ (.int .i64 (many + 1 : Nat))) := .oth hs.1 hs.2
  refine ⟨⟨?_, World.there_setCells h.there g 2 [_], range_other h.row h.ne hs.2, h.ne, h.le, by omega, h.kd⟩, hm⟩
  have h0 : w.rangeAt g 0 [.slice (some ⟨b, 0, none⟩) (pre.length + rest.length + 1) c, .int .i64 pre.length] := fun j v hj => by
    match j, hj with
    | 0, hj => exact h.cells 0 v hj
    | 1, hj => exact h.cells 1 v hj
  have a0 := World.rangeAt_setCells_apart h0 g 2 [.int .i64 (many + 1 : Nat)] (.inr (.inl (by simp)))
  have a2 := World.rangeAt_setCells_same w g 2 [.int .i64 (many + 1 : Nat)] (fun j hj => by
    obtain rfl : j = 0 := by simp at hj; exact hj
    exact h.there 2 (by omega))
  intro j v hj
  match j, hj with
  | 0, hj => exact a0 0 v hj
  | 1, hj => exact a0 1 v hj
  | 2, hj => exact a2 0 v hj
end
end Go.Proofs.YtkfnkieljcipnaaGreatDoor

/-! PN -/
namespace Go.Proofs.YtkfnkieljcipnaaGreatDoor
open Go Go.RowKit Go.Joins

/-! ### Assertions -/
theorem as_ww (v : Value) (w : World) : (Instr.typeAssert (.iface 89 v) 20 89 true).run Tryz.prog w = .ok (.tuple #[v, .bool true]) w := by kernel_rfl
theorem as_nw (v : Value) (w : World) : (Instr.typeAssert (.iface 90 v) 20 89 true).run Tryz.prog w = .ok (.tuple #[.string ⟨#[]⟩, .bool false]) w := by kernel_rfl
theorem as_sw (v : Value) (w : World) : (Instr.typeAssert (.iface 91 v) 20 89 true).run Tryz.prog w = .ok (.tuple #[.string ⟨#[]⟩, .bool false]) w := by kernel_rfl
theorem as_ew (v : Value) (w : World) : (Instr.typeAssert (.iface 93 v) 20 89 true).run Tryz.prog w = .ok (.tuple #[.string ⟨#[]⟩, .bool false]) w := by kernel_rfl
theorem as_we (v : Value) (w : World) : (Instr.typeAssert (.iface 89 v) 20 93 true).run Tryz.prog w = .ok (.tuple #[.agg #[], .bool false]) w := by kernel_rfl
theorem as_ne (v : Value) (w : World) : (Instr.typeAssert (.iface 90 v) 20 93 true).run Tryz.prog w = .ok (.tuple #[.agg #[], .bool false]) w := by kernel_rfl
theorem as_se (v : Value) (w : World) : (Instr.typeAssert (.iface 91 v) 20 93 true).run Tryz.prog w = .ok (.tuple #[.agg #[], .bool false]) w := by kernel_rfl
theorem as_ee (v : Value) (w : World) : (Instr.typeAssert (.iface 93 v) 20 93 true).run Tryz.prog w = .ok (.tuple #[v, .bool true]) w := by kernel_rfl
theorem as_wn (v : Value) (w : World) : (Instr.typeAssert (.iface 89 v) 20 90 true).run Tryz.prog w = .ok (.tuple #[.agg #[.int .i64 0, .bool false], .bool false]) w := by kernel_rfl
theorem as_nn (v : Value) (w : World) : (Instr.typeAssert (.iface 90 v) 20 90 true).run Tryz.prog w = .ok (.tuple #[v, .bool true]) w := by kernel_rfl
theorem as_sn (v : Value) (w : World) : (Instr.typeAssert (.iface 91 v) 20 90 true).run Tryz.prog w = .ok (.tuple #[.agg #[.int .i64 0, .bool false], .bool false]) w := by kernel_rfl
theorem as_en (v : Value) (w : World) : (Instr.typeAssert (.iface 93 v) 20 90 true).run Tryz.prog w = .ok (.tuple #[.agg #[.int .i64 0, .bool false], .bool false]) w := by kernel_rfl
theorem as_ws (v : Value) (w : World) : (Instr.typeAssert (.iface 89 v) 20 91 true).run Tryz.prog w = .ok (.tuple #[.string ⟨#[]⟩, .bool false]) w := by kernel_rfl
theorem as_ns (v : Value) (w : World) : (Instr.typeAssert (.iface 90 v) 20 91 true).run Tryz.prog w = .ok (.tuple #[.string ⟨#[]⟩, .bool false]) w := by kernel_rfl
theorem as_ss (v : Value) (w : World) : (Instr.typeAssert (.iface 91 v) 20 91 true).run Tryz.prog w = .ok (.tuple #[v, .bool true]) w := by kernel_rfl
theorem as_es (v : Value) (w : World) : (Instr.typeAssert (.iface 93 v) 20 91 true).run Tryz.prog w = .ok (.tuple #[.string ⟨#[]⟩, .bool false]) w := by kernel_rfl
theorem as_s1 (v : Value) (w : World) : (Instr.typeAssert (.iface 91 v) 20 91 false).run Tryz.prog w = .ok v w := by kernel_rfl

set_option maxRecDepth 100000 in
theorem now_any {w : World} {g b c many : Nat} {pre rest : List Tk} (h : Rd w g b c pre rest many) : Calls Tryz.prog 60 #[.pointer (some ⟨g, 0, none⟩)] w fun e w' => e = .returned (nowV rest) ∧ Below w.heap.size w w' := by
  have c0 := h.c0
  have c1 := h.c1
  have hn := h.now
  have hle := h.le
  obtain ⟨k, hk⟩ : ∃ k, pre.length = k := ⟨_, rfl⟩
  obtain ⟨n, hn2⟩ : ∃ n, pre.length + rest.length + 1 = n := ⟨_, rfl⟩
  have hlt : k < n := by omega
  have hn3 : n ≤ 1000001 := by omega
  rw [hk] at c1 hn
  rw [hn2] at c0
  clear hk hn2 hle h
  generalize nowV rest = v at *
  go_enter Tryz.func60, Tryz.ntmps60
  go_wp2_with fail
  go_quiet (fail)
  go_wp2_with fail
  go_ret
  exact ⟨rfl, by first | exact Below.refl _ _ | exact (Below.refl _ _).drew | exact bel_drewN (Below.refl _ _) _⟩

theorem now_is {w : World} {g b c many : Nat} {pre rest : List Tk} (h : Rd w g b c pre rest many) {v : Value} (hv : nowV rest = v) : Calls Tryz.prog 60 #[.pointer (some ⟨g, 0, none⟩)] w fun e w' => e = .returned v ∧ Below w.heap.size w w' := by
  have := now_any h; rw [hv] at this; exact this
theorem now_w (t : Tk) (r : List Tk) (h1 : t.kind = 1) : nowV (t :: r) = .iface 89 (.string (strB t.s)) := if_pos h1
theorem now_n (t : Tk) (r : List Tk) (h2 : t.kind = 2) : nowV (t :: r) = .iface 90 (.agg #[.int .i64 t.n, .bool t.time]) := by show tyV t = _; unfold tyV; rw [if_neg (by omega), if_pos h2]
theorem now_s (t : Tk) (r : List Tk) (h1 : ¬ t.kind = 1) (h2 : ¬ t.kind = 2) : nowV (t :: r) = .iface 91 (.string (strB t.s)) := by show tyV t = _; unfold tyV; rw [if_neg h1, if_neg h2]
/-- What is next, of any kind. -/
theorem kinds (t : Tk) (r : List Tk) : (t.kind = 1 ∧ nowV (t :: r) = .iface 89 (.string (strB t.s))) ∨ (t.kind = 2 ∧ nowV (t :: r) = .iface 90 (.agg #[.int .i64 t.n, .bool t.time])) ∨ (¬ t.kind = 1 ∧ ¬ t.kind = 2 ∧ nowV (t :: r) = .iface 91 (.string (strB t.s))) := by
  by_cases h1 : t.kind = 1
  · exact .inl ⟨h1, now_w t r h1⟩
  by_cases h2 : t.kind = 2
  · exact .inr (.inl ⟨h2, now_n t r h2⟩)
  · exact .inr (.inr ⟨h1, h2, now_s t r h1 h2⟩)

set_option maxRecDepth 100000 in
theorem wrong_any {w : World} {g b c many : Nat} {pre rest : List Tk} (h : Rd w g b c pre rest many) : Calls Tryz.prog 100 #[.pointer (some ⟨g, 0, none⟩)] w fun e w' => e = .returned (.int .i64 (wrongE rest : Nat)) ∧ Below w.heap.size w w' := by
  match rest with
  | [] =>
    have HN := hid (now_is h (v := .iface 93 (.agg #[])) rfl)
    have ha := as_ee (.agg #[])
    clear h
    go_enter Tryz.func100, Tryz.ntmps100
    go_wp2_with (first
      | (go_at_call 60; refine HN.out.mono ?_; rintro e w1 ⟨rfl, b1⟩))
    go_ret
    exact ⟨rfl, b1.alloc b1.size _⟩
  | t :: r =>
    rcases kinds t r with ⟨_, hv⟩ | ⟨_, hv⟩ | ⟨_, _, hv⟩
    · have HN := hid (now_is h hv)
      have ha := as_we (.string (strB t.s))
      clear h
      go_enter Tryz.func100, Tryz.ntmps100
      go_wp2_with (first
        | (go_at_call 60; refine HN.out.mono ?_; rintro e w1 ⟨rfl, b1⟩))
      go_ret
      exact ⟨rfl, b1.alloc b1.size _⟩
    · have HN := hid (now_is h hv)
      have ha := as_ne (.agg #[.int .i64 t.n, .bool t.time])
      clear h
      go_enter Tryz.func100, Tryz.ntmps100
      go_wp2_with (first
        | (go_at_call 60; refine HN.out.mono ?_; rintro e w1 ⟨rfl, b1⟩))
      go_ret
      exact ⟨rfl, b1.alloc b1.size _⟩
    · have HN := hid (now_is h hv)
      have ha := as_se (.string (strB t.s))
      clear h
      go_enter Tryz.func100, Tryz.ntmps100
      go_wp2_with (first
        | (go_at_call 60; refine HN.out.mono ?_; rintro e w1 ⟨rfl, b1⟩))
      go_ret
      exact ⟨rfl, b1.alloc b1.size _⟩
end Go.Proofs.YtkfnkieljcipnaaGreatDoor

/-! PO -/
namespace Go.Proofs.YtkfnkieljcipnaaGreatDoor
open Go Go.RowKit Go.Joins

def NumsPost (w : World) (g b c many : Nat) (pre rest : List Tk) (e : Ending) (w' : World) : Prop :=
  Mov g w w' ∧ ((fewN rest = true ∧ Rd w' g b c (pre ++ rest.takeWhile isN) (restF rest) many ∧ ∃ A n c', n ≤ 8 ∧ e = .returned (.tuple #[.slice A n c', .int .i64 0]) ∧ RwP nmS w' (fun k => w.heap.size ≤ k ∧ k < w'.heap.size) A n (numsF rest)) ∨
    (fewN rest = false ∧ Rd w' g b c (pre ++ rest.take 8) (rest.drop 8) many ∧ e = .returned (.tuple #[.slice none 0 0, .int .i64 7])))

theorem takeWhile_done {done todo : List Tk} (h : ∀ t ∈ done, isN t = true) (h2 : todo.takeWhile isN = []) : (done ++ todo).takeWhile isN = done ∧ restF (done ++ todo) = todo := by
  have h3 : todo.dropWhile isN = todo := by
    have := List.takeWhile_append_dropWhile (p := isN) (l := todo)
    rw [h2] at this; exact this
  unfold restF
  induction done with
  | nil => exact ⟨h2, h3⟩
  | cons t d ih =>
    have := ih fun x hx => h x (List.mem_cons_of_mem _ hx)
    rw [List.cons_append, List.takeWhile_cons_of_pos (h t (List.mem_cons_self ..)), List.dropWhile_cons_of_pos (h t (List.mem_cons_self ..)), this.1, this.2]
    exact ⟨rfl, rfl⟩
theorem few_done {done todo : List Tk} (h : ∀ t ∈ done, isN t = true) (h2 : todo.takeWhile isN = []) (h8 : done.length ≤ 8) : fewN (done ++ todo) = true ∧ numsF (done ++ todo) = done.map numT := by
  unfold fewN numsF
  rw [(takeWhile_done h h2).1]
  exact ⟨decide_eq_true h8, rfl⟩
theorem few_over {done : List Tk} {t : Tk} {r : List Tk} (h : ∀ t ∈ done, isN t = true) (ht : isN t = true) (h8 : done.length = 8) : fewN (done ++ t :: r) = false ∧ (done ++ t :: r).take 8 = done ∧ (done ++ t :: r).drop 8 = t :: r := by
  refine ⟨decide_eq_false ?_, by rw [← h8]; simp, by rw [← h8]; simp⟩
  have : (done ++ t :: r).takeWhile isN = done ++ t :: r.takeWhile isN := by
    clear h8
    induction done with
    | nil => rw [List.nil_append, List.takeWhile_cons_of_pos ht]; rfl
    | cons u d ih => rw [List.cons_append, List.takeWhile_cons_of_pos (h u (List.mem_cons_self ..)), ih fun x hx => h x (List.mem_cons_of_mem _ hx)]; rfl
  rw [this]
  simp; omega

def lenOf : Value → Nat
  | .slice _ n _ => n
  | _ => 0

set_option maxRecDepth 100000 in
theorem numbers_any {w : World} {g b c many : Nat} {pre rest : List Tk} (h : Rd w g b c pre rest many) : Calls Tryz.prog 99 #[.pointer (some ⟨g, 0, none⟩)] w (NumsPost w g b c many pre rest) := by
  have HG := hid (And.intro h.lt h.ltb)
  have HR := hid h
  clear h
  go_enter Tryz.func99, Tryz.ntmps99
  go_wp2
  go_loopw [4] (fun v4 wr => ∃ (done todo : List Tk) (A : Option Addr) (k c' : Nat), v4 = .slice A k c' ∧ rest = done ++ todo ∧ (∀ t ∈ done, isN t = true) ∧ k ≤ 8 ∧ nmS.Ow wr w.heap.size A k c' (done.map numT) ∧ Rd wr g b c (pre ++ done) todo many ∧ Mov g w wr) (fun v4 _ => 8 - lenOf v4)
  case atStart => exact ⟨[], rest, none, 0, 0, rfl, rfl, by simp, by omega, Sh.Ow.nil _ _, by simpa using HR.out, Mov.refl _ _⟩
  case round =>
    obtain ⟨done, todo, A, k, c', rfl, hre, hall, hk, how, hrd, hmv⟩ := hrel
    have hlen : done.length = k := by have := how.len; simpa using this
    match todo with
    | [] =>
      have HN := hid (now_is hrd (v := .iface 93 (.agg #[])) rfl)
      have ha := as_en (.agg #[])
      have HM := hid hmv
      have HX := hid (And.intro hrd how)
      have HF := hid (And.intro (few_done hall (todo := []) rfl (by omega)) (takeWhile_done hall (todo := []) rfl))
      clear hrd hmv how hall HR
      go_wp2_with (first
        | (refine Sv.wp_sv ntS (x := (0, false)) rfl (.tmp 5) (.tmp 11) rfl rfl (by rfl) q2 ?_; intro w3 q3 b3 o3 s3; have B3 := hid (B2.out.trans (b3.mono B1.out.size)); clear q3 b3 o3 s3)
        | (refine Sv.wp_al ntS rfl rfl ?_; intro w2 q2 b2 s2; have B2 := hid (B1.out.trans (b2.mono B1.out.size)); clear b2 s2)
        | (go_at_call 60; refine HN.out.mono ?_; rintro e w1 ⟨rfl, b1⟩; have B1 := hid b1; clear b1))
      go_ret2
      exact ⟨HM.out.then B3.out (Nat.le_of_lt HG.out.1), .inl ⟨hre ▸ HF.out.1.1, by rw [hre, HF.out.2.1, HF.out.2.2]; exact HX.out.1.below B3.out, A, k, c', hk, rfl, by
        rw [hre, HF.out.1.2]
        exact (HX.out.2.below B3.out).rowP.mono fun _ h _ => ⟨h.1, h.2.1⟩⟩⟩
    | t :: r =>
    rcases kinds t r with ⟨h1, hv⟩ | ⟨h2, hv⟩ | ⟨_, h2, hv⟩
    · have hn : (t :: r).takeWhile isN = [] := List.takeWhile_cons_of_neg (by simp [isN]; omega)
      have HN := hid (now_is hrd hv)
      have ha := as_wn (.string (strB t.s))
      have HM := hid hmv
      have HX := hid (And.intro hrd how)
      have HF := hid (And.intro (few_done hall hn (by omega)) (takeWhile_done hall hn))
      clear hrd hmv how hall HR
      go_wp2_with (first
        | (refine Sv.wp_sv ntS (x := (0, false)) rfl (.tmp 5) (.tmp 11) rfl rfl (by rfl) q2 ?_; intro w3 q3 b3 o3 s3; have B3 := hid (B2.out.trans (b3.mono B1.out.size)); clear q3 b3 o3 s3)
        | (refine Sv.wp_al ntS rfl rfl ?_; intro w2 q2 b2 s2; have B2 := hid (B1.out.trans (b2.mono B1.out.size)); clear b2 s2)
        | (go_at_call 60; refine HN.out.mono ?_; rintro e w1 ⟨rfl, b1⟩; have B1 := hid b1; clear b1))
      go_ret2
      exact ⟨HM.out.then B3.out (Nat.le_of_lt HG.out.1), .inl ⟨hre ▸ HF.out.1.1, by rw [hre, HF.out.2.1, HF.out.2.2]; exact HX.out.1.below B3.out, A, k, c', hk, rfl, by
        rw [hre, HF.out.1.2]
        exact (HX.out.2.below B3.out).rowP.mono fun _ h _ => ⟨h.1, h.2.1⟩⟩⟩
    · have hn : isN t = true := decide_eq_true h2
      have HN := hid (now_is hrd hv)
      have ha := as_nn (.agg #[.int .i64 t.n, .bool t.time])
      have HM := hid hmv
      have HX := hid (And.intro hrd how)
      have HA := hid hall
      clear hmv how hall HR
      by_cases h8 : k = 8
      · subst h8
        have HF := hid (few_over (r := r) HA.out hn hlen)
        clear hrd
        go_wp2_with (first
          | (refine Sv.wp_sv ntS (x := (t.n, t.time)) rfl (.tmp 5) (.tmp 11) rfl rfl (by rfl) q2 ?_; intro w3 q3 b3 o3 s3; have B3 := hid (B2.out.trans (b3.mono B1.out.size)); clear q3 b3 o3 s3)
          | (refine Sv.wp_al ntS rfl rfl ?_; intro w2 q2 b2 s2; have B2 := hid (B1.out.trans (b2.mono B1.out.size)); clear b2 s2)
          | (go_at_call 60; refine HN.out.mono ?_; rintro e w1 ⟨rfl, b1⟩; have B1 := hid b1; clear b1))
        go_ret2
        exact ⟨HM.out.then B3.out (Nat.le_of_lt HG.out.1), .inr ⟨hre ▸ HF.out.1, by rw [hre, HF.out.2.1, HF.out.2.2]; exact HX.out.1.below B3.out, rfl⟩⟩
      · have hk8 : ((k : Int) == 8) = false := beq_eq_false_iff_ne.2 (by omega)
        have HL := hid hrd.le
        clear hrd
        go_upto_region 8 with (first
          | (refine Sh.wp_push nmS (A := A) (c := c') (l := done.map numT) (base := w.heap.size) (x := (t.n, t.time)) rfl (.tmp 19) (.tmp 21) rfl rfl (((HX.out.2.below B3.out)).alloc _) rfl (range_new w3 _ _) (by omega) (Nat.le_trans (Nat.le_trans HM.out.size B3.out.size) (by simp)) ?_; intro A6 c6 w6 own6 gr6; have B6 := hid (((Below.refl _ _).alloc (Nat.le_trans HM.out.size B3.out.size) _).trans (Sh.grown_below nmS ((HX.out.2.below B3.out).alloc _) (Nat.le_trans (Nat.le_trans HM.out.size B3.out.size) (by simp)) gr6)); have O6 := hid own6; clear own6 gr6)
          | (refine Sh.wp_bs nmS (x := (t.n, t.time)) rfl (.tmp 20) rfl rfl ?_)
          | (refine Sv.wp_ld ntS (x := (t.n, t.time)) rfl (.tmp 5) rfl rfl Q3.out.1 ?_)
          | (refine Sv.wp_sv ntS (x := (t.n, t.time)) rfl (.tmp 5) (.tmp 11) rfl rfl (by rfl) q2 ?_; intro w3 q3 b3 o3 s3; have B3 := hid (B2.out.trans (b3.mono B1.out.size)); have Q3 := hid q3; clear q3 b3 o3 s3)
          | (refine Sv.wp_al ntS rfl rfl ?_; intro w2 q2 b2 s2; have B2 := hid (B1.out.trans (b2.mono B1.out.size)); clear b2 s2)
          | (go_at_call 60; refine HN.out.mono ?_; rintro e w1 ⟨rfl, b1⟩; have B1 := hid b1; clear b1))
        have R6 := (HX.out.1.below B3.out).over B6.out HG.out.1 HG.out.2
        have M6 := hid ((HM.out.then B3.out (Nat.le_of_lt HG.out.1)).since B6.out (Nat.le_of_lt HG.out.1))
        have c1 := R6.c1
        have f1 := R6.free (j := 1) (by omega)
        have HR6 := hid R6
        have HK := hid (show ∀ z : Int, z = ((pre ++ done).length : Int) + 1 → _ from fun z hz => R6.at1 (z := z) hz)
        have hkl : ((pre ++ done).length : Int) ≤ 1000000 := by have := R6.le; omega
        have HE := hid (Eq.refl (pre ++ done).length)
        clear R6
        obtain ⟨q, hq⟩ : ∃ q, (pre ++ done).length = q := ⟨_, rfl⟩
        rw [hq] at c1 hkl
        have HQ := hid hq
        clear hq HE
        go_wp2_with fail
        have R7 := HK.out ((q : Int) + 1) (by rw [HQ.out])
        go_roundw
        case rel => exact ⟨done ++ [t], r, A6, k + 1, c6, rfl, by simp [hre], fun x hx => (List.mem_append.1 hx).elim (HA.out x) (fun hx => by rw [List.mem_singleton.1 hx]; exact hn), by omega, by rw [List.map_append]; exact O6.out.mov R7.2 HG.out.1, by rw [← List.append_assoc]; exact R7.1, M6.out.trans R7.2⟩
        case measure => simp [lenOf]; omega
    · have hn : (t :: r).takeWhile isN = [] := List.takeWhile_cons_of_neg (by simp [isN]; omega)
      have HN := hid (now_is hrd hv)
      have ha := as_sn (.string (strB t.s))
      have HM := hid hmv
      have HX := hid (And.intro hrd how)
      have HF := hid (And.intro (few_done hall hn (by omega)) (takeWhile_done hall hn))
      clear hrd hmv how hall HR
      go_wp2_with (first
        | (refine Sv.wp_sv ntS (x := (0, false)) rfl (.tmp 5) (.tmp 11) rfl rfl (by rfl) q2 ?_; intro w3 q3 b3 o3 s3; have B3 := hid (B2.out.trans (b3.mono B1.out.size)); clear q3 b3 o3 s3)
        | (refine Sv.wp_al ntS rfl rfl ?_; intro w2 q2 b2 s2; have B2 := hid (B1.out.trans (b2.mono B1.out.size)); clear b2 s2)
        | (go_at_call 60; refine HN.out.mono ?_; rintro e w1 ⟨rfl, b1⟩; have B1 := hid b1; clear b1))
      go_ret2
      exact ⟨HM.out.then B3.out (Nat.le_of_lt HG.out.1), .inl ⟨hre ▸ HF.out.1.1, by rw [hre, HF.out.2.1, HF.out.2.2]; exact HX.out.1.below B3.out, A, k, c', hk, rfl, by
        rw [hre, HF.out.1.2]
        exact (HX.out.2.below B3.out).rowP.mono fun _ h _ => ⟨h.1, h.2.1⟩⟩⟩
end Go.Proofs.YtkfnkieljcipnaaGreatDoor

/-! PQ -/
namespace Go.Proofs.YtkfnkieljcipnaaGreatDoor
open Go Go.RowKit Go.Joins

/-- The reader has gone on from rest to r. -/
def Went (w' : World) (g b c : Nat) (pre rest : List Tk) (m : Nat) (r : List Tk) : Prop := ∃ p, rest = p ++ r ∧ Rd w' g b c (pre ++ p) r m
theorem Went.below {w w' : World} {g b c m : Nat} {pre rest r : List Tk} (h : Went w g b c pre rest m r) (hb : Below w.heap.size w w') : Went w' g b c pre rest m r := by
  obtain ⟨p, e, h⟩ := h; exact ⟨p, e, h.below hb⟩
theorem Went.more {w : World} {g b c m : Nat} {pre rest r q : List Tk} (h : Went w g b c (pre ++ q) rest m r) : Went w g b c pre (q ++ rest) m r := by
  obtain ⟨p, e, h⟩ := h; exact ⟨q ++ p, by rw [e, List.append_assoc], by rwa [← List.append_assoc]⟩
theorem Went.here {w : World} {g b c m : Nat} {pre rest : List Tk} (h : Rd w g b c pre rest m) : Went w g b c pre rest m rest := ⟨[], rfl, by rwa [List.append_nil]⟩
def SlPost (x : Res) (w : World) (g b c : Nat) (pre rest : List Tk) (e : Ending) (w' : World) : Prop :=
  Mov g w w' ∧ match x with
  | .ok f m r => Went w' g b c pre rest m r ∧ ∃ A k c', e = .returned (.tuple #[.slice A k c', .int .i64 0]) ∧ TrS w' (fun k => w.heap.size ≤ k ∧ k < w'.heap.size) A k f
  | .bad er r => (∃ m, Went w' g b c pre rest m r) ∧ (0 < er ∧ er ≤ 7) ∧ e = .returned (.tuple #[.slice none 0 0, .int .i64 (er : Nat)])
def smZ : Sm := ⟨[], none, 0, 0, false, none, 0, 0⟩
def SmPost (x : Res) (w : World) (g b c : Nat) (pre rest : List Tk) (e : Ending) (w' : World) : Prop :=
  Mov g w w' ∧ match x with
  | .ok f m r => Went w' g b c pre rest m r ∧ ∃ y : Sm, e = .returned (.tuple #[smV y, .int .i64 0]) ∧ Tr w' (fun k => w.heap.size ≤ k ∧ k < w'.heap.size) f [y]
  | .bad er r => (∃ m, Went w' g b c pre rest m r) ∧ (0 < er ∧ er ≤ 7) ∧ e = .returned (.tuple #[smV smZ, .int .i64 (er : Nat)])
/-- What list tells, with so much fuel. -/
def ListOk (n : Nat) : Prop := ∀ (deep : Nat) (w : World) (g b c many : Nat) (pre rest : List Tk), deep ≤ 6 → rest.length ≤ n → Rd w g b c pre rest many →
  Calls Tryz.prog 59 #[.pointer (some ⟨g, 0, none⟩), .int .i64 (deep : Nat)] w (SlPost (lstF n deep many rest) w g b c pre rest)
theorem sg_is (l m : List UInt8) : ((strB l).toList == m) = decide (l = m) := by
  rw [ByteArray.toList_eq, Bool.eq_iff_iff, beq_iff_eq, decide_eq_true_eq]
  exact Iff.rfl
theorem sg_ne {l m : List UInt8} (h : ¬ l = m) : ((strB l).toList == m) = false := (sg_is l m).trans (decide_eq_false h)
theorem sg_eq {l m : List UInt8} (h : l = m) : ((strB l).toList == m) = true := (sg_is l m).trans (decide_eq_true h)
def blkX (L : Nat → Nat → List Tk → Res) (d many : Nat) (s : Tk) (r : List Tk) : Res := if 6 < d then .bad 6 (s :: r) else blkF L d many r

set_option maxRecDepth 100000 in
theorem block_any {n : Nat} (hl : ListOk n) {d : Nat} {w : World} {g b c many : Nat} {pre r : List Tk} {s : Tk} (hd : d ≤ 1000) (hr : r.length ≤ n) (h : Rd w g b c pre (s :: r) many) :
    Calls Tryz.prog 101 #[.pointer (some ⟨g, 0, none⟩), .int .i64 (d : Nat)] w (SlPost (blkX (lstF n) d many s r) w g b c pre (s :: r)) := by
  have HG := hid (Nat.le_of_lt h.lt)
  have HR := hid h
  unfold blkX
  by_cases h6 : 6 < d
  · rw [if_pos h6]
    have h6' : (6 : Int) < d := by omega
    clear h
    go_enter Tryz.func101, Tryz.ntmps101
    go_wp2_with fail
    go_ret2
    exact ⟨Mov.refl _ _, ⟨many, .here HR.out⟩, ⟨by omega, by omega⟩, rfl⟩
  · rw [if_neg h6]
    have h6' : ¬ (6 : Int) < d := by omega
    have HL := hid (fun w1 h => hl d w1 g b c many (pre ++ [s]) r (by omega) hr h)
    unfold blkF
    have HS := hid (lst_short n d many r)
    generalize lstF n d many r = x at *
    have c1 := h.c1
    have f1 := h.free (j := 1) (by omega)
    have HGL := hid h.lt
    have HKD := hid (fun (t : Tk) (ht : t ∈ r) => h.kd t (by simp [ht]))
    have hkl : (pre.length : Int) ≤ 1000000 := by have := h.le; omega
    have hk0 : 0 ≤ (pre.length : Int) := by omega
    have HK := hid (show ∀ z : Int, z = (pre.length : Int) + 1 → _ from fun z hz => h.at1 (z := z) hz)
    clear h hl hd
    generalize (pre.length : Int) = q at *
    match x with
    | .bad er r2 =>
      show Calls _ _ _ w (SlPost (.bad er r2) w g b c pre (s :: r))
      go_enter Tryz.func101, Tryz.ntmps101
      go_upto_region 4 with fail
      obtain ⟨R1, M1⟩ := HK.out (q + 1) rfl
      have HL1 := hid (HL.out _ R1)
      have M1 := hid M1
      clear HL HK R1 c1 f1
      generalize w.setCell ⟨g, 1, none⟩ (.int .i64 (q + 1)) = w1 at *
      have HL2 : Hid (Calls Tryz.prog 59 #[.pointer (some ⟨g, 0, none⟩), .int .i64 (d : Nat)] w1 fun e w2 => Mov g w w2 ∧ (∃ m, Went w2 g b c pre (s :: r) m r2) ∧ (0 < er ∧ er ≤ 7) ∧ e = .returned (.tuple #[.slice none 0 0, .int .i64 (er : Nat)])) := hid (HL1.out.mono fun e w2 ⟨h1, ⟨m, h2⟩, h3, h4⟩ => ⟨M1.out.trans h1, ⟨m, h2.more⟩, h3, h4⟩)
      clear HL1 M1
      go_wp2_with (first
        | (go_at_call 59; refine HL2.out.mono ?_; rintro e w2 ⟨m2, h2, h3, rfl⟩; have X2 := hid (And.intro m2 h2); have X3 := hid h3; have hne : ((er : Int) == 0) = false := beq_eq_false_iff_ne.2 (by omega); clear m2 h2 h3))
      go_ret2
      exact ⟨X2.out.1, X2.out.2, X3.out, rfl⟩
    | .ok f m [] =>
      show Calls _ _ _ w (SlPost (.bad 3 ([])) w g b c pre (s :: r))
      go_enter Tryz.func101, Tryz.ntmps101
      go_upto_region 4 with fail
      obtain ⟨R1, M1⟩ := HK.out (q + 1) rfl
      have HL1 := hid (HL.out _ R1)
      have M1 := hid M1
      clear HL HK R1 c1 f1
      generalize w.setCell ⟨g, 1, none⟩ (.int .i64 (q + 1)) = w1 at *
      have HL2 : Hid (Calls Tryz.prog 59 #[.pointer (some ⟨g, 0, none⟩), .int .i64 (d : Nat)] w1 fun e w2 => ∃ A k c', e = .returned (.tuple #[.slice A k c', .int .i64 0]) ∧ Mov g w w2 ∧ Went w2 g b c pre (s :: r) m ([]) ∧ TrS w2 (fun k => w.heap.size ≤ k ∧ k < w2.heap.size) A k f) := hid (HL1.out.mono fun e w2 ⟨h1, h2, A, k, c', h3, h4⟩ => ⟨A, k, c', h3, M1.out.trans h1, h2.more, h4.mono fun _ h _ => ⟨Nat.le_trans M1.out.size h.1, h.2⟩⟩)
      clear HL1 M1
      go_upto_region 7 with (first
        | (go_at_call 59; refine HL2.out.mono ?_; rintro e w2 ⟨A, k, c', rfl, m2, h2, h3⟩; have M2 := hid m2; have hw := h2; have T2 := hid h3; clear m2 h2 h3))
      obtain ⟨p, hp, hrd⟩ := hw
      have hw : Went w2 g b c pre (s :: r) m ([]) := ⟨p, hp, hrd⟩
      have HW := hid hw
      have HN := hid (now_is hrd (v := .iface 93 (.agg #[])) rfl)
      have HX := hid (fun w' h => wrong_any (hrd.below (w' := w') h))
      have ha := as_es (.agg #[])
      clear hrd hw
      go_wp2_with (first
        | (go_at_call 100; refine (HX.out _ B3.out).mono ?_; rintro e w4 ⟨rfl, b4⟩; have B4 := hid (B3.out.trans (b4.mono B3.out.size)); clear b4)
        | (go_at_call 60; refine HN.out.mono ?_; rintro e w3 ⟨rfl, b3⟩; have B3 := hid b3; clear b3))
      go_ret2
      exact ⟨M2.out.then B4.out HG.out, ⟨m, HW.out.below B4.out⟩, ⟨by decide, by decide⟩, rfl⟩
    | .ok f m (t :: r3) =>
      rcases kinds t r3 with ⟨h1, hv⟩ | ⟨h2, hv⟩ | ⟨h1, h2, hv⟩
      · have e1 : (if t.kind = 3 ∧ t.s = [125] then Res.ok f m r3 else .bad 4 (t :: r3)) = .bad 4 (t :: r3) := if_neg (by omega)
        simp only [e1]
        show Calls _ _ _ w (SlPost (.bad 4 (t :: r3)) w g b c pre (s :: r))
        go_enter Tryz.func101, Tryz.ntmps101
        go_upto_region 4 with fail
        obtain ⟨R1, M1⟩ := HK.out (q + 1) rfl
        have HL1 := hid (HL.out _ R1)
        have M1 := hid M1
        clear HL HK R1 c1 f1
        generalize w.setCell ⟨g, 1, none⟩ (.int .i64 (q + 1)) = w1 at *
        have HL2 : Hid (Calls Tryz.prog 59 #[.pointer (some ⟨g, 0, none⟩), .int .i64 (d : Nat)] w1 fun e w2 => ∃ A k c', e = .returned (.tuple #[.slice A k c', .int .i64 0]) ∧ Mov g w w2 ∧ Went w2 g b c pre (s :: r) m (t :: r3) ∧ TrS w2 (fun k => w.heap.size ≤ k ∧ k < w2.heap.size) A k f) := hid (HL1.out.mono fun e w2 ⟨h1, h2, A, k, c', h3, h4⟩ => ⟨A, k, c', h3, M1.out.trans h1, h2.more, h4.mono fun _ h _ => ⟨Nat.le_trans M1.out.size h.1, h.2⟩⟩)
        clear HL1 M1
        go_upto_region 7 with (first
          | (go_at_call 59; refine HL2.out.mono ?_; rintro e w2 ⟨A, k, c', rfl, m2, h2, h3⟩; have M2 := hid m2; have hw := h2; have T2 := hid h3; clear m2 h2 h3))
        obtain ⟨p, hp, hrd⟩ := hw
        have hw : Went w2 g b c pre (s :: r) m (t :: r3) := ⟨p, hp, hrd⟩
        have HW := hid hw
        have HN := hid (now_is hrd hv)
        have HX := hid (fun w' h => wrong_any (hrd.below (w' := w') h))
        have ha := as_ws (.string (strB t.s))
        clear hrd hw
        go_wp2_with (first
          | (go_at_call 100; refine (HX.out _ B3.out).mono ?_; rintro e w4 ⟨rfl, b4⟩; have B4 := hid (B3.out.trans (b4.mono B3.out.size)); clear b4)
          | (go_at_call 60; refine HN.out.mono ?_; rintro e w3 ⟨rfl, b3⟩; have B3 := hid b3; clear b3))
        go_ret2
        exact ⟨M2.out.then B4.out HG.out, ⟨m, HW.out.below B4.out⟩, ⟨by decide, by decide⟩, rfl⟩
      · have e1 : (if t.kind = 3 ∧ t.s = [125] then Res.ok f m r3 else .bad 4 (t :: r3)) = .bad 4 (t :: r3) := if_neg (by omega)
        simp only [e1]
        show Calls _ _ _ w (SlPost (.bad 4 (t :: r3)) w g b c pre (s :: r))
        go_enter Tryz.func101, Tryz.ntmps101
        go_upto_region 4 with fail
        obtain ⟨R1, M1⟩ := HK.out (q + 1) rfl
        have HL1 := hid (HL.out _ R1)
        have M1 := hid M1
        clear HL HK R1 c1 f1
        generalize w.setCell ⟨g, 1, none⟩ (.int .i64 (q + 1)) = w1 at *
        have HL2 : Hid (Calls Tryz.prog 59 #[.pointer (some ⟨g, 0, none⟩), .int .i64 (d : Nat)] w1 fun e w2 => ∃ A k c', e = .returned (.tuple #[.slice A k c', .int .i64 0]) ∧ Mov g w w2 ∧ Went w2 g b c pre (s :: r) m (t :: r3) ∧ TrS w2 (fun k => w.heap.size ≤ k ∧ k < w2.heap.size) A k f) := hid (HL1.out.mono fun e w2 ⟨h1, h2, A, k, c', h3, h4⟩ => ⟨A, k, c', h3, M1.out.trans h1, h2.more, h4.mono fun _ h _ => ⟨Nat.le_trans M1.out.size h.1, h.2⟩⟩)
        clear HL1 M1
        go_upto_region 7 with (first
          | (go_at_call 59; refine HL2.out.mono ?_; rintro e w2 ⟨A, k, c', rfl, m2, h2, h3⟩; have M2 := hid m2; have hw := h2; have T2 := hid h3; clear m2 h2 h3))
        obtain ⟨p, hp, hrd⟩ := hw
        have hw : Went w2 g b c pre (s :: r) m (t :: r3) := ⟨p, hp, hrd⟩
        have HW := hid hw
        have HN := hid (now_is hrd hv)
        have HX := hid (fun w' h => wrong_any (hrd.below (w' := w') h))
        have ha := as_ns (.agg #[.int .i64 t.n, .bool t.time])
        clear hrd hw
        go_wp2_with (first
          | (go_at_call 100; refine (HX.out _ B3.out).mono ?_; rintro e w4 ⟨rfl, b4⟩; have B4 := hid (B3.out.trans (b4.mono B3.out.size)); clear b4)
          | (go_at_call 60; refine HN.out.mono ?_; rintro e w3 ⟨rfl, b3⟩; have B3 := hid b3; clear b3))
        go_ret2
        exact ⟨M2.out.then B4.out HG.out, ⟨m, HW.out.below B4.out⟩, ⟨by decide, by decide⟩, rfl⟩
      · by_cases hs : t.s = [125]
        · have e1 : (if t.kind = 3 ∧ t.s = [125] then Res.ok f m r3 else .bad 4 (t :: r3)) = (if t.kind = 3 then Res.ok f m r3 else .bad 4 (t :: r3)) := by simp only [hs, and_true]
          by_cases hk3 : t.kind = 3
          · rw [if_pos hk3] at e1
            simp only [e1]
            show Calls _ _ _ w (SlPost (.ok f m r3) w g b c pre (s :: r))
            go_enter Tryz.func101, Tryz.ntmps101
            go_upto_region 4 with fail
            obtain ⟨R1, M1⟩ := HK.out (q + 1) rfl
            have HL1 := hid (HL.out _ R1)
            have M1 := hid M1
            clear HL HK R1 c1 f1
            generalize w.setCell ⟨g, 1, none⟩ (.int .i64 (q + 1)) = w1 at *
            have HL2 : Hid (Calls Tryz.prog 59 #[.pointer (some ⟨g, 0, none⟩), .int .i64 (d : Nat)] w1 fun e w2 => ∃ A k c', e = .returned (.tuple #[.slice A k c', .int .i64 0]) ∧ Mov g w w2 ∧ Went w2 g b c pre (s :: r) m (t :: r3) ∧ TrS w2 (fun k => w.heap.size ≤ k ∧ k < w2.heap.size) A k f) := hid (HL1.out.mono fun e w2 ⟨h1, h2, A, k, c', h3, h4⟩ => ⟨A, k, c', h3, M1.out.trans h1, h2.more, h4.mono fun _ h _ => ⟨Nat.le_trans M1.out.size h.1, h.2⟩⟩)
            clear HL1 M1
            go_upto_region 7 with (first
              | (go_at_call 59; refine HL2.out.mono ?_; rintro e w2 ⟨A, k, c', rfl, m2, h2, h3⟩; have M2 := hid m2; have hw := h2; have T2 := hid h3; clear m2 h2 h3))
            obtain ⟨p, hp, hrd⟩ := hw
            have hw : Went w2 g b c pre (s :: r) m (t :: r3) := ⟨p, hp, hrd⟩
            have HN := hid (now_is hrd hv)
            have ha := as_ss (.string (strB t.s))
            have hsx := sg_eq hs
            clear hs e1
            have HB := hid (show ∀ w3, Below w2.heap.size w2 w3 → Rd w3 g b c (pre ++ p) (t :: r3) m from fun w3 h => hrd.below h)
            clear hrd hw
            go_upto_region 10 with (first
              | (go_at_call 60; refine HN.out.mono ?_; rintro e w3 ⟨rfl, b3⟩; have B3 := hid b3; clear b3))
            have R3 := HB.out _ B3.out
            have c1 := R3.c1
            have f1 := R3.free (j := 1) (by omega)
            have hkl : ((pre ++ p).length : Int) ≤ 1000000 := by have := R3.le; omega
            have HK := hid (show ∀ z : Int, z = ((pre ++ p).length : Int) + 1 → _ from fun z hz => R3.at1 (z := z) hz)
            clear R3 HB
            obtain ⟨q2, hq⟩ : ∃ q, (pre ++ p).length = q := ⟨_, rfl⟩
            rw [hq] at c1 hkl
            have HQ := hid hq
            clear hq
            go_wp2_with fail
            have R7 := HK.out ((q2 : Int) + 1) (by rw [HQ.out])
            go_ret2
            exact ⟨(M2.out.then B3.out HG.out).trans R7.2, ⟨p ++ [t], by rw [hp]; simp, by rw [← List.append_assoc]; exact R7.1⟩, A, k, c', rfl, ((T2.out.keep fun b hb hs => B3.out.block b hs).mov (R7.2) (fun b hb => Nat.lt_of_lt_of_le HGL.out hb.1)).mono fun b hb h => ⟨hb.1, h⟩⟩
          · exfalso
            obtain ⟨q, hq⟩ := HS.out
            rcases HKD.out t (by rw [hq]; simp) with h3 | h3 | h3
            · exact h1 h3
            · exact h2 h3
            · exact hk3 h3

        · have e1 : (if t.kind = 3 ∧ t.s = [125] then Res.ok f m r3 else .bad 4 (t :: r3)) = .bad 4 (t :: r3) := if_neg (fun h => hs h.2)
          simp only [e1]
          show Calls _ _ _ w (SlPost (.bad 4 (t :: r3)) w g b c pre (s :: r))
          go_enter Tryz.func101, Tryz.ntmps101
          go_upto_region 4 with fail
          obtain ⟨R1, M1⟩ := HK.out (q + 1) rfl
          have HL1 := hid (HL.out _ R1)
          have M1 := hid M1
          clear HL HK R1 c1 f1
          generalize w.setCell ⟨g, 1, none⟩ (.int .i64 (q + 1)) = w1 at *
          have HL2 : Hid (Calls Tryz.prog 59 #[.pointer (some ⟨g, 0, none⟩), .int .i64 (d : Nat)] w1 fun e w2 => ∃ A k c', e = .returned (.tuple #[.slice A k c', .int .i64 0]) ∧ Mov g w w2 ∧ Went w2 g b c pre (s :: r) m (t :: r3) ∧ TrS w2 (fun k => w.heap.size ≤ k ∧ k < w2.heap.size) A k f) := hid (HL1.out.mono fun e w2 ⟨h1, h2, A, k, c', h3, h4⟩ => ⟨A, k, c', h3, M1.out.trans h1, h2.more, h4.mono fun _ h _ => ⟨Nat.le_trans M1.out.size h.1, h.2⟩⟩)
          clear HL1 M1
          go_upto_region 7 with (first
            | (go_at_call 59; refine HL2.out.mono ?_; rintro e w2 ⟨A, k, c', rfl, m2, h2, h3⟩; have M2 := hid m2; have hw := h2; have T2 := hid h3; clear m2 h2 h3))
          obtain ⟨p, hp, hrd⟩ := hw
          have hw : Went w2 g b c pre (s :: r) m (t :: r3) := ⟨p, hp, hrd⟩
          have HW := hid hw
          have HN := hid (now_is hrd hv)
          have HX := hid (fun w' h => wrong_any (hrd.below (w' := w') h))
          have ha := as_ss (.string (strB t.s))
          have hsx := sg_ne hs
          clear hrd hw
          go_wp2_with (first
            | (go_at_call 100; refine (HX.out _ B3.out).mono ?_; rintro e w4 ⟨rfl, b4⟩; have B4 := hid (B3.out.trans (b4.mono B3.out.size)); clear b4)
            | (go_at_call 60; refine HN.out.mono ?_; rintro e w3 ⟨rfl, b3⟩; have B3 := hid b3; clear b3))
          go_ret2
          exact ⟨M2.out.then B4.out HG.out, ⟨m, HW.out.below B4.out⟩, ⟨by decide, by decide⟩, rfl⟩
end Go.Proofs.YtkfnkieljcipnaaGreatDoor

/-! PR -/
namespace Go.Proofs.YtkfnkieljcipnaaGreatDoor
open Go Go.RowKit Go.Joins

theorem Sh.Var.mov {P : Program} {α : Type} {σ : Sh P α} {w w' : World} {k g : Nat} {x : α} (h : σ.Var w k x) (hm : Mov g w w') (hg : g < k) : σ.Var w' k x := by
  have e := hm.up k hg h.lt
  exact ⟨fun j v hv => (World.cell?_of_block (a := ⟨k, 0 + j, none⟩) e).trans (h.1 j v hv), fun j hj => ⟨by rw [World.cell?_of_block (a := ⟨k, 0 + j, none⟩) e]; exact (h.2 j hj).1, by rw [World.frozen?_of_block (a := ⟨k, 0 + j, none⟩) e]; exact (h.2 j hj).2⟩⟩
/-- One cell of a variable set. -/
theorem Sh.Var.set1 {P : Program} {α : Type} {σ : Sh P α} {w : World} {k j : Nat} {x x' : α} {v : Value} (h : σ.Var w k x) (hj : j < σ.N) (he : ∀ i u, (σ.enc x')[i]? = some u → if i = j then u = v else (σ.enc x)[i]? = some u) :
    σ.Var (w.setCell ⟨k, j, none⟩ v) k x' ∧ Below k w (w.setCell ⟨k, j, none⟩ v) ∧ Oth k w (w.setCell ⟨k, j, none⟩ v) := by
  have hs := setCells_oth k [v] j w
  refine ⟨⟨fun i u hu => ?_, World.there_setCells h.2 k j [v]⟩, hs.1, hs.2⟩
  have h1 := he i u hu
  by_cases hij : i = j
  · subst hij
    rw [if_pos rfl] at h1
    subst h1
    have := World.rangeAt_setCells_same w k i [u] (fun q hq => by
      obtain rfl : q = 0 := by simp at hq; exact hq
      have := h.2 i hj
      rwa [Nat.zero_add] at this) 0 u rfl
    rwa [Nat.zero_add]
  · rw [if_neg hij] at h1
    have h0 : w.rangeAt k i [u] := fun q y hq => by
      obtain rfl : q = 0 := by have := (List.getElem?_eq_some_iff.1 hq).1; simp at this; exact this
      have h2 := h.1 i u h1
      rw [Nat.zero_add] at h2
      simp at hq
      rw [← hq]
      exact h2
    have := World.rangeAt_setCells_apart h0 k j [v] (by simp only [List.length_singleton]; omega) 0 u rfl
    rwa [Nat.zero_add]
theorem results_s1 {w : World} {g : Nat} {fn : Func} {p r : Tmp} (h : fn.results = #[.cell p 36, .tmp r]) (tmps : Array Value) (hp : tmps.getD p undef = .pointer (some ⟨g, 0, none⟩)) {x : Sm} (hx : smS.Var w g x) :
    (results fn tmps).run Tryz.prog w = .ok (.tuple #[smV x, tmps.getD r undef]) w := by
  have : (loadVar 36 ⟨g, 0, none⟩).run Tryz.prog w = .ok (smV x) w := Sh.ldv smS hx.1
  have hp' : tmps[p]?.getD undef = .pointer (some ⟨g, 0, none⟩) := by simpa using hp
  simp only [results, h]
  simp [Result.andThen, hp', this, asAddr]
def stmX (L : Nat → Nat → List Tk → Res) (deep many : Nat) (t : Tk) (rest : List Tk) : Res := if many = 2000 then .bad 7 (t :: rest) else stmF L t.s deep (many + 1) rest
theorem rest_head {ts : List Tk} {t : Tk} {r : List Tk} (h : restF ts = t :: r) : ¬ t.kind = 2 := by
  have := List.head?_dropWhile_not isN ts
  unfold restF at h
  rw [h] at this
  simpa [isN] using this

theorem numbers_ok {w : World} {g b c many : Nat} {pre rest r : List Tk} (h : Rd w g b c pre rest many) (hf : fewN rest = true) (hr : restF rest = r) : Calls Tryz.prog 99 #[.pointer (some ⟨g, 0, none⟩)] w fun e w' =>
    Mov g w w' ∧ Rd w' g b c (pre ++ rest.takeWhile isN) r many ∧ ∃ A n c', n ≤ 8 ∧ e = .returned (.tuple #[.slice A n c', .int .i64 0]) ∧ RwP nmS w' (fun k => w.heap.size ≤ k ∧ k < w'.heap.size) A n (numsF rest) := by
  subst hr
  refine (numbers_any h).mono ?_
  rintro e w' ⟨h1, ⟨_, h2, h3⟩ | ⟨h2, _⟩⟩
  · exact ⟨h1, h2, h3⟩
  · rw [hf] at h2; cases h2

set_option maxRecDepth 100000 in
theorem stm_full {n : Nat} {d : Nat} {w : World} {g b c many : Nat} {pre rest : List Tk} {t : Tk} (h : Rd w g b c pre (t :: rest) many) (hm : many = 2000) :
    Calls Tryz.prog 81 #[.pointer (some ⟨g, 0, none⟩), .string (strB t.s), .int .i64 (d : Nat)] w (SmPost (stmX (lstF n) d many t rest) w g b c pre (t :: rest)) := by
  have HG := hid h.lt
  have HR := hid h
  unfold stmX
  rw [if_pos hm]
  have c2 := h.c2
  rw [hm] at c2
  clear h hm
  go_enter Tryz.func81, Tryz.ntmps81
  go_wp2_with (first
    | (refine Sh.wp_sv smS (x := smZ) rfl (.tmp 6) (.tmp 16) rfl rfl (by rfl) q1 ?_; intro w3 q3 b3 o3 s3; have B3 := hid (B1.out.trans (b3.mono (Nat.le_refl _))); clear b3 o3 s3)
    | (refine Sh.wp_al smS rfl rfl ?_; intro w1 q1 b1 s1; have c2 : w1.cell? ⟨g, 2, none⟩ = some (.int .i64 (2000 : Nat)) := (b1.cell (p := ⟨g, 2, none⟩) HG.out).trans c2; have B1 := hid b1; clear b1 s1))
  exact bodyPost_ret (results_s1 Tryz.results81 _ rfl q3) rfl ⟨.of B3.out (Nat.le_of_lt HG.out), ⟨many, .here (HR.out.below B3.out)⟩, ⟨by decide, by decide⟩, rfl⟩

set_option maxHeartbeats 1000000 in
set_option maxRecDepth 100000 in
theorem stm_nums {d : Nat} {w : World} {g b c many : Nat} {pre rest : List Tk} {t : Tk} (h : Rd w g b c pre (t :: rest) many) (hm : ¬ many = 2000) (hf : fewN rest = false) :
    Calls Tryz.prog 81 #[.pointer (some ⟨g, 0, none⟩), .string (strB t.s), .int .i64 (d : Nat)] w (SmPost (.bad 7 (rest.drop 8)) w g b c pre (t :: rest)) := by
  have HG := hid h.lt
  have HGB := hid h.ltb
  have hm2 : many ≤ 1999 := by have := h.le2; omega
  have hm3 : many < 2000 := by omega
  have hmf : ((many : Int) == 2000) = false := beq_eq_false_iff_ne.2 (by omega)
  have HR := hid h
  clear h
  go_enter Tryz.func81, Tryz.ntmps81
  go_upto_region 4 with (first
    | (refine Sh.wp_al smS rfl rfl ?_; intro w1 v1 b1 s1; have B1 := hid b1; have V1 := hid v1; have R1 := HR.out.below b1; have c2 := R1.c2; have f2 := R1.free (j := 2) (by omega); have HK := hid (fun (z : Int) (hz : z = (many : Int) + 1) => R1.many1 hm3 (z := z) hz); clear R1 b1 v1 s1))
  obtain ⟨R2, M2⟩ := HK.out ((many : Int) + 1) rfl
  have M2 := hid ((Mov.of B1.out (Nat.le_of_lt HG.out)).trans M2)
  have V2 := hid (V1.out.mov (HK.out ((many : Int) + 1) rfl).2 HG.out)
  clear HK c2 f2 V1 B1
  generalize w1.setCell ⟨g, 2, none⟩ (.int .i64 ((many : Int) + 1)) = w2 at *
  have c1 := R2.c1
  have f1 := R2.free (j := 1) (by omega)
  have hkl : (pre.length : Int) ≤ 1000000 := by have := R2.le; omega
  have hk0 : 0 ≤ (pre.length : Int) := by omega
  have HK := hid (show ∀ z : Int, z = (pre.length : Int) + 1 → _ from fun z hz => R2.at1 (z := z) hz)
  clear R2
  generalize (pre.length : Int) = q at *
  go_upto_region 5 with fail
  obtain ⟨R3, M3⟩ := HK.out (q + 1) rfl
  have V3 := hid (V2.out.mov M3 HG.out)
  have M3 := hid (M2.out.trans M3)
  have HN := hid (numbers_any R3)
  clear HK c1 f1 V2 M2 R3
  generalize w2.setCell ⟨g, 1, none⟩ (.int .i64 (q + 1)) = w3 at *
  go_wp2_with (first
    | (refine Sh.wp_sv smS (x := smZ) rfl (.tmp 6) (.tmp 38) rfl rfl (by rfl) q4 ?_; intro w5 q5 b5 o5 s5; have B5 := hid b5; have O5 := hid o5; clear b5 o5 s5)
    | (go_at_call 99; refine HN.out.mono ?_; rintro e w4 ⟨m4, ⟨hf2, _⟩ | ⟨_, r4, rfl⟩⟩; (exfalso; rw [hf] at hf2; cases hf2); have M4 := hid (M3.out.trans m4); have R4 := hid r4; have q4 := V3.out.mov m4 HG.out; clear m4 r4))
  exact bodyPost_ret (results_s1 Tryz.results81 _ rfl q5) rfl ⟨M4.out.since (B5.out) (Nat.le_of_lt HG.out), ⟨many + 1, Went.more (q := [t]) ⟨rest.take 8, (List.take_append_drop 8 rest).symm, R4.out.over B5.out HG.out (Nat.lt_of_lt_of_le HGB.out (Nat.le_refl _))⟩⟩, ⟨by decide, by decide⟩, rfl⟩

set_option maxHeartbeats 1000000 in
set_option maxRecDepth 100000 in
theorem stm_end {d : Nat} {w : World} {g b c many : Nat} {pre rest : List Tk} {t : Tk} (h : Rd w g b c pre (t :: rest) many) (hm : ¬ many = 2000) (hf : fewN rest = true) (hr : restF rest = []) :
    Calls Tryz.prog 81 #[.pointer (some ⟨g, 0, none⟩), .string (strB t.s), .int .i64 (d : Nat)] w (SmPost (.bad 3 ([])) w g b c pre (t :: rest)) := by
  have HG := hid h.lt
  have hm2 : many ≤ 1999 := by have := h.le2; omega
  have hm3 : many < 2000 := by omega
  have hmf : ((many : Int) == 2000) = false := beq_eq_false_iff_ne.2 (by omega)
  have HGB := hid h.ltb
  have hv := (show nowV [] = .iface 93 (.agg #[]) from rfl)
  have a1 := as_ew (.agg #[])
  have a2 := as_ee (.agg #[])
  have HR := hid h
  clear h
  go_enter Tryz.func81, Tryz.ntmps81
  go_upto_region 4 with (first
    | (refine Sh.wp_al smS rfl rfl ?_; intro w1 v1 b1 s1; have B1 := hid b1; have V1 := hid v1; have R1 := HR.out.below b1; have c2 := R1.c2; have f2 := R1.free (j := 2) (by omega); have HK := hid (fun (z : Int) (hz : z = (many : Int) + 1) => R1.many1 hm3 (z := z) hz); clear R1 b1 v1 s1))
  obtain ⟨R2, M2⟩ := HK.out ((many : Int) + 1) rfl
  have M2 := hid ((Mov.of B1.out (Nat.le_of_lt HG.out)).trans M2)
  have V2 := hid (V1.out.mov (HK.out ((many : Int) + 1) rfl).2 HG.out)
  clear HK c2 f2 V1 B1
  generalize w1.setCell ⟨g, 2, none⟩ (.int .i64 ((many : Int) + 1)) = w2 at *
  have c1 := R2.c1
  have f1 := R2.free (j := 1) (by omega)
  have hkl : (pre.length : Int) ≤ 1000000 := by have := R2.le; omega
  have hk0 : 0 ≤ (pre.length : Int) := by omega
  have HK := hid (show ∀ z : Int, z = (pre.length : Int) + 1 → _ from fun z hz => R2.at1 (z := z) hz)
  clear R2
  generalize (pre.length : Int) = q at *
  go_upto_region 5 with fail
  obtain ⟨R3, M3⟩ := HK.out (q + 1) rfl
  have V3 := hid (V2.out.mov M3 HG.out)
  have M3 := hid (M2.out.trans M3)
  have HN := hid (numbers_ok R3 hf hr)
  clear HK c1 f1 V2 M2 R3
  generalize w2.setCell ⟨g, 1, none⟩ (.int .i64 (q + 1)) = w3 at *
  go_wp2_with (first
    | (refine Sh.wp_sv smS (x := smZ) rfl (.tmp 6) (.tmp 49) rfl rfl (by rfl) q6 ?_; intro w7 q7 b7 o7 s7; have B7 := hid b7; clear b7 o7 s7)
    | (go_at_call 100; refine N6.out.mono ?_; rintro e w6 ⟨rfl, b6⟩; have B6 := hid (B5.out.trans (b6.mono B5.out.size)); have q6 := q5.keep b6; clear b6)
    | (go_at_call 60; refine N5.out.mono ?_; rintro e w5 ⟨rfl, b5⟩; have B5 := hid b5; have q5 := q4.keep b5; have N6 := hid (wrong_any (R4.out.below b5)); clear b5)
    | (go_at_call 99; refine HN.out.mono ?_; rintro e w4 ⟨m4, r4, A, k, c4, hk8, rfl, hns⟩; have M4 := hid (M3.out.trans m4); have R4 := hid r4; have q4 := V3.out.mov m4 HG.out; have NS4 := hid (hns.mono (P' := fun j => w.heap.size ≤ j ∧ j < w4.heap.size) fun _ h _ => ⟨Nat.le_trans M3.out.size h.1, h.2⟩); have N5 := hid (now_is R4.out hv); have K8 := hid hk8; clear m4 r4 hns hk8))
  have B67 := hid (B6.out.mono M4.out.size)
  exact bodyPost_ret (results_s1 Tryz.results81 _ rfl q7) rfl ⟨(M4.out.then B6.out (Nat.le_of_lt HG.out)).since B7.out (Nat.le_of_lt HG.out), ⟨many + 1, Went.more (q := [t]) ⟨rest.takeWhile isN, by rw [← hr]; exact (List.takeWhile_append_dropWhile).symm, (R4.out.below B6.out).over B7.out HG.out HGB.out⟩⟩, ⟨by decide, by decide⟩, rfl⟩

set_option maxHeartbeats 1000000 in
set_option maxRecDepth 100000 in
theorem stm_word {d : Nat} {w : World} {g b c many : Nat} {pre rest : List Tk} {t u : Tk} {r2 : List Tk} (h : Rd w g b c pre (t :: rest) many) (hm : ¬ many = 2000) (hf : fewN rest = true) (hr : restF rest = u :: r2) (hu : u.kind = 1) :
    Calls Tryz.prog 81 #[.pointer (some ⟨g, 0, none⟩), .string (strB t.s), .int .i64 (d : Nat)] w (SmPost (.bad 4 (u :: r2)) w g b c pre (t :: rest)) := by
  have HG := hid h.lt
  have hm2 : many ≤ 1999 := by have := h.le2; omega
  have hm3 : many < 2000 := by omega
  have hmf : ((many : Int) == 2000) = false := beq_eq_false_iff_ne.2 (by omega)
  have HGB := hid h.ltb
  have hv := now_w u r2 hu
  have a1 := as_ww (.string (strB u.s))
  have a2 := as_we (.string (strB u.s))
  have HR := hid h
  clear h
  go_enter Tryz.func81, Tryz.ntmps81
  go_upto_region 4 with (first
    | (refine Sh.wp_al smS rfl rfl ?_; intro w1 v1 b1 s1; have B1 := hid b1; have V1 := hid v1; have R1 := HR.out.below b1; have c2 := R1.c2; have f2 := R1.free (j := 2) (by omega); have HK := hid (fun (z : Int) (hz : z = (many : Int) + 1) => R1.many1 hm3 (z := z) hz); clear R1 b1 v1 s1))
  obtain ⟨R2, M2⟩ := HK.out ((many : Int) + 1) rfl
  have M2 := hid ((Mov.of B1.out (Nat.le_of_lt HG.out)).trans M2)
  have V2 := hid (V1.out.mov (HK.out ((many : Int) + 1) rfl).2 HG.out)
  clear HK c2 f2 V1 B1
  generalize w1.setCell ⟨g, 2, none⟩ (.int .i64 ((many : Int) + 1)) = w2 at *
  have c1 := R2.c1
  have f1 := R2.free (j := 1) (by omega)
  have hkl : (pre.length : Int) ≤ 1000000 := by have := R2.le; omega
  have hk0 : 0 ≤ (pre.length : Int) := by omega
  have HK := hid (show ∀ z : Int, z = (pre.length : Int) + 1 → _ from fun z hz => R2.at1 (z := z) hz)
  clear R2
  generalize (pre.length : Int) = q at *
  go_upto_region 5 with fail
  obtain ⟨R3, M3⟩ := HK.out (q + 1) rfl
  have V3 := hid (V2.out.mov M3 HG.out)
  have M3 := hid (M2.out.trans M3)
  have HN := hid (numbers_ok R3 hf hr)
  clear HK c1 f1 V2 M2 R3
  generalize w2.setCell ⟨g, 1, none⟩ (.int .i64 (q + 1)) = w3 at *
  go_wp2_with (first
    | (refine Sh.wp_sv smS (x := smZ) rfl (.tmp 6) (.tmp 49) rfl rfl (by rfl) q6 ?_; intro w7 q7 b7 o7 s7; have B7 := hid b7; clear b7 o7 s7)
    | (go_at_call 100; refine N6.out.mono ?_; rintro e w6 ⟨rfl, b6⟩; have B6 := hid (B5.out.trans (b6.mono B5.out.size)); have q6 := q5.keep b6; clear b6)
    | (go_at_call 60; refine N5.out.mono ?_; rintro e w5 ⟨rfl, b5⟩; have B5 := hid b5; have q5 := q4.keep b5; have N6 := hid (wrong_any (R4.out.below b5)); clear b5)
    | (go_at_call 99; refine HN.out.mono ?_; rintro e w4 ⟨m4, r4, A, k, c4, hk8, rfl, hns⟩; have M4 := hid (M3.out.trans m4); have R4 := hid r4; have q4 := V3.out.mov m4 HG.out; have NS4 := hid (hns.mono (P' := fun j => w.heap.size ≤ j ∧ j < w4.heap.size) fun _ h _ => ⟨Nat.le_trans M3.out.size h.1, h.2⟩); have N5 := hid (now_is R4.out hv); have K8 := hid hk8; clear m4 r4 hns hk8))
  have B67 := hid (B6.out.mono M4.out.size)
  exact bodyPost_ret (results_s1 Tryz.results81 _ rfl q7) rfl ⟨(M4.out.then B6.out (Nat.le_of_lt HG.out)).since B7.out (Nat.le_of_lt HG.out), ⟨many + 1, Went.more (q := [t]) ⟨rest.takeWhile isN, by rw [← hr]; exact (List.takeWhile_append_dropWhile).symm, (R4.out.below B6.out).over B7.out HG.out HGB.out⟩⟩, ⟨by decide, by decide⟩, rfl⟩
end Go.Proofs.YtkfnkieljcipnaaGreatDoor

/-! PS -/
namespace Go.Proofs.YtkfnkieljcipnaaGreatDoor
open Go Go.RowKit Go.Joins

set_option maxHeartbeats 1000000 in
set_option maxRecDepth 100000 in
theorem stm_other {d : Nat} {w : World} {g b c many : Nat} {pre rest : List Tk} {t : Tk} (h : Rd w g b c pre (t :: rest) many) (hm : ¬ many = 2000) {u : Tk} {r2 : List Tk} (hf : fewN rest = true) (hr : restF rest = u :: r2) (hu1 : ¬ u.kind = 1) (hu : ¬ u.s = [59]) (hu2 : ¬ u.s = [123]) :
    Calls Tryz.prog 81 #[.pointer (some ⟨g, 0, none⟩), .string (strB t.s), .int .i64 (d : Nat)] w (SmPost (.bad 4 (u :: r2)) w g b c pre (t :: rest)) := by
  have HG := hid h.lt
  have hm2 : many ≤ 1999 := by have := h.le2; omega
  have hm3 : many < 2000 := by omega
  have hmf : ((many : Int) == 2000) = false := beq_eq_false_iff_ne.2 (by omega)
  have HGB := hid h.ltb
  have hv := now_s u r2 hu1 (rest_head hr)
  have a1 := as_sw (.string (strB u.s))
  have a2 := as_se (.string (strB u.s))
  have a3 := as_s1 (.string (strB u.s))
  have e1 := sg_ne hu
  have e2 := sg_ne hu2
  have HR := hid h
  clear h
  go_enter Tryz.func81, Tryz.ntmps81
  go_upto_region 4 with (first
    | (refine Sh.wp_al smS rfl rfl ?_; intro w1 v1 b1 s1; have B1 := hid b1; have V1 := hid v1; have R1 := HR.out.below b1; have c2 := R1.c2; have f2 := R1.free (j := 2) (by omega); have HK := hid (fun (z : Int) (hz : z = (many : Int) + 1) => R1.many1 hm3 (z := z) hz); clear R1 b1 v1 s1))
  obtain ⟨R2, M2⟩ := HK.out ((many : Int) + 1) rfl
  have M2 := hid ((Mov.of B1.out (Nat.le_of_lt HG.out)).trans M2)
  have V2 := hid (V1.out.mov (HK.out ((many : Int) + 1) rfl).2 HG.out)
  clear HK c2 f2 V1 B1
  generalize w1.setCell ⟨g, 2, none⟩ (.int .i64 ((many : Int) + 1)) = w2 at *
  have c1 := R2.c1
  have f1 := R2.free (j := 1) (by omega)
  have hkl : (pre.length : Int) ≤ 1000000 := by have := R2.le; omega
  have hk0 : 0 ≤ (pre.length : Int) := by omega
  have HK := hid (show ∀ z : Int, z = (pre.length : Int) + 1 → _ from fun z hz => R2.at1 (z := z) hz)
  clear R2
  generalize (pre.length : Int) = q at *
  go_upto_region 5 with fail
  have H36 := hid V2.out.lt
  obtain ⟨R3, M3⟩ := HK.out (q + 1) rfl
  have H36 := hid (Nat.lt_of_lt_of_le H36.out M3.size)
  have V3 := hid (V2.out.mov M3 HG.out)
  have M3 := hid (M2.out.trans M3)
  have HN := hid (numbers_ok R3 hf hr)
  clear HK c1 f1 V2 M2 R3
  generalize w2.setCell ⟨g, 1, none⟩ (.int .i64 (q + 1)) = w3 at *
  go_wp2_with (first
    | (refine Sh.wp_sv smS (x := smZ) rfl (.tmp 6) (.tmp 82) rfl rfl (by rfl) q69 ?_; intro w10 q10 b10 o10 s10; have B10 := hid b10; clear b10 o10 s10)
    | (go_at_call 100; refine (wrong_any R8.out).mono ?_; rintro e w9 ⟨rfl, b9⟩; have B9 := hid (B8.out.trans (b9.mono B8.out.size)); have q69 := q68.keep b9; clear b9)
    | (go_at_call 60; refine N7.out.mono ?_; rintro e w8 ⟨rfl, b8⟩; have B8 := hid (B7.out.trans (b8.mono B7.out.size)); have q8 := Q7.out.keep b8; have R8 := hid (R4.out.below (B7.out.trans (b8.mono B7.out.size))); have q68 := Q67.out.keep b8; clear b8)
    | (refine Sh.wp_sv smS (x := ⟨t.s, A, k, c4, false, none, 0, 0⟩) rfl (.tmp 10) (.tmp 54) rfl rfl (by rfl) q6 ?_; intro w7 q7 b7 o7 s7; have B7 := hid (B6.out.trans (b7.mono B5.out.size)); have Q7 := hid q7; have Q67 := hid ((q46.out.keep B6.out).other o7 (by have := H6.out; have := B5.out.size; omega)) ; have N7 := hid (now_is (R4.out.below (B6.out.trans (b7.mono B5.out.size))) hv); clear b7 o7 s7 q6 q7)
    | (refine Sh.wp_al smS rfl rfl ?_; intro w6 q6 b6 s6; have B6 := hid (B5.out.trans (b6.mono B5.out.size)); clear b6 s6)
    | (go_at_call 60; refine N5.out.mono ?_; rintro e w5 ⟨rfl, b5⟩; have B5 := hid b5; have H6 := hid q4.lt; have q46 := hid q4; clear b5 q4)
    | (go_at_call 99; refine HN.out.mono ?_; rintro e w4 ⟨m4, r4, A, k, c4, hk8, rfl, hns⟩; have M4 := hid (M3.out.trans m4); have R4 := hid r4; have q4 := V3.out.mov m4 HG.out; have NS4 := hid (hns.mono (P' := fun j => w3.heap.size ≤ j ∧ j < w4.heap.size) fun _ h _ => h); have N5 := hid (now_is R4.out hv); have K8 := hid hk8; clear m4 r4 hns hk8))
  exact bodyPost_ret (results_s1 Tryz.results81 _ rfl q10) rfl ⟨(M4.out.then B9.out (Nat.le_of_lt HG.out)).since B10.out (Nat.le_of_lt HG.out), ⟨many + 1, Went.more (q := [t]) ⟨rest.takeWhile isN, by rw [← hr]; exact (List.takeWhile_append_dropWhile).symm, (R4.out.below B9.out).over B10.out HG.out HGB.out⟩⟩, ⟨by decide, by decide⟩, rfl⟩

set_option maxHeartbeats 1000000 in
set_option maxRecDepth 100000 in
theorem stm_stop {d : Nat} {w : World} {g b c many : Nat} {pre rest : List Tk} {t : Tk} (h : Rd w g b c pre (t :: rest) many) (hm : ¬ many = 2000) {u : Tk} {r2 : List Tk} (hf : fewN rest = true) (hr : restF rest = u :: r2) (hu1 : ¬ u.kind = 1) (hu : u.s = [59]) :
    Calls Tryz.prog 81 #[.pointer (some ⟨g, 0, none⟩), .string (strB t.s), .int .i64 (d : Nat)] w (SmPost (.ok (.cons t.s (numsF rest) false .nil .nil) (many + 1) r2) w g b c pre (t :: rest)) := by
  have HG := hid h.lt
  have hm2 : many ≤ 1999 := by have := h.le2; omega
  have hm3 : many < 2000 := by omega
  have hmf : ((many : Int) == 2000) = false := beq_eq_false_iff_ne.2 (by omega)
  have HGB := hid h.ltb
  have hv := now_s u r2 hu1 (rest_head hr)
  have a1 := as_sw (.string (strB u.s))
  have a2 := as_se (.string (strB u.s))
  have a3 := as_s1 (.string (strB u.s))
  have e1 := sg_eq hu
  clear hu
  have HR := hid h
  clear h
  go_enter Tryz.func81, Tryz.ntmps81
  go_upto_region 4 with (first
    | (refine Sh.wp_al smS rfl rfl ?_; intro w1 v1 b1 s1; have B1 := hid b1; have V1 := hid v1; have R1 := HR.out.below b1; have c2 := R1.c2; have f2 := R1.free (j := 2) (by omega); have HK := hid (fun (z : Int) (hz : z = (many : Int) + 1) => R1.many1 hm3 (z := z) hz); clear R1 b1 v1 s1))
  obtain ⟨R2, M2⟩ := HK.out ((many : Int) + 1) rfl
  have M2 := hid ((Mov.of B1.out (Nat.le_of_lt HG.out)).trans M2)
  have V2 := hid (V1.out.mov (HK.out ((many : Int) + 1) rfl).2 HG.out)
  clear HK c2 f2 V1 B1
  generalize w1.setCell ⟨g, 2, none⟩ (.int .i64 ((many : Int) + 1)) = w2 at *
  have c1 := R2.c1
  have f1 := R2.free (j := 1) (by omega)
  have hkl : (pre.length : Int) ≤ 1000000 := by have := R2.le; omega
  have hk0 : 0 ≤ (pre.length : Int) := by omega
  have HK := hid (show ∀ z : Int, z = (pre.length : Int) + 1 → _ from fun z hz => R2.at1 (z := z) hz)
  clear R2
  generalize (pre.length : Int) = q at *
  go_upto_region 5 with fail
  have H36 := hid V2.out.lt
  obtain ⟨R3, M3⟩ := HK.out (q + 1) rfl
  have H36 := hid (Nat.lt_of_lt_of_le H36.out M3.size)
  have V3 := hid (V2.out.mov M3 HG.out)
  have M3 := hid (M2.out.trans M3)
  have HN := hid (numbers_ok R3 hf hr)
  clear HK c1 f1 V2 M2 R3
  generalize w2.setCell ⟨g, 1, none⟩ (.int .i64 (q + 1)) = w3 at *
  go_upto_region 15 with (first
    | (go_at_call 60; refine N7.out.mono ?_; rintro e w8 ⟨rfl, b8⟩; have B8 := hid (B7.out.trans (b8.mono B7.out.size)); have q8 := Q7.out.keep b8; have R8 := hid (R4.out.below (B7.out.trans (b8.mono B7.out.size))); have q68 := Q67.out.keep b8; clear b8)
    | (refine Sh.wp_sv smS (x := ⟨t.s, A, k, c4, false, none, 0, 0⟩) rfl (.tmp 10) (.tmp 54) rfl rfl (by rfl) q6 ?_; intro w7 q7 b7 o7 s7; have B7 := hid (B6.out.trans (b7.mono B5.out.size)); have Q7 := hid q7; have Q67 := hid ((q46.out.keep B6.out).other o7 (by have := H6.out; have := B5.out.size; omega)) ; have N7 := hid (now_is (R4.out.below (B6.out.trans (b7.mono B5.out.size))) hv); clear b7 o7 s7 q6 q7)
    | (refine Sh.wp_al smS rfl rfl ?_; intro w6 q6 b6 s6; have B6 := hid (B5.out.trans (b6.mono B5.out.size)); clear b6 s6)
    | (go_at_call 60; refine N5.out.mono ?_; rintro e w5 ⟨rfl, b5⟩; have B5 := hid b5; have H6 := hid q4.lt; have q46 := hid q4; clear b5 q4)
    | (go_at_call 99; refine HN.out.mono ?_; rintro e w4 ⟨m4, r4, A, k, c4, hk8, rfl, hns⟩; have M4 := hid (M3.out.trans m4); have R4 := hid r4; have q4 := V3.out.mov m4 HG.out; have NS4 := hid (hns.mono (P' := fun j => w3.heap.size ≤ j ∧ j < w4.heap.size) fun _ h _ => h); have N5 := hid (now_is R4.out hv); have K8 := hid hk8; clear m4 r4 hns hk8))
  have c1 := R8.out.c1
  have f1 := R8.out.free (j := 1) (by omega)
  have hkl : ((pre ++ [t] ++ rest.takeWhile isN).length : Int) ≤ 1000000 := by have := R8.out.le; omega
  have HK := hid (fun (z : Int) (hz : z = ((pre ++ [t] ++ rest.takeWhile isN).length : Int) + 1) => R8.out.at1 (z := z) hz)
  obtain ⟨q2, hq⟩ : ∃ q, (pre ++ [t] ++ rest.takeWhile isN).length = q := ⟨_, rfl⟩
  rw [hq] at c1 hkl
  have HQ := hid hq
  clear hq
  have Q8 := hid (And.intro q8 q68)
  clear q8 q68
  go_upto_region 19 with fail
  obtain ⟨R9, M9⟩ := HK.out ((q2 : Int) + 1) (by rw [HQ.out])
  have hgl : g < w5.heap.size := Nat.lt_of_lt_of_le (Nat.lt_of_lt_of_le HG.out M4.out.size) B5.out.size
  have v9 := Q8.out.1.mov M9 hgl
  have q69 := Q8.out.2.mov M9 HG.out
  have R9 := hid R9
  have M9 := hid M9
  clear HK c1 f1
  generalize w8.setCell ⟨g, 1, none⟩ (.int .i64 ((q2 : Int) + 1)) = w9 at *
  go_wp2_with (first
    | (refine Sh.wp_sv smS (x := ⟨t.s, A, k, c4, false, none, 0, 0⟩) rfl (.tmp 6) (.tmp 84) rfl rfl (by rfl) q69 ?_; intro w10 q10 b10 o10 s10; have B10 := hid b10; have O10 := hid o10; clear b10 o10 s10)
    | (refine Sh.wp_ld smS rfl (.tmp 10) rfl rfl v9.1 ?_))
  refine bodyPost_ret (results_s1 Tryz.results81 _ rfl q10) rfl ⟨((M4.out.then B8.out (Nat.le_of_lt HG.out)).trans M9.out).since B10.out (Nat.le_of_lt HG.out), Went.more (q := [t]) ⟨rest.takeWhile isN ++ [u], by rw [List.append_assoc]; show _ = rest.takeWhile isN ++ u :: r2; rw [← hr]; exact (List.takeWhile_append_dropWhile).symm, by rw [← List.append_assoc]; exact R9.out.over B10.out HG.out HGB.out⟩, ⟨t.s, A, k, c4, false, none, 0, 0⟩, rfl,
    ⟨⟨t.s, A, k, c4, false, none, 0, 0⟩, [], rfl, rfl, rfl, ?_, ⟨[], RwP.nil, rfl⟩, rfl⟩⟩
  have n8 := (NS4.out.keep (fun j _ hj => B8.out.block j hj)).keep (w' := w9) (fun j hj hs => M9.out.up j (Nat.lt_of_lt_of_le (Nat.lt_trans HG.out H36.out) hj.1) hs)
  have n10 := n8.keep (w' := w10) (fun j hj _ => O10.out j (by have := hj.1; have := H36.out; omega))
  exact n10.mono fun j hj hs => ⟨Nat.le_trans (Nat.le_of_lt H36.out) hj.1, hs⟩
end Go.Proofs.YtkfnkieljcipnaaGreatDoor
