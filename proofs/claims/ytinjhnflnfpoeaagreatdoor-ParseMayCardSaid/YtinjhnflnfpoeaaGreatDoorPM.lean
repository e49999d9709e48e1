/-
  Words for memory of the parser: numbers and statements in memory (nmS, smS), a slice that lies in blocks of which P holds (RwP), a forest in memory (Tr, TrS), one under construction (Lo), a reader (Rd), and a call that touches the reader alone (Mov). No condition but what each head says.
-/
import Derived.Test.YtinjhnflnfpoeaaGreatDoorLA
import Derived.Test.YtinjhnflnfpoeaaGreatDoorPP
namespace Go.Proofs.YtinjhnflnfpoeaaGreatDoor
open Go Go.RowKit

def encN (x : Int × Bool) : List Value := [.int .i64 x.1, .bool x.2]
def nmS : Sh Tryz.prog (Int × Bool) where
  enc := encN
  N := 2
  T := 38
  S := 34
  by_ := 16
  z := (0, false)
  d := _
  len := fun _ => rfl
  pos := by omega
  one := by intro x u hu; simp [encN] at hu; rcases hu with rfl | rfl <;> rfl
  undS := Tryz.underlying34
  undT := Tryz.underlying38
  isRow := rfl
  info := by kernel_rfl
  size := by kernel_rfl
  zero := fun w => by kernel_rfl
  small := by omega
  smallN := by omega
/-- A statement's four cells. -/
structure Sm where
  word : List UInt8
  nA : Option Addr
  nn : Nat
  nc : Nat
  block : Bool
  bA : Option Addr
  bn : Nat
  bc : Nat
def encS (x : Sm) : List Value := [.string (strB x.word), .slice x.nA x.nn x.nc, .bool x.block, .slice x.bA x.bn x.bc]
def smS : Sh Tryz.prog Sm where
  enc := encS
  N := 4
  T := 36
  S := 24
  by_ := 72
  z := ⟨[], none, 0, 0, false, none, 0, 0⟩
  d := _
  len := fun _ => rfl
  pos := by omega
  one := by intro x u hu; simp [encS] at hu; rcases hu with rfl | rfl | rfl | rfl <;> rfl
  undS := Tryz.underlying24
  undT := Tryz.underlying36
  isRow := rfl
  info := by kernel_rfl
  size := by kernel_rfl
  zero := fun w => by kernel_rfl
  small := by omega
  smallN := by omega
def smV (x : Sm) : Value := .agg #[.string (strB x.word), .slice x.nA x.nn x.nc, .bool x.block, .slice x.bA x.bn x.bc]
theorem nm_sm : nmS.T ≠ smS.T := by show 38 ≠ 36; decide
theorem sm_nm : smS.T ≠ nmS.T := by show 36 ≠ 38; decide

/-! ### A shape of which there is no slice -/
structure Sv (P : Program) (α : Type) where
  enc : α → List Value
  N : Nat
  T : TypeId
  z : α
  d : TypeDesc
  len : ∀ x, (enc x).length = N
  pos : 0 < N
  one : ∀ x, ∀ u ∈ enc x, u.oneCell' = true
  undT : P.underlying T = some d
  isRow : d.isRow = true
  size : (P.info? T).map (·.size) = some N
  zero : ∀ w, (zeroValue T).run P w = .ok (.agg (enc z).toArray) w
namespace Sv
variable {P : Program} {α : Type} (σ : Sv P α)
def val (x : α) : Value := .agg (σ.enc x).toArray
def Var (w : World) (g : Nat) (x : α) : Prop := w.rangeAt g 0 (σ.enc x) ∧ w.there g 0 σ.N
section
variable {σ} {w w' : World} {g : Nat} {x : α}
theorem Var.below (h : σ.Var w g x) {B : Nat} (hk : Below B w w') (hb : g < B) : σ.Var w' g x := ⟨range_keep h.1 hb hk, there_keep h.2 hb hk⟩
theorem Var.lt (h : σ.Var w g x) : g < w.heap.size := by
  have h0 := (h.2 0 σ.pos).1
  obtain ⟨u, hu⟩ := Option.isSome_iff_exists.1 h0
  exact World.block_lt_of_cell? w _ hu
theorem Var.keep (h : σ.Var w g x) (hk : Below w.heap.size w w') : σ.Var w' g x := h.below hk h.lt
theorem Var.cell (h : σ.Var w g x) {j : Nat} {v : Value} (hj : (σ.enc x)[j]? = some v) : w.cell? ⟨g, j, none⟩ = some v := by
  have := h.1 j v hj; rwa [Nat.zero_add] at this
theorem Var.free (h : σ.Var w g x) {j : Nat} (hj : j < σ.N) : w.frozen? ⟨g, j, none⟩ = false := by
  have := (h.2 j hj).2; rwa [Nat.zero_add] at this
end
section
variable {w : World} {g : Nat} {x : α} {ops : Array Oper} {rest : List Oper} {o : Oper} {a : Act} {Q : Exit → Act → World → Prop}
theorem var_new (w : World) (x : α) (t : TypeId) : σ.Var (w.alloc (.cells (σ.enc x).toArray t)) w.heap.size x := ⟨range_new w _ t, by have := there_new w (σ.enc x) t; rwa [σ.len] at this⟩
theorem var_stored {g : Nat} (ht : w.there g 0 σ.N) (x : α) : σ.Var (w.setCells g 0 (σ.enc x)) g x := ⟨World.rangeAt_setCells_same w g 0 (σ.enc x) (by rw [σ.len]; exact ht), World.there_setCells ht g 0 _⟩
theorem wp_al (hg : o.guard = none) (ho : o.op = .alloc σ.T)
    (h : ∀ w', σ.Var w' w.heap.size σ.z → Below w.heap.size w w' → Hid (w'.heap.size = w.heap.size + 1) → wpList P ops Q rest (a.put o.dst (.pointer (some ⟨w.heap.size, 0, none⟩))) w') : wpList P ops Q (o :: rest) a w := by
  refine wpList_plain hg fun K hK => ?_
  unfold Oper.wp execOp
  simp only [ho, Sem.run_bind, Instr.alloc, σ.zero, newVar, newRow, run_newObj_alloc, Sem.run_pure, Result.andThen_ok]
  exact hK _ _ (h _ (var_new σ w σ.z σ.T) ((Below.refl _ _).alloc (Nat.le_refl _) _) (hid (by simp)))
theorem wp_ld (hw : Region.wanted o (yielded ops a.tmps) = true) (e : Operand) (ho : o.op = .load σ.T e) {b off : Nat} (hx : a.eval e = .pointer (some ⟨b, off, none⟩)) (hv : w.rangeAt b off (σ.enc x))
    (h : wpList P ops Q rest (a.put o.dst (σ.val x)) w) : wpList P ops Q (o :: rest) a w :=
  wpList_step fun _ hK => by rw [if_pos hw]; exact wp_load_mid σ.T e ho b off hx (σ.enc x) _ hv σ.undT σ.isRow (by rw [σ.size, σ.len]) (hK _ _ h)
theorem wp_sv (hg : o.guard = none) (e y : Operand) (ho : o.op = .store σ.T e y) {p : α} (hx : a.eval e = .pointer (some ⟨g, 0, none⟩)) (hy : a.eval y = σ.val x) (hv : σ.Var w g p)
    (h : ∀ w', σ.Var w' g x → Below g w w' → Oth g w w' → Hid (w'.heap.size = w.heap.size) → wpList P ops Q rest (a.put o.dst undef) w') : wpList P ops Q (o :: rest) a w :=
  wpList_store_mid hg σ.T e y ho g 0 (σ.enc x).toArray hx hy (by have := hv.2; simpa [σ.len] using this) (by rw [σ.size]; simp [σ.len]) (all_oneCell_toArray (σ.one x)) (h _ (var_stored σ hv.2 x) (setCells_oth g _ _ _).1 (setCells_oth g _ _ _).2 (hid (setCells_size _ _ _ _)))
end
end Sv
/-- a number's token -/
def ntS : Sv Tryz.prog (Int × Bool) where
  enc := encN
  N := 2
  T := 71
  z := (0, false)
  d := _
  len := fun _ => rfl
  pos := by omega
  one := by intro x u hu; simp [encN] at hu; rcases hu with rfl | rfl <;> rfl
  undT := Tryz.underlying71
  isRow := rfl
  size := by kernel_rfl
  zero := fun w => by kernel_rfl

/-- A slice of n things at A reads as xs, and lies in a block of which P holds. -/
def RwP {Q : Program} {α : Type} (σ : Sh Q α) (w : World) (P : Nat → Prop) (A : Option Addr) (n : Nat) (xs : List α) : Prop :=
  xs.length = n ∧ (0 < n → ∃ b o, A = some ⟨b, o, none⟩ ∧ P b ∧ ∀ j u, (σ.flat xs)[j]? = some u → w.cell? ⟨b, o + j, none⟩ = some u)
section
variable {Q : Program} {α : Type} {σ : Sh Q α} {w w' : World} {P P' : Nat → Prop} {A : Option Addr} {n c base B : Nat} {xs : List α}
theorem RwP.nil : RwP σ w P A 0 [] := ⟨rfl, fun h => absurd h (by omega)⟩
theorem RwP.mono (h : RwP σ w P A n xs) (hP : ∀ b, P b → b < w.heap.size → P' b) : RwP σ w P' A n xs := ⟨h.1, fun hn => by
  obtain ⟨b, o, e, hb, hc⟩ := h.2 hn
  refine ⟨b, o, e, hP b hb ?_, hc⟩
  obtain ⟨x, xs', rfl⟩ : ∃ x xs', xs = x :: xs' := by
    cases xs with
    | nil => have := h.1; simp at this; omega
    | cons x xs' => exact ⟨x, xs', rfl⟩
  obtain ⟨u, us, hu⟩ : ∃ u us, σ.enc x = u :: us := by
    cases he : σ.enc x with
    | nil => have := σ.len x; rw [he] at this; have := σ.pos; simp at *; omega
    | cons u us => exact ⟨u, us, rfl⟩
  exact World.block_lt_of_cell? w _ (hc 0 u (by rw [Sh.flat_cons, hu]; rfl))⟩
theorem RwP.keep (h : RwP σ w P A n xs) (hk : ∀ b, P b → b < w.heap.size → w'.heap[b]? = w.heap[b]?) : RwP σ w' P A n xs := ⟨h.1, fun hn => by
  obtain ⟨b, o, e, hb, hc⟩ := h.2 hn
  obtain ⟨b', o', e', hb', _⟩ := (h.mono (P' := fun b => P b ∧ b < w.heap.size) (fun b h1 h2 => ⟨h1, h2⟩)).2 hn
  obtain ⟨rfl, rfl⟩ : b = b' ∧ o = o' := by
    rw [e] at e'; injection e' with e'; injection e' with e1 e2; exact ⟨e1, e2⟩
  exact ⟨b, o, e, hb, fun j u hu => (World.cell?_of_block (a := ⟨b, o + j, none⟩) (hk b hb hb'.2)).trans (hc j u hu)⟩⟩
theorem RwP.row (h : RwP σ w P A n xs) (hP : ∀ b, P b → b < B) : σ.Rw w B A n xs := ⟨h.1, fun hn => by
  obtain ⟨b, o, e, hb, hc⟩ := h.2 hn
  exact ⟨b, o, e, hP b hb, hc⟩⟩
theorem RwP.size (h : RwP σ w P A n xs) : σ.Rw w w.heap.size A n xs := (h.mono (P' := fun b => b < w.heap.size) (fun _ _ h => h)).row fun _ h => h
theorem _root_.Go.Proofs.YtinjhnflnfpoeaaGreatDoor.Sh.Ow.rowP (h : σ.Ow w base A n c xs) : RwP σ w (fun k => base ≤ k ∧ k < w.heap.size ∧ some k = Value.ownBlock (.slice A n c)) A n xs := by
  refine ⟨h.len, fun hn => ?_⟩
  rcases h.2 with ⟨_, h0⟩ | ⟨g, cap, cur, hv, hb, hg, _⟩
  · omega
  · have hA : A = some ⟨g, 0, none⟩ := by injection hv
    subst hA
    refine ⟨g, 0, rfl, ⟨hb, (Array.getElem?_eq_some_iff.1 hg).1, rfl⟩, fun j u hu => ?_⟩
    have := h.cells (g := g) rfl j u hu
    rwa [plain_add] at this
end

/-- A forest in memory: what the statements' cells tell of, in blocks of which P holds. -/
def Tr (w : World) (P : Nat → Prop) : Fo → List Sm → Prop
  | .nil, xs => xs = []
  | .cons wd ns bl y nx, xs => ∃ x xs', xs = x :: xs' ∧ x.word = wd ∧ x.block = bl ∧ RwP nmS w P x.nA x.nn ns ∧ (∃ ys, RwP smS w P x.bA x.bn ys ∧ Tr w P y ys) ∧ Tr w P nx xs'
/-- A slice that reads as a forest. -/
def TrS (w : World) (P : Nat → Prop) (A : Option Addr) (n : Nat) (f : Fo) : Prop := ∃ xs, RwP smS w P A n xs ∧ Tr w P f xs
section
variable {w w' : World} {P P' : Nat → Prop} {A : Option Addr} {n c base g : Nat} {f : Fo} {xs : List Sm}
theorem Tr.mono (hP : ∀ b, P b → b < w.heap.size → P' b) : ∀ {f : Fo} {xs : List Sm}, Tr w P f xs → Tr w P' f xs
  | .nil, _, h => h
  | .cons _ _ _ _ _, _, ⟨x, xs', e, h1, h2, h3, ⟨ys, h4, h5⟩, h6⟩ => ⟨x, xs', e, h1, h2, h3.mono hP, ⟨ys, h4.mono hP, Tr.mono hP h5⟩, Tr.mono hP h6⟩
theorem Tr.keep (hk : ∀ b, P b → b < w.heap.size → w'.heap[b]? = w.heap[b]?) : ∀ {f : Fo} {xs : List Sm}, Tr w P f xs → Tr w' P f xs
  | .nil, _, h => h
  | .cons _ _ _ _ _, _, ⟨x, xs', e, h1, h2, h3, ⟨ys, h4, h5⟩, h6⟩ => ⟨x, xs', e, h1, h2, h3.keep hk, ⟨ys, h4.keep hk, Tr.keep hk h5⟩, Tr.keep hk h6⟩
theorem Tr.app : ∀ {f : Fo} {xs : List Sm} {h : Fo} {zs : List Sm}, Tr w P f xs → Tr w P h zs → Tr w P (f.app h) (xs ++ zs)
  | .nil, _, _, _, rfl, h2 => h2
  | .cons _ _ _ _ _, _, _, _, ⟨x, xs', rfl, h1, h2, h3, h4, h6⟩, h7 => ⟨x, _, rfl, h1, h2, h3, h4, Tr.app h6 h7⟩
theorem Tr.len : ∀ {f : Fo} {xs : List Sm}, Tr w P f xs → xs.length = f.len
  | .nil, _, rfl => rfl
  | .cons _ _ _ _ _, _, ⟨x, xs', rfl, _, _, _, _, h6⟩ => by rw [List.length_cons, Tr.len h6]; rfl
theorem TrS.mono (h : TrS w P A n f) (hP : ∀ b, P b → b < w.heap.size → P' b) : TrS w P' A n f := ⟨h.choose, h.choose_spec.1.mono hP, h.choose_spec.2.mono hP⟩
theorem TrS.keep (h : TrS w P A n f) (hk : ∀ b, P b → b < w.heap.size → w'.heap[b]? = w.heap[b]?) : TrS w' P A n f := ⟨h.choose, h.choose_spec.1.keep hk, h.choose_spec.2.keep hk⟩
theorem TrS.len (h : TrS w P A n f) : n = f.len := by obtain ⟨xs, h1, h2⟩ := h; rw [← h2.len, h1.1]
theorem TrS.nil : TrS w P A 0 .nil := ⟨[], RwP.nil, rfl⟩

/-- Statements under construction: a slice of the call's own, what it tells of in other blocks of the call's own. -/
structure Lo (w : World) (base : Nat) (A : Option Addr) (n c : Nat) (f : Fo) (xs : List Sm) : Prop where
  ow : smS.Ow w base A n c xs
  tr : Tr w (fun k => base ≤ k ∧ k < w.heap.size ∧ some k ≠ Value.ownBlock (.slice A n c)) f xs
theorem Lo.nil (w : World) (base : Nat) : Lo w base none 0 0 .nil [] := ⟨Sh.Ow.nil _ _, rfl⟩
theorem Lo.keep (h : Lo w base A n c f xs) (hb : ∀ k, base ≤ k → k < w.heap.size → w'.heap[k]? = w.heap[k]?) (_ : w.heap.size ≤ w'.heap.size) : Lo w' base A n c f xs := by
  refine ⟨⟨h.ow.1, ?_⟩, (h.tr.keep fun b hP hb' => hb b hP.1 hb').mono fun b hP _ => ⟨hP.1, by omega, hP.2.2⟩⟩
  rcases h.ow.2 with h0 | ⟨g, cap, cur, hv, hg, hh, r⟩
  · exact .inl h0
  · exact .inr ⟨g, cap, cur, hv, hg, (hb g hg (Array.getElem?_eq_some_iff.1 hh).1).trans hh, r⟩
theorem Lo.below (h : Lo w base A n c f xs) (hb : Below w.heap.size w w') : Lo w' base A n c f xs := h.keep (fun k _ h2 => hb.block k h2) hb.size
theorem Lo.len (h : Lo w base A n c f xs) : n = f.len := by rw [← h.tr.len, h.ow.len]
theorem Lo.tree (h : Lo w base A n c f xs) : TrS w (fun k => base ≤ k ∧ k < w.heap.size) A n f :=
  ⟨xs, h.ow.rowP.mono fun _ h _ => ⟨h.1, h.2.1⟩, h.tr.mono fun _ h _ => ⟨h.1, h.2.1⟩⟩
theorem own_lt {A : Option Addr} (h : smS.Ow w base A n c xs) (k : Nat) (hk : Value.ownBlock (.slice A n c) = some k) : base ≤ k ∧ k < w.heap.size := World.ownsRow.lt h k hk
/-- One more at the end. -/
theorem Lo.push {w0 : World} {x : Sm} {h : Fo} {A' : Option Addr} {n' c' : Nat} (hl : Lo w base A n c f xs) (h0 : Value.ownBlock (.slice A n c) = none ∨ ∃ k, Value.ownBlock (.slice A n c) = some k ∧ k < w0.heap.size) (hbase : base ≤ w0.heap.size) (hx : Tr w (fun k => w0.heap.size ≤ k ∧ k < w.heap.size) h [x])
    (ow : smS.Ow w' base A' n' c' (xs ++ [x])) (hg : w.grownBy w' (Value.ownBlock (.slice A n c))) (hl2 : Value.ownBlock (.slice A' n' c') = Value.ownBlock (.slice A n c) ∨ Value.ownBlock (.slice A' n' c') = some w.heap.size) : Lo w' base A' n' c' (f.app h) (xs ++ [x]) := by
  have hx2 : Tr w (fun k => base ≤ k ∧ k < w.heap.size ∧ some k ≠ Value.ownBlock (.slice A n c)) h [x] := hx.mono fun b hb _ => ⟨by omega, hb.2, fun e => by
    rcases h0 with h0 | ⟨k, h0, hk⟩
    · rw [h0] at e; cases e
    · rw [h0] at e; cases e; have := hb.1; omega⟩
  have h1 := hl.tr.app hx2
  refine ⟨ow, (h1.keep fun b hb hs => hg.block b hs hb.2.2).mono fun b hb _ => ⟨hb.1, Nat.lt_of_lt_of_le hb.2.1 hg.size, ?_⟩⟩
  rcases hl2 with e | e
  · rw [e]; exact hb.2.2
  · rw [e]; intro e2; cases e2; have := hb.2.1; omega

/-- Of what was there at w only block g may have turned. -/
structure Mov (g : Nat) (w w' : World) : Prop where
  bl : Below g w w'
  up : ∀ k, g < k → k < w.heap.size → w'.heap[k]? = w.heap[k]?
theorem Mov.refl (g : Nat) (w : World) : Mov g w w := ⟨Below.refl _ _, fun _ _ _ => rfl⟩
theorem Mov.trans {w1 w2 : World} (h : Mov g w w1) (h2 : Mov g w1 w2) : Mov g w w2 := ⟨h.bl.trans h2.bl, fun k hk hs => (h2.up k hk (Nat.lt_of_lt_of_le hs h.bl.size)).trans (h.up k hk hs)⟩
theorem Mov.of (h : Below w.heap.size w w') (hg : g ≤ w.heap.size) : Mov g w w' := ⟨h.mono hg, fun k _ hs => h.block k hs⟩
theorem Mov.then {w1 w2 : World} (h : Mov g w w1) (h2 : Below w1.heap.size w1 w2) (hg : g ≤ w.heap.size) : Mov g w w2 := h.trans (.of h2 (Nat.le_trans hg h.bl.size))
/-- What was made since may turn, too. -/
theorem Mov.since {w1 w2 : World} (h : Mov g w w1) (h2 : Below w.heap.size w1 w2) (hg : g ≤ w.heap.size) : Mov g w w2 := ⟨h.bl.trans (h2.mono hg), fun k hk hs => (h2.block k hs).trans (h.up k hk hs)⟩
theorem Mov.oth (hb : Below g w w') (ho : Oth g w w') : Mov g w w' := ⟨hb, fun k hk _ => ho k (by omega)⟩
theorem _root_.Go.Proofs.YtinjhnflnfpoeaaGreatDoor.Sh.Ow.mov {Q : Program} {α : Type} {σ : Sh Q α} {ys : List α} (h : σ.Ow w base A n c ys) (hm : Mov g w w') (hg : g < base) : σ.Ow w' base A n c ys := by
  refine ⟨h.1, ?_⟩
  rcases h.2 with h0 | ⟨j, cap, cur, hv, hj, hh, r⟩
  · exact .inl h0
  · exact .inr ⟨j, cap, cur, hv, hj, (hm.up j (by omega) (Array.getElem?_eq_some_iff.1 hh).1).trans hh, r⟩
theorem Mov.size {w1 : World} (h : Mov g w w1) : w.heap.size ≤ w1.heap.size := h.bl.size
theorem Lo.mov (h : Lo w base A n c f xs) (hm : Mov g w w') (hg : g < base) : Lo w' base A n c f xs := h.keep (fun k h1 h2 => hm.up k (by omega) h2) hm.size
theorem Tr.mov (h : Tr w P f xs) (hm : Mov g w w') (hg : ∀ b, P b → g < b) : Tr w' P f xs := h.keep fun b hb hs => hm.up b (hg b hb) hs
theorem TrS.mov (h : TrS w P A n f) (hm : Mov g w w') (hg : ∀ b, P b → g < b) : TrS w' P A n f := h.keep fun b hb hs => hm.up b (hg b hb) hs
end

/-! ### Tokens, each of its type, and a reader of them -/
def tyV (t : Tk) : Value := if t.kind = 1 then .iface 70 (.string (strB t.s)) else if t.kind = 2 then .iface 71 (.agg #[.int .i64 t.n, .bool t.time]) else .iface 72 (.string (strB t.s))
def endV : Value := .iface 74 (.agg #[])
def nowV : List Tk → Value
  | [] => endV
  | t :: _ => tyV t
def rowV (ts : List Tk) : List Value := ts.map tyV ++ [endV]
theorem row_at (pre rest : List Tk) : (rowV (pre ++ rest))[pre.length]? = some (nowV rest) := by
  unfold rowV
  rw [List.map_append, List.append_assoc, List.getElem?_append_right (by simp)]
  cases rest <;> simp [nowV]
/-- Block g is a reader of the tokens in block b, at which so many are behind. -/
structure Rd (w : World) (g b c : Nat) (pre rest : List Tk) (many : Nat) : Prop where
  cells : w.rangeAt g 0 [.slice (some ⟨b, 0, none⟩) (pre.length + rest.length + 1) c, .int .i64 pre.length, .int .i64 many]
  there : w.there g 0 3
  row : w.rangeAt b 0 (rowV (pre ++ rest))
  ne : b ≠ g
  le : pre.length + rest.length ≤ 1000000
  le2 : many ≤ 2000
  kd : ∀ t ∈ pre ++ rest, t.kind = 1 ∨ t.kind = 2 ∨ t.kind = 3
section
variable {w w' : World} {g b c many : Nat} {pre rest : List Tk}
theorem Rd.lt (h : Rd w g b c pre rest many) : g < w.heap.size := World.block_lt_of_cell? w _ (h.cells 1 _ rfl)
theorem Rd.ltb (h : Rd w g b c pre rest many) : b < w.heap.size := World.block_lt_of_cell? w _ (h.row _ _ (row_at pre rest))
theorem Rd.below (h : Rd w g b c pre rest many) (hb : Below w.heap.size w w') : Rd w' g b c pre rest many :=
  ⟨range_keep h.cells h.lt hb, there_keep h.there h.lt hb, range_keep h.row h.ltb hb, h.ne, h.le, h.le2, h.kd⟩
theorem Rd.over (h : Rd w g b c pre rest many) {B : Nat} (hb : Below B w w') (hg : g < B) (h2 : b < B) : Rd w' g b c pre rest many :=
  ⟨range_keep h.cells hg hb, there_keep h.there hg hb, range_keep h.row h2 hb, h.ne, h.le, h.le2, h.kd⟩
theorem Rd.free (h : Rd w g b c pre rest many) {j : Nat} (hj : j < 3) : w.frozen? ⟨g, j, none⟩ = false := by
  have := (h.there j hj).2; rwa [Nat.zero_add] at this
theorem Rd.sign {t : Tk} {r : List Tk} (h : Rd w g b c pre (t :: r) many) (h1 : ¬ t.kind = 1) (h2 : ¬ t.kind = 2) : t.kind = 3 := by
  rcases h.kd t (by simp) with h3 | h3 | h3
  · exact absurd h3 h1
  · exact absurd h3 h2
  · exact h3
theorem Rd.drew (h : Rd w g b c pre rest many) : Rd w.drew g b c pre rest many := h.below ((Below.refl _ _).drew)
theorem Rd.c0 (h : Rd w g b c pre rest many) : w.cell? ⟨g, 0, none⟩ = some (.slice (some ⟨b, 0, none⟩) (pre.length + rest.length + 1) c) := h.cells 0 _ rfl
theorem Rd.c1 (h : Rd w g b c pre rest many) : w.cell? ⟨g, 1, none⟩ = some (.int .i64 pre.length) := h.cells 1 _ rfl
theorem Rd.c2 (h : Rd w g b c pre rest many) : w.cell? ⟨g, 2, none⟩ = some (.int .i64 many) := h.cells 2 _ rfl
theorem Rd.now (h : Rd w g b c pre rest many) : w.cell? ⟨b, pre.length, none⟩ = some (nowV rest) := by
  have := h.row _ _ (row_at pre rest); rwa [Nat.zero_add] at this
/-- One field set. -/
theorem Rd.at1 {t : Tk} {r : List Tk} (h : Rd w g b c pre (t :: r) many) {z : Int} (hz : z = (pre.length : Int) + 1) : Rd (w.setCell ⟨g, 1, none⟩ (.int .i64 z)) g b c (pre ++ [t]) r many ∧ Mov g w (w.setCell ⟨g, 1, none⟩ (.int .i64 z)) := by
  obtain rfl : z = (pre.length + 1 : Nat) := by omega
  have hs := setCells_oth g [.int .i64 (pre.length + 1 : Nat)] 1 w
  have hm : Mov g w (w.setCell ⟨g, 1, none⟩ (.int .i64 (pre.length + 1 : Nat))) := .oth hs.1 hs.2
  refine ⟨⟨?_, World.there_setCells h.there g 1 [_], ?_, h.ne, by have := h.le; simp at *; omega, h.le2, by simpa using h.kd⟩, hm⟩
  · have h0 : w.rangeAt g 0 [.slice (some ⟨b, 0, none⟩) (pre.length + (t :: r).length + 1) c] := fun j v hj => by
      obtain rfl : j = 0 := by have := (List.getElem?_eq_some_iff.1 hj).1; simp at this; exact this
      exact h.cells 0 v hj
    have h2 : w.rangeAt g 2 [.int .i64 many] := fun j v hj => by
      obtain rfl : j = 0 := by have := (List.getElem?_eq_some_iff.1 hj).1; simp at this; exact this
      exact h.cells 2 v hj
    have a0 := World.rangeAt_setCells_apart h0 g 1 [.int .i64 (pre.length + 1 : Nat)] (.inr (.inl (by simp)))
    have a2 := World.rangeAt_setCells_apart h2 g 1 [.int .i64 (pre.length + 1 : Nat)] (.inr (.inr (by simp)))
    have a1 := World.rangeAt_setCells_same w g 1 [.int .i64 (pre.length + 1 : Nat)] (fun j hj => by
      obtain rfl : j = 0 := by simp at hj; exact hj
      exact h.there 1 (by omega))
    have e1 : (pre ++ [t]).length + r.length + 1 = pre.length + (t :: r).length + 1 := by simp; omega
    have e2 : (pre ++ [t]).length = pre.length + 1 := by simp
    rw [e1, e2]
    intro j v hj
    match j, hj with
    | 0, hj => exact a0 0 v hj
    | 1, hj => exact a1 0 v hj
    | 2, hj => exact a2 0 v hj
  · have := range_other h.row h.ne hs.2
    rwa [List.append_assoc, List.singleton_append]
theorem Rd.many1 (h : Rd w g b c pre rest many) (hm : many < 2000) {z : Int} (hz : z = (many : Int) + 1) : Rd (w.setCell ⟨g, 2, none⟩ (.int .i64 z)) g b c pre rest (many + 1) ∧ Mov g w (w.setCell ⟨g, 2, none⟩ (.int .i64 z)) := by
  obtain rfl : z = (many + 1 : Nat) := by omega
  have hs := setCells_oth g [.int .i64 (many + 1 : Nat)] 2 w
  have hm : Mov g w (w.setCell ⟨g, 2, none⟩ (.int .i64 (many + 1 : Nat))) := .oth hs.1 hs.2
  refine ⟨⟨?_, World.there_setCells h.there g 2 [_], range_other h.row h.ne hs.2, h.ne, h.le, by omega, h.kd⟩, hm⟩
  have h0 : w.rangeAt g 0 [.slice (some ⟨b, 0, none⟩) (pre.length + rest.length + 1) c, .int .i64 pre.length] := fun j v hj => by
    match j, hj with
    | 0, hj => exact h.cells 0 v hj
    | 1, hj => exact h.cells 1 v hj
  have a0 := World.rangeAt_setCells_apart h0 g 2 [.int .i64 (many + 1 : Nat)] (.inr (.inl (by simp)))
  have a2 := World.rangeAt_setCells_same w g 2 [.int .i64 (many + 1 : Nat)] (fun j hj => by
    obtain rfl : j = 0 := by simp at hj; exact hj
    exact h.there 2 (by omega))
  intro j v hj
  match j, hj with
  | 0, hj => exact a0 0 v hj
  | 1, hj => exact a0 1 v hj
  | 2, hj => exact a2 0 v hj
end
end Go.Proofs.YtinjhnflnfpoeaaGreatDoor
