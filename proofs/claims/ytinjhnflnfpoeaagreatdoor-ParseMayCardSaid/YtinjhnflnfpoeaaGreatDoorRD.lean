/-
  Contracts of slices.Clone at numbers, and words for flatBehind's region.
-/
import Derived.Test.YtinjhnflnfpoeaaGreatDoorRB
import Derived.Test.YtinjhnflnfpoeaaGreatDoorQI
namespace Go.Proofs.YtinjhnflnfpoeaaGreatDoor
open Go Go.RowKit Go.Joins

set_option maxRecDepth 100000 in
theorem cloneN_any (A : Option Addr) (n c : Nat) (ns : List (Int × Bool)) (w : World) (hr : nmS.Rw w w.heap.size A n ns) (hn : n ≤ 1000000) :
    Calls Tryz.prog 48 #[.slice A n c] w fun e w' => Below w.heap.size w w' ∧ ∃ A' c', e = .returned (.slice A' n c') ∧ RwP nmS w' (fun k => w.heap.size ≤ k ∧ k < w'.heap.size) A' n ns := by
  have HR := hid hr
  have q22 : ∀ (w : World) (a : Option Addr) (n c n' c' : Nat), (binOp .eql 34 (.slice a n c) (.slice none n' c')).run Tryz.prog w = .ok (.bool a.isNone) w := fun w a n c n' c' => Lib.run_eql_slice_nil w _ _ a n c n' c' Tryz.underlying34
  cases A with
  | none =>
    obtain rfl : n = 0 := by
      rcases Nat.eq_zero_or_pos n with h | h
      · exact h
      · obtain ⟨b, o, e, _⟩ := hr.2 h; cases e
    obtain rfl : ns = [] := List.eq_nil_of_length_eq_zero hr.1
    clear hr
    go_enter Tryz.func48, Tryz.ntmps48
    go_wp2
    go_ret
    exact ⟨Below.refl _ _, none, 0, rfl, RwP.nil⟩
  | some a =>
    clear hr
    go_enter Tryz.func48, Tryz.ntmps48
    have hlit : nmS.Ow (w.alloc (.cells #[] nmS.T)) w.heap.size (some ⟨w.heap.size, 0, none⟩) 0 0 [] := World.ownsRow_lit w #[] 0 (Nat.le_refl _) (by decide) rfl
    have HO := hid hlit
    clear hlit
    go_wp2_with (first
      | (refine Sh.wp_app nmS (A := some ⟨w.heap.size, 0, none⟩) (c := 0) (l := []) (base := w.heap.size) rfl (.tmp 5) (.tmp 6) rfl rfl HO.out rfl ((HR.out.below ((Below.refl _ _).alloc (Nat.le_refl _) _)).more (by simp)) (by omega) (by simp) ?_; intro A6 c6 w6 own6 gr6 li6; (simp only [Nat.zero_add, List.nil_append] at own6 ⊢); have O6 := hid own6; have B6 := hid (show Below w.heap.size w w6 from ((Below.refl _ _).alloc (Nat.le_refl _) _).trans (Sh.grown_below nmS HO.out (by simp) gr6)); clear own6 gr6 li6))
    go_ret
    exact ⟨B6.out, A6, c6, rfl, O6.out.rowP.mono fun _ h _ => ⟨h.1, h.2.1⟩⟩
theorem Sh.step_push2 {P : Program} {α : Type} (σ : Sh P α) {w : World} {x : α} {ops : Array Oper} {o : Oper} {a : Act} {Q : Exit → Act → World → Prop} {b base n c : Nat} {A : Option Addr} {l : List α} {K : Act → World → Prop} {E : Prop} (hgd : o.guard = none) (s e : Operand) (ho : o.op = .call { callee := .builtin .append, args := #[s, e], argTypes := #[σ.S, σ.S] })
    (hs : a.eval s = .slice A n c) (hown : σ.Ow w base A n c l) (hx : a.eval e = .slice (some ⟨b, 0, none⟩) 1 1) (hrow : w.rangeAt b 0 (σ.enc x)) (hn : n ≤ 1000000) (hbase : base ≤ w.heap.size)
    (h : ∀ A' c' w', σ.Ow w' base A' (n + 1) c' (l ++ [x]) → w.grownBy w' (Value.ownBlock (.slice A n c)) → (Value.ownBlock (.slice A' (n + 1) c') = Value.ownBlock (.slice A n c) ∨ Value.ownBlock (.slice A' (n + 1) c') = some w.heap.size) → K (a.put o.dst (.slice A' (n + 1) c')) w') : if Region.wanted o (yielded ops a.tmps) = true then Oper.wp P o a w K Q else E := by
  have hw : Region.wanted o (yielded ops a.tmps) = true := by simp [Region.wanted, hgd]
  rw [if_pos hw]
  obtain ⟨A', c', w', hrun, h2, h3, h4⟩ := σ.run_push2 o.type hown hrow hn hbase
  unfold Oper.wp execOp
  simp only [ho, resolve, invoke, builtin, Sem.run_bind, Sem.run_pure, Result.andThen_ok, List.map_toArray, List.map_cons, List.map_nil, hs, hx, hrun]
  exact h A' c' w' h2 h3 h4

/-- What stands in flatBehind's region: the statement's variable, what is there already, and what lies below. -/
structure FB (base s3 g : Nat) (x : Sm) (w0 w : World) (A : Option Addr) (n c : Nat) (f : Fo) (xs : List Sm) : Prop where
  var : smS.Var w g x
  lo : Lo w base A n c f xs
  bl : Below base w0 w
  le : base ≤ w0.heap.size
  sz : s3 ≤ w.heap.size
/-- .. and its numbers, copied. -/
structure FN (base s3 g : Nat) (x : Sm) (w0 w : World) (A : Option Addr) (n c : Nat) (f : Fo) (xs : List Sm) (A2 : Option Addr) (n2 : Nat) (ns : List (Int × Bool)) : Prop where
  fb : FB base s3 g x w0 w A n c f xs
  ns : RwP nmS w (fun j => s3 ≤ j ∧ j < w.heap.size) A2 n2 ns
section
variable {base s3 g : Nat} {x : Sm} {w0 w w' : World} {A A2 : Option Addr} {n c n2 : Nat} {f : Fo} {xs : List Sm} {ns : List (Int × Bool)}
theorem FB.keep (h : FB base s3 g x w0 w A n c f xs) (hb : Below w.heap.size w w') : FB base s3 g x w0 w' A n c f xs :=
  ⟨h.var.keep hb, h.lo.below hb, h.bl.trans (hb.mono (Nat.le_trans h.le h.bl.size)), h.le, Nat.le_trans h.sz hb.size⟩
theorem FB.drew (h : FB base s3 g x w0 w A n c f xs) : FB base s3 g x w0 w.drew A n c f xs := h.keep ((Below.refl _ _).drew)
theorem FB.alloc (h : FB base s3 g x w0 w A n c f xs) (o : Obj) : FB base s3 g x w0 (w.alloc o) A n c f xs := h.keep ((Below.refl _ _).alloc (Nat.le_refl _) _)
theorem FN.keep (h : FN base s3 g x w0 w A n c f xs A2 n2 ns) (hb : Below w.heap.size w w') : FN base s3 g x w0 w' A n c f xs A2 n2 ns :=
  ⟨h.fb.keep hb, (h.ns.below hb).mono fun _ h2 h3 => ⟨h2.1, h3⟩⟩
theorem FN.drew (h : FN base s3 g x w0 w A n c f xs A2 n2 ns) : FN base s3 g x w0 w.drew A n c f xs A2 n2 ns := h.keep ((Below.refl _ _).drew)
theorem FN.alloc (h : FN base s3 g x w0 w A n c f xs A2 n2 ns) (o : Obj) : FN base s3 g x w0 (w.alloc o) A n c f xs A2 n2 ns := h.keep ((Below.refl _ _).alloc (Nat.le_refl _) _)
theorem FB.copy {c2 : Nat} (h : FB base s3 g x w0 w A n c f xs) (hb : Below w.heap.size w w') (hn : RwP nmS w' (fun k => w.heap.size ≤ k ∧ k < w'.heap.size) A2 n2 ns) (_ : c2 = c2) : FN base s3 g x w0 w' A n c f xs A2 n2 ns :=
  ⟨h.keep hb, hn.mono fun _ h2 _ => ⟨Nat.le_trans h.sz h2.1, h2.2⟩⟩
theorem FB.base_le (h : FB base s3 g x w0 w A n c f xs) : base ≤ w.heap.size := Nat.le_trans h.le h.bl.size
/-- One more behind. -/
theorem FN.push {w6 : World} {A6 : Option Addr} {c6 c2 : Nat} {wd : List UInt8} {bl : Bool} (h : FN base s3 g x w0 w A n c f xs A2 n2 ns) (h3 : base ≤ s3) (hown : ∀ j, Value.ownBlock (.slice A n c) = some j → j < s3 ∧ j ≠ g)
    (own : smS.Ow w6 base A6 (n + 1) c6 (xs ++ [⟨wd, A2, n2, c2, bl, none, 0, 0⟩])) (gr : w.grownBy w6 (Value.ownBlock (.slice A n c))) (li : Value.ownBlock (.slice A6 (n + 1) c6) = Value.ownBlock (.slice A n c) ∨ Value.ownBlock (.slice A6 (n + 1) c6) = some w.heap.size) :
    Lo w6 base A6 (n + 1) c6 (f.app (.cons wd ns bl .nil .nil)) (xs ++ [⟨wd, A2, n2, c2, bl, none, 0, 0⟩]) ∧ smS.Var w6 g x ∧ Below base w0 w6 := by
  have hx : Tr w (fun k => s3 ≤ k ∧ k < w.heap.size ∧ some k ≠ Value.ownBlock (.slice A n c)) (.cons wd ns bl .nil .nil) [⟨wd, A2, n2, c2, bl, none, 0, 0⟩] :=
    ⟨_, [], rfl, rfl, rfl, h.ns.mono fun k h2 _ => ⟨h2.1, h2.2, fun e => by have := (hown k e.symm).1; omega⟩, ⟨[], RwP.nil, rfl⟩, rfl⟩
  refine ⟨⟨own, ?_⟩, ?_, h.fb.bl.trans (Sh.grown_below smS h.fb.lo.ow h.fb.base_le gr)⟩
  · have h1 := h.fb.lo.tr.app (hx.mono (P' := fun k => base ≤ k ∧ k < w.heap.size ∧ some k ≠ Value.ownBlock (.slice A n c)) fun k hk _ => ⟨Nat.le_trans h3 hk.1, hk.2⟩)
    refine (h1.keep fun b hb hs => gr.block b hs hb.2.2).mono fun b hb _ => ⟨hb.1, Nat.lt_of_lt_of_le hb.2.1 gr.size, ?_⟩
    rcases li with e | e
    · rw [e]; exact hb.2.2
    · rw [e]; intro e2; cases e2; have := hb.2.1; omega
  · have e := gr.block g h.fb.var.lt (fun e => (hown g e.symm).2 rfl)
    exact ⟨fun j v hv => (World.cell?_of_block (a := ⟨g, 0 + j, none⟩) e).trans (h.fb.var.1 j v hv), fun j hj => ⟨by rw [World.cell?_of_block (a := ⟨g, 0 + j, none⟩) e]; exact (h.fb.var.2 j hj).1, by rw [World.frozen?_of_block (a := ⟨g, 0 + j, none⟩) e]; exact (h.fb.var.2 j hj).2⟩⟩
end
end Go.Proofs.YtinjhnflnfpoeaaGreatDoor
