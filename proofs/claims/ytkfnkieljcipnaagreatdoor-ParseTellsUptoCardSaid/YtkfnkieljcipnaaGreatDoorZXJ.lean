/-
  Contract of the document's Flat. The same conditions as parse.Flat's.
-/
import Derived.Test.YtkfnkieljcipnaaGreatDoorZXI
import Derived.Test.YtkfnkieljcipnaaGreatDoorK8
namespace Go.Proofs.YtkfnkieljcipnaaGreatDoor
open Go Go.RowKit Go.Joins

/-- A copy of numbers made by append onto nothing, in a drawn region. -/
theorem Sh.step_copy {P : Program} {α : Type} (σ : Sh P α) {w : World} {ops : Array Oper} {o : Oper} {a : Act} {Q : Exit → Act → World → Prop} {m c2 : Nat} {A2 : Option Addr} {ys : List α} {K : Act → World → Prop} {E : Prop} (hgd : o.guard = none) (e : Operand) (ho : o.op = .call { callee := .builtin .append, args := #[.const (.slice none 0 0), e], argTypes := #[σ.S, σ.S] })
    (hx : a.eval e = .slice A2 m c2) (hr : σ.Rw w w.heap.size A2 m ys) (hm : m ≤ 1000000)
    (h : ∀ A' c' w', Below w.heap.size w w' → RwP σ w' (fun k => w.heap.size ≤ k ∧ k < w'.heap.size) A' m ys → K (a.put o.dst (.slice A' m c')) w') : if Region.wanted o (yielded ops a.tmps) = true then Oper.wp P o a w K Q else E := by
  have hw : Region.wanted o (yielded ops a.tmps) = true := by simp [Region.wanted, hgd]
  rw [if_pos hw]
  have hnil : σ.Ow w w.heap.size none 0 0 [] := Sh.Ow.nil _ _
  obtain ⟨A', c', w', hrun, h2, h3, h4⟩ := σ.run_app o.type hnil hr (by omega) (Nat.le_refl _)
  simp only [Nat.zero_add, List.nil_append] at h2
  have hs : a.eval (.const (.slice none 0 0)) = .slice none 0 0 := rfl
  unfold Oper.wp execOp
  simp only [ho, resolve, invoke, builtin, Sem.run_bind, Sem.run_pure, Result.andThen_ok, List.map_toArray, List.map_cons, List.map_nil, hs, hx]
  rw [hrun]
  simp only [Nat.zero_add, Result.andThen_ok]
  exact h A' c' w' ((Below.refl w.heap.size w).grown h3 (Nat.le_refl _) (fun k hk => by cases hk)) (h2.rowP.mono fun _ h _ => ⟨h.1, h.2.1⟩)
/-- What two calls have made, one appended to the other. -/
theorem Lo.two {w9 w10 w11 : World} {b9 n c n2 c2 N C : Nat} {A A2 A' : Option Addr} {f g : Fo} {xs ys : List Sm} (l9 : Lo w9 b9 A n c f xs) (h9 : b9 ≤ w9.heap.size) (b : Below w9.heap.size w9 w10) (l10 : Lo w10 w9.heap.size A2 n2 c2 g ys) (own : smS.Ow w11 b9 A' N C (xs ++ ys)) (gr : w10.grownBy w11 (Value.ownBlock (.slice A n c)))
    (li : Value.ownBlock (.slice A' N C) = Value.ownBlock (.slice A n c) ∨ Value.ownBlock (.slice A' N C) = some w10.heap.size) : Lo w11 b9 A' N C (f.app g) (xs ++ ys) := by
  refine ⟨own, ?_⟩
  have hsz := b.size
  have hsz2 := gr.size
  have hf := ((l9.tr.below b).keep fun k hk hs => gr.block k hs hk.2.2).mono (P' := fun k => b9 ≤ k ∧ k < w11.heap.size ∧ some k ≠ Value.ownBlock (.slice A' N C)) fun k hk _ => ⟨hk.1, by have := hk.2.1; omega, by
    rcases li with e | e
    · rw [e]; exact hk.2.2
    · rw [e]; intro e2; cases e2; have := hk.2.1; omega⟩
  have hg := (l10.tr.keep fun k hk hs => gr.block k hs fun e => by have := (own_lt l9.ow k e.symm).2; have := hk.1; omega).mono (P' := fun k => b9 ≤ k ∧ k < w11.heap.size ∧ some k ≠ Value.ownBlock (.slice A' N C)) fun k hk _ => ⟨Nat.le_trans h9 hk.1, by have := hk.2.1; omega, by
    rcases li with e | e
    · rw [e]; intro e2; have := (own_lt l9.ow k e2.symm).2; have := hk.1; omega
    · rw [e]; intro e2; cases e2; have := hk.2.1; omega⟩
  exact hf.app hg
def RFlatSaid (f : Fo) : Prop := ∀ (w : World) (base : Nat) (K : Nat → Prop) (A2 : Option Addr) (n2 c2 : Nat), TrS w K A2 n2 f → (∀ k, K k → k < base) → base = w.heap.size → f.count ≤ 1000000 → f.okS →
  Calls Tryz.prog 19 #[.slice A2 n2 c2] w fun e w' => ∃ A' n' c' xs', e = .returned (.slice A' n' c') ∧ Lo w' base A' n' c' f.flat xs' ∧ Below base w w'
set_option maxHeartbeats 4000000 in
set_option maxRecDepth 100000 in
theorem rflat_step (f : Fo) (hf : f.Bodies RFlatSaid) : RFlatSaid f := by
  intro w base K A2 n2 c2 ht hK hbe hlen hok
  have hbase : base ≤ w.heap.size := Nat.le_of_eq hbe
  have HL2 := hid (show f.len = n2 from ht.len.symm)
  obtain ⟨ys, hx, htr⟩ := ht
  have HX := hid hx
  have HKB := hid hK
  have HBA := hid hbase
  have HLN := hid hlen
  have HS0 := hid (And.intro hf (And.intro htr hok))
  have hn2 : (n2 : Int) ≤ 1000000 := by have := f.len_le; have := HL2.out; omega
  clear hx htr hf hok hK hbase hlen hbe
  go_enter Tryz.func19, Tryz.ntmps19
  go_wp2
  go_loopw [3, 8] (fun v0 v9 wr => ∃ (i k : Nat) (B : Option Addr) (d : Nat) (g r : Fo) (xs : List Sm), v0 = .slice B k d ∧ v9 = .int .i64 (i : Int) ∧ i ≤ n2 ∧ Lo wr base B k d g xs ∧ g.app r.flat = f.flat ∧ r.Bodies RFlatSaid ∧ Tr w K r (ys.drop i) ∧ r.okS ∧ Below base w wr) (fun _ v9 _ => n2 - (intOf v9).toNat)
  case atStart => exact ⟨0, 0, none, 0, .nil, f, [], rfl, rfl, Nat.zero_le _, Lo.nil _ _, rfl, HS0.out.1, by simpa using HS0.out.2.1, HS0.out.2.2, Below.refl _ _⟩
  case round =>
    obtain ⟨i, k, B, d, g, r, xs, rfl, rfl, hi, hlo, hgr, hbo, htr, hok, hbel⟩ := hrel
    have BW := hid hbel
    have hcnt : g.len + r.count ≤ 1000000 := by
      have h1 := congrArg Fo.len hgr
      rw [Fo.len_app, Fo.len_flat, Fo.len_flat] at h1
      have := HLN.out; omega
    have hk : k = g.len := hlo.len
    have HGR := hid hgr
    have L0 := hid hlo
    by_cases hlt : i < n2
    · obtain ⟨wd, ns, bl, y, nx, rfl, e1, e2, hns, hy, hnx⟩ := htr.step (by rw [HX.out.1]; exact hlt)
      have hkeep : ∀ b, K b → b < w.heap.size → wr.heap[b]? = w.heap[b]? := fun b hb _ => hbel.block b (HKB.out b hb)
      obtain ⟨b, o, rfl, hb, hcell⟩ := (HX.out.keep hkeep).size.at_ hlt
      generalize smS.nth ys i = x at *
      obtain ⟨xw, xA, xn, xc, xb, xB, xm, xk⟩ := x
      simp only at e1 e2 hns hy
      subst e1 e2
      have r1 : wr.rangeAt b (o + i * 4) (smS.enc ⟨xw, xA, xn, xc, xb, xB, xm, xk⟩) := hcell
      have hxn : xn ≤ 1000000 := by have := hns.1; have := hok.2.1; omega
      have HNS := hid (fun wx (bx : Below base w wx) => (show RwP nmS wx K xA xn ns from hns.keep fun b hb _ => bx.block b (HKB.out b hb)))
      have HY := hid hbo.1
      have HYT := hid (fun wx (bx : Below base w wx) => (show TrS wx K xB xm y from hy.keep fun b hb _ => bx.block b (HKB.out b hb)))
      have NX := hid (And.intro hbo.2 (And.intro hnx (And.intro hok.2.2.1 hok.2.2.2)))
      have HCN := hid hcnt
      have hk6 : k ≤ 999999 := by simp only [Fo.count] at hcnt; omega
      have OWN := hid (fun (j : Nat) (e : Value.ownBlock (.slice B k d) = some j) => own_lt hlo.ow j e)
      clear hcell hbel hgr hbo htr hok hns hy hnx hb hkeep hlo hcnt hk
      go_upto_region 5 with (first
        | (refine Sh.wp_sv smS (x := ⟨xw, xA, xn, xc, xb, xB, xm, xk⟩) rfl (.tmp 5) (.tmp 11) rfl rfl (by rfl) q2 ?_; intro w3 q3 b3 o3 s3; have B23 := hid (B2.out.trans (b3.mono (Nat.le_refl _))); have Q3 := hid q3; clear q3 b3 o3 s3)
        | (refine Sh.wp_al smS rfl rfl ?_; intro w2 q2 b2 s2; have B2 := hid b2; clear b2 s2)
        | (refine Sh.wp_ld smS rfl (.tmp 10) rfl rfl r1 ?_))
      have hbr : base ≤ wr.heap.size := Nat.le_trans HBA.out BW.out.size
      have F3 := hid (FB.mk (s3 := w3.heap.size) (w0 := w) Q3.out (L0.out.below B23.out) (BW.out.trans (B23.out.mono hbr)) HBA.out (Nat.le_refl _))
      have c0 : w3.cell? ⟨wr.heap.size, 0, none⟩ = some (.string (strB xw)) := Q3.out.cell (j := 0) rfl
      have c1 : w3.cell? ⟨wr.heap.size, 1, none⟩ = some (.slice xA xn xc) := Q3.out.cell (j := 1) rfl
      have c2 : w3.cell? ⟨wr.heap.size, 2, none⟩ = some (.bool xb) := Q3.out.cell (j := 2) rfl
      have hs3 : base ≤ w3.heap.size := F3.out.base_le
      have HOW := hid (fun (j : Nat) (e : Value.ownBlock (.slice B k d) = some j) => show j < w3.heap.size ∧ j ≠ wr.heap.size from by have := OWN.out j e; have := B23.out.size; omega)
      have hkn : k ≤ 1000000 := by omega
      go_region_held3 (fun w' => w'.cell? ⟨wr.heap.size, 0, none⟩ = some (.string (strB xw)) ∧ w'.cell? ⟨wr.heap.size, 1, none⟩ = some (.slice xA xn xc) ∧ w'.cell? ⟨wr.heap.size, 2, none⟩ = some (.bool xb)) (first | with_reducible exact ⟨c0, c1, c2⟩ | go_keep)
        (first
          | (refine Sh.step_copy nmS (A2 := xA) (m := xn) (c2 := xc) (ys := ns) rfl (.tmp 16) (by rfl) (by rfl) ?_ hxn ?_; (focus exact (HNS.out _ (FB.bl (show FB base w3.heap.size wr.heap.size ⟨xw, xA, xn, xc, xb, xB, xm, xk⟩ w _ B k d g xs from by (repeat (first | with_reducible exact F3.out | with_reducible refine FB.drew ?_)); done))).size); intro A5 c5 w5 b5 n5; have F5 := hid (FB.copy (c2 := c5) (show FB base w3.heap.size wr.heap.size ⟨xw, xA, xn, xc, xb, xB, xm, xk⟩ w _ B k d g xs from by (repeat (first | with_reducible exact F3.out | with_reducible refine FB.drew ?_)); done) b5 n5 rfl); have c0 : w5.cell? ⟨wr.heap.size, 0, none⟩ = some (.string (strB xw)) := F5.out.fb.var.cell (j := 0) rfl; have c1 : w5.cell? ⟨wr.heap.size, 1, none⟩ = some (.slice xA xn xc) := F5.out.fb.var.cell (j := 1) rfl; have c2 : w5.cell? ⟨wr.heap.size, 2, none⟩ = some (.bool xb) := F5.out.fb.var.cell (j := 2) rfl; clear b5 n5; dsimp only)
          | (refine Sh.step_push2 smS (A := B) (c := d) (l := xs) (base := base) (x := ⟨xw, A5, xn, c5, xb, none, 0, 0⟩) rfl (.tmp 12) (.tmp 21) (by rfl) (by rfl) ?_ (by rfl) ?_ hkn ?_ ?_; (focus exact Lo.ow (FB.lo (FN.fb (show FN base w3.heap.size wr.heap.size ⟨xw, xA, xn, xc, xb, xB, xm, xk⟩ w _ B k d g xs A5 xn ns from by (repeat (first | with_reducible exact F5.out | with_reducible refine FN.alloc ?_ _ | with_reducible refine FN.drew ?_)); done)))); (focus show World.rangeAt _ _ _ [.string (strB xw), .slice A5 xn c5, .bool xb, .slice none 0 0]; exact (by (repeat (first | with_reducible exact range_new' _ _ _ _ (by simp; done) | with_reducible refine World.rangeAt_alloc ?_ _ | with_reducible refine (World.rangeAt_drew _ _ _ _).2 ?_)); done)); (focus exact FB.base_le (FN.fb (show FN base w3.heap.size wr.heap.size ⟨xw, xA, xn, xc, xb, xB, xm, xk⟩ w _ B k d g xs A5 xn ns from by (repeat (first | with_reducible exact F5.out | with_reducible refine FN.alloc ?_ _ | with_reducible refine FN.drew ?_)); done))); intro A6 c6 w6 own6 gr6 li6; have P6 := hid (FN.push (show FN base w3.heap.size wr.heap.size ⟨xw, xA, xn, xc, xb, xB, xm, xk⟩ w _ B k d g xs A5 xn ns from by (repeat (first | with_reducible exact F5.out | with_reducible refine FN.alloc ?_ _ | with_reducible refine FN.drew ?_)); done) hs3 HOW.out own6 gr6 li6); have c0 : w6.cell? ⟨wr.heap.size, 0, none⟩ = some (.string (strB xw)) := P6.out.2.1.cell (j := 0) rfl; have c1 : w6.cell? ⟨wr.heap.size, 1, none⟩ = some (.slice xA xn xc) := P6.out.2.1.cell (j := 1) rfl; have c2 : w6.cell? ⟨wr.heap.size, 2, none⟩ = some (.bool xb) := P6.out.2.1.cell (j := 2) rfl; clear own6 gr6 li6; dsimp only))
      all_goals
        have d3 : w6.cell? ⟨wr.heap.size, 3, none⟩ = some (.slice xB xm xk) := P6.out.2.1.cell (j := 3) rfl
        have hl6 : (g.app (Fo.cons xw ns xb .nil .nil)).len + y.count ≤ 1000000 := by
          have := HCN.out; simp only [Fo.count, Fo.len_app, Fo.len] at this ⊢; omega
        have hb6 : base ≤ w6.heap.size := Nat.le_trans HBA.out P6.out.2.2.size
        have HF := hid (HY.out w6 w6.heap.size K xB xm xk (HYT.out w6 P6.out.2.2) (fun k hk => Nat.lt_of_lt_of_le (HKB.out k hk) hb6) rfl (by omega) NX.out.2.2.1)
        have HKN := hid (fun m (e : m = y.flat.len) => show k + 1 + m ≤ 1000000 from by have := P6.out.1.len; rw [Fo.len_flat] at e; omega)
        clear c0 c1 c2 hl6
        go_wp2_with (first
          | (refine Sh.wp_app smS (base := base) rfl (.tmp 23) (.tmp 26) rfl rfl (P6.out.1.ow.below B7.out) rfl L7.out.ow.row (HKN.out _ L7.out.len) (Nat.le_trans hb6 B7.out.size) ?_; intro A8 c8 w8 own8 gr8 li8; have L8 := hid (Lo.two P6.out.1 hb6 B7.out L7.out own8 gr8 li8); have B8 := hid (P6.out.2.2.trans ((B7.out.mono hb6).trans (Sh.grown_below smS (P6.out.1.ow.below B7.out) (Nat.le_trans hb6 B7.out.size) gr8))); clear own8 gr8 li8)
          | (go_at_call 19; refine HF.out.mono ?_; rintro e w7 ⟨A7, n7, c7, xs7, rfl, lo7, b7⟩; have L7 := hid lo7; have B7 := hid b7; clear lo7 b7 d3))
        go_roundw
        case rel => exact ⟨i + 1, k + 1 + n7, A8, c8, _, nx, _, rfl, rfl, by omega, L8.out, by rw [← HGR.out, Fo.flat, Fo.app_assoc, Fo.app_assoc, Fo.app, Fo.app], NX.out.1, NX.out.2.1, NX.out.2.2.2, B8.out⟩
        case measure => simp [intOf]; omega
    · obtain rfl : i = n2 := by omega
      have hr := htr.done (by rw [HX.out.1]; exact Nat.le_refl _)
      subst hr
      have HV := hid (show g = f.flat by rw [← hgr, Fo.flat, Fo.app_nil])
      clear hgr hbo htr hbel
      go_wp2
      go_ret
      exact ⟨B, k, d, xs, rfl, by rw [← HV.out]; exact L0.out, BW.out⟩
theorem rflat_any (f : Fo) : RFlatSaid f := (Fo.ind rflat_step f).1
end Go.Proofs.YtkfnkieljcipnaaGreatDoor
