/-
  Contracts of parse.flatBehind and parse.Flat, at every forest of at most a million statements whose words and numbers are of some size.
-/
import Derived.Test.YtinjhnflnfpoeaaGreatDoorRD
import Derived.Deep.RegionHeld3
namespace Go.Proofs.YtinjhnflnfpoeaaGreatDoor
open Go Go.RowKit Go.Joins

def FlatSaid (f : Fo) : Prop := ∀ (w : World) (base : Nat) (K : Nat → Prop) (A : Option Addr) (n c : Nat) (f0 : Fo) (xs0 : List Sm) (A2 : Option Addr) (n2 c2 : Nat), Lo w base A n c f0 xs0 → TrS w K A2 n2 f → (∀ k, K k → k < base) → base ≤ w.heap.size → f0.len + f.count ≤ 1000000 → f.okS →
  Calls Tryz.prog 29 #[.slice A n c, .slice A2 n2 c2] w fun e w' => ∃ A' n' c' xs', e = .returned (.slice A' n' c') ∧ Lo w' base A' n' c' (f0.app f.flat) xs' ∧ Below base w w'
set_option maxHeartbeats 4000000 in
set_option maxRecDepth 100000 in
theorem flat_step (f : Fo) (hf : f.Bodies FlatSaid) : FlatSaid f := by
  intro w base K A n c f0 xs0 A2 n2 c2 hlo ht hK hbase hlen hok
  have HL2 := hid (show f.len = n2 from ht.len.symm)
  obtain ⟨ys, hx, htr⟩ := ht
  have HX := hid hx
  have HKB := hid hK
  have HBA := hid hbase
  have HLN := hid hlen
  have HS0 := hid (And.intro hf (And.intro htr (And.intro hok hlo)))
  have hn2 : (n2 : Int) ≤ 1000000 := by have := f.len_le; have := HL2.out; omega
  clear hlo hx htr hf hok hK hbase hlen
  go_enter Tryz.func29, Tryz.ntmps29
  go_wp2
  go_loopw [0, 9] (fun v0 v9 wr => ∃ (i k : Nat) (B : Option Addr) (d : Nat) (g r : Fo) (xs : List Sm), v0 = .slice B k d ∧ v9 = .int .i64 (i : Int) ∧ i ≤ n2 ∧ Lo wr base B k d g xs ∧ g.app r.flat = f0.app f.flat ∧ r.Bodies FlatSaid ∧ Tr w K r (ys.drop i) ∧ r.okS ∧ Below base w wr) (fun _ v9 _ => n2 - (intOf v9).toNat)
  case atStart => exact ⟨0, n, A, c, f0, f, xs0, rfl, rfl, Nat.zero_le _, HS0.out.2.2.2, rfl, HS0.out.1, by simpa using HS0.out.2.1, HS0.out.2.2.1, Below.refl _ _⟩
  case round =>
    obtain ⟨i, k, B, d, g, r, xs, rfl, rfl, hi, hlo, hgr, hbo, htr, hok, hbel⟩ := hrel
    have BW := hid hbel
    have hcnt : g.len + r.count ≤ 1000000 := by
      have h1 := congrArg Fo.len hgr
      rw [Fo.len_app, Fo.len_app, Fo.len_flat, Fo.len_flat] at h1
      have := HLN.out; omega
    have hk : k = g.len := hlo.len
    have HGR := hid hgr
    have L0 := hid hlo
    by_cases hlt : i < n2
    · obtain ⟨wd, ns, bl, y, nx, rfl, e1, e2, hns, hy, hnx⟩ := htr.step (by rw [HX.out.1]; exact hlt)
      have hkeep : ∀ b, K b → b < w.heap.size → wr.heap[b]? = w.heap[b]? := fun b hb _ => hbel.block b (HKB.out b hb)
      obtain ⟨b, o, rfl, hb, hcell⟩ := (HX.out.keep hkeep).size.at_ hlt
      generalize smS.nth ys i = x at *
      obtain ⟨xw, xA, xn, xc, xb, xB, xm, xk⟩ := x
      simp only at e1 e2 hns hy
      subst e1 e2
      have r1 : wr.rangeAt b (o + i * 4) (smS.enc ⟨xw, xA, xn, xc, xb, xB, xm, xk⟩) := hcell
      have hxn : xn ≤ 1000000 := by have := hns.1; have := hok.2.1; omega
      have HNS := hid (fun wx (bx : Below base w wx) => (show RwP nmS wx K xA xn ns from hns.keep fun b hb _ => bx.block b (HKB.out b hb)))
      have HC := hid (fun wx => by have := clone_any (strB xw) wx (by show xw.length ≤ _; have := hok.1; omega); exact this)
      have HN := hid (fun wx (bx : Below base w wx) => cloneN_any xA xn xc ns wx ((HNS.out wx bx).size) hxn)
      have HY := hid hbo.1
      have HYT := hid (fun wx (bx : Below base w wx) => (show TrS wx K xB xm y from hy.keep fun b hb _ => bx.block b (HKB.out b hb)))
      have NX := hid (And.intro hbo.2 (And.intro hnx (And.intro hok.2.2.1 hok.2.2.2)))
      have HCN := hid hcnt
      have hk6 : k ≤ 999999 := by simp only [Fo.count] at hcnt; omega
      have OWN := hid (fun (j : Nat) (e : Value.ownBlock (.slice B k d) = some j) => own_lt hlo.ow j e)
      clear hcell hbel hgr hbo htr hok hns hy hnx hb hkeep hlo hcnt hk
      go_upto_region 4 with (first
        | (refine Sh.wp_sv smS (x := ⟨xw, xA, xn, xc, xb, xB, xm, xk⟩) rfl (.tmp 6) (.tmp 12) rfl rfl (by rfl) q2 ?_; intro w3 q3 b3 o3 s3; have B23 := hid (B2.out.trans (b3.mono (Nat.le_refl _))); have Q3 := hid q3; clear q3 b3 o3 s3)
        | (refine Sh.wp_al smS rfl rfl ?_; intro w2 q2 b2 s2; have B2 := hid b2; clear b2 s2)
        | (refine Sh.wp_ld smS rfl (.tmp 11) rfl rfl r1 ?_))
      have hbr : base ≤ wr.heap.size := Nat.le_trans HBA.out BW.out.size
      have F3 := hid (FB.mk (s3 := w3.heap.size) (w0 := w) Q3.out (L0.out.below B23.out) (BW.out.trans (B23.out.mono hbr)) HBA.out (Nat.le_refl _))
      have c0 : w3.cell? ⟨wr.heap.size, 0, none⟩ = some (.string (strB xw)) := Q3.out.cell (j := 0) rfl
      have c1 : w3.cell? ⟨wr.heap.size, 1, none⟩ = some (.slice xA xn xc) := Q3.out.cell (j := 1) rfl
      have c2 : w3.cell? ⟨wr.heap.size, 2, none⟩ = some (.bool xb) := Q3.out.cell (j := 2) rfl
      have hs3 : base ≤ w3.heap.size := F3.out.base_le
      have HOW := hid (fun (j : Nat) (e : Value.ownBlock (.slice B k d) = some j) => show j < w3.heap.size ∧ j ≠ wr.heap.size from by have := OWN.out j e; have := B23.out.size; omega)
      have hkn : k ≤ 1000000 := by omega
      go_region_held3 (fun w' => w'.cell? ⟨wr.heap.size, 0, none⟩ = some (.string (strB xw)) ∧ w'.cell? ⟨wr.heap.size, 1, none⟩ = some (.slice xA xn xc) ∧ w'.cell? ⟨wr.heap.size, 2, none⟩ = some (.bool xb)) (first | with_reducible exact ⟨c0, c1, c2⟩ | go_keep)
        (first
          | (go_at_call 47; refine (HC.out _).mono ?_; rintro e w4 ⟨rfl, b4⟩; (first | (have F5s := hid (FN.keep (show FN base w3.heap.size wr.heap.size ⟨xw, xA, xn, xc, xb, xB, xm, xk⟩ w _ B k d g xs A5 xn ns from by (repeat (first | with_reducible exact F5.out | with_reducible exact F5s.out | with_reducible refine FN.alloc ?_ _ | with_reducible refine FN.drew ?_)); done) b4); have c0 : w4.cell? ⟨wr.heap.size, 0, none⟩ = some (.string (strB xw)) := F5s.out.fb.var.cell (j := 0) rfl; have c1 : w4.cell? ⟨wr.heap.size, 1, none⟩ = some (.slice xA xn xc) := F5s.out.fb.var.cell (j := 1) rfl; have c2 : w4.cell? ⟨wr.heap.size, 2, none⟩ = some (.bool xb) := F5s.out.fb.var.cell (j := 2) rfl) | (have FS := hid (FB.keep (show FB base w3.heap.size wr.heap.size ⟨xw, xA, xn, xc, xb, xB, xm, xk⟩ w _ B k d g xs from by (repeat (first | with_reducible exact F3.out | with_reducible exact FS.out | with_reducible refine FB.drew ?_)); done) b4); have c0 : w4.cell? ⟨wr.heap.size, 0, none⟩ = some (.string (strB xw)) := FS.out.var.cell (j := 0) rfl; have c1 : w4.cell? ⟨wr.heap.size, 1, none⟩ = some (.slice xA xn xc) := FS.out.var.cell (j := 1) rfl; have c2 : w4.cell? ⟨wr.heap.size, 2, none⟩ = some (.bool xb) := FS.out.var.cell (j := 2) rfl)); clear b4; dsimp only)
          | (go_at_call 48; refine (HN.out _ ?_).mono ?_; (focus exact FB.bl (show FB base w3.heap.size wr.heap.size ⟨xw, xA, xn, xc, xb, xB, xm, xk⟩ w _ B k d g xs from by (repeat (first | with_reducible exact F3.out | with_reducible exact FS.out | with_reducible refine FB.drew ?_)); done)); rintro e w5 ⟨b5, A5, c5, rfl, n5⟩; have F5 := hid (FB.copy (c2 := c5) (show FB base w3.heap.size wr.heap.size ⟨xw, xA, xn, xc, xb, xB, xm, xk⟩ w _ B k d g xs from by (repeat (first | with_reducible exact F3.out | with_reducible exact FS.out | with_reducible refine FB.drew ?_)); done) b5 n5 rfl); have c0 : w5.cell? ⟨wr.heap.size, 0, none⟩ = some (.string (strB xw)) := F5.out.fb.var.cell (j := 0) rfl; have c1 : w5.cell? ⟨wr.heap.size, 1, none⟩ = some (.slice xA xn xc) := F5.out.fb.var.cell (j := 1) rfl; have c2 : w5.cell? ⟨wr.heap.size, 2, none⟩ = some (.bool xb) := F5.out.fb.var.cell (j := 2) rfl; clear b5 n5; dsimp only)
          | (refine Sh.step_push2 smS (A := B) (c := d) (l := xs) (base := base) (x := ⟨xw, A5, xn, c5, xb, none, 0, 0⟩) rfl (.tmp 13) (.tmp 23) (by rfl) (by rfl) ?_ (by rfl) ?_ hkn ?_ ?_; (focus exact Lo.ow (FB.lo (FN.fb (show FN base w3.heap.size wr.heap.size ⟨xw, xA, xn, xc, xb, xB, xm, xk⟩ w _ B k d g xs A5 xn ns from by (repeat (first | with_reducible exact F5.out | with_reducible exact F5s.out | with_reducible refine FN.alloc ?_ _ | with_reducible refine FN.drew ?_)); done)))); (focus show World.rangeAt _ _ _ [.string (strB xw), .slice A5 xn c5, .bool xb, .slice none 0 0]; exact (by (repeat (first | with_reducible exact range_new' _ _ _ _ (by simp; done) | with_reducible refine World.rangeAt_alloc ?_ _ | with_reducible refine (World.rangeAt_drew _ _ _ _).2 ?_)); done)); (focus exact FB.base_le (FN.fb (show FN base w3.heap.size wr.heap.size ⟨xw, xA, xn, xc, xb, xB, xm, xk⟩ w _ B k d g xs A5 xn ns from by (repeat (first | with_reducible exact F5.out | with_reducible exact F5s.out | with_reducible refine FN.alloc ?_ _ | with_reducible refine FN.drew ?_)); done))); intro A6 c6 w6 own6 gr6 li6; have P6 := hid (FN.push (show FN base w3.heap.size wr.heap.size ⟨xw, xA, xn, xc, xb, xB, xm, xk⟩ w _ B k d g xs A5 xn ns from by (repeat (first | with_reducible exact F5.out | with_reducible exact F5s.out | with_reducible refine FN.alloc ?_ _ | with_reducible refine FN.drew ?_)); done) hs3 HOW.out own6 gr6 li6); have c0 : w6.cell? ⟨wr.heap.size, 0, none⟩ = some (.string (strB xw)) := P6.out.2.1.cell (j := 0) rfl; have c1 : w6.cell? ⟨wr.heap.size, 1, none⟩ = some (.slice xA xn xc) := P6.out.2.1.cell (j := 1) rfl; have c2 : w6.cell? ⟨wr.heap.size, 2, none⟩ = some (.bool xb) := P6.out.2.1.cell (j := 2) rfl; clear own6 gr6 li6; dsimp only))
      all_goals
        have d3 : w6.cell? ⟨wr.heap.size, 3, none⟩ = some (.slice xB xm xk) := P6.out.2.1.cell (j := 3) rfl
        have hl6 : (g.app (Fo.cons xw ns xb .nil .nil)).len + y.count ≤ 1000000 := by
          have := HCN.out; simp only [Fo.count, Fo.len_app, Fo.len] at this ⊢; omega
        have HF := hid (HY.out w6 base K A6 (k + 1) c6 (g.app (Fo.cons xw ns xb .nil .nil)) _ xB xm xk P6.out.1 (HYT.out w6 P6.out.2.2) HKB.out (Nat.le_trans HBA.out P6.out.2.2.size) hl6 NX.out.2.2.1)
        clear c0 c1 c2 hl6
        go_wp2_with (first
          | (go_at_call 29; refine HF.out.mono ?_; rintro e w7 ⟨A7, n7, c7, xs7, rfl, lo7, b7⟩; have L7 := hid lo7; have B7 := hid (P6.out.2.2.trans b7); clear lo7 b7 d3))
        go_roundw
        case rel => exact ⟨i + 1, n7, A7, c7, _, nx, xs7, rfl, rfl, by omega, L7.out, by rw [← HGR.out, Fo.flat, Fo.app_assoc, Fo.app_assoc, Fo.app, Fo.app], NX.out.1, NX.out.2.1, NX.out.2.2.2, B7.out⟩
        case measure => simp [intOf]; omega
    · obtain rfl : i = n2 := by omega
      have hr := htr.done (by rw [HX.out.1]; exact Nat.le_refl _)
      subst hr
      have HV := hid (show g = f0.app f.flat by rw [← hgr, Fo.flat, Fo.app_nil])
      clear hgr hbo htr hbel
      go_wp2
      go_ret
      exact ⟨B, k, d, xs, rfl, by rw [← HV.out]; exact L0.out, BW.out⟩
theorem flat_behind (f : Fo) : FlatSaid f := (Fo.ind flat_step f).1
set_option maxRecDepth 100000 in
theorem flat_any (f : Fo) (w : World) (K : Nat → Prop) (A2 : Option Addr) (n2 c2 : Nat) (ht : TrS w K A2 n2 f) (hK : ∀ k, K k → k < w.heap.size) (hc : f.count ≤ 1000000) (hok : f.okS) :
    Calls Tryz.prog 14 #[.slice A2 n2 c2] w fun e w' => ∃ A' n' c' xs', e = .returned (.slice A' n' c') ∧ Lo w' w.heap.size A' n' c' f.flat xs' ∧ Below w.heap.size w w' := by
  have HF := hid (flat_behind f w w.heap.size K none 0 0 .nil [] A2 n2 c2 (Lo.nil _ _) ht hK (Nat.le_refl _) (by simp [Fo.len]; omega) hok)
  clear ht hK hc hok
  go_enter Tryz.func14, Tryz.ntmps14
  go_wp2_with (first | (go_at_call 29; refine HF.out.mono ?_; rintro e w7 ⟨A7, n7, c7, xs7, rfl, lo7, b7⟩; have L7 := hid lo7; have B7 := hid b7; clear lo7 b7))
  go_ret
  exact ⟨A7, n7, c7, xs7, rfl, by simpa only [Fo.app] using L7.out, B7.out⟩
end Go.Proofs.YtinjhnflnfpoeaaGreatDoor
