/-
  The contract of the document's own Same, at every two forests of at most 2^62 statements, each of at most 2^62 numbers.
-/
import Derived.Test.YtinjhnflnfpoeaaGreatDoorQB
namespace Go.Proofs.YtinjhnflnfpoeaaGreatDoor
open Go Go.RowKit Go.Joins

theorem foN : Tryz.prog.underlying 38 = some (.struct (Tryz.prog.fieldsOf 38)) := by kernel_rfl
theorem siN : Tryz.prog.stoodInHeld 38 = false := by kernel_rfl
theorem egN : Tryz.prog.eqGuardType Tryz.prog.depth 38 = false := by kernel_rfl
def nmV (x : Int × Bool) : Value := .agg #[.int .i64 x.1, .bool x.2]
theorem eqInN (x y : Int × Bool) (w : World) : (Op.equalIn 10000 38 (nmV x) (nmV y)).run Tryz.prog w = .ok (decide (x = y)) w := by
  obtain ⟨x1, x2⟩ := x
  obtain ⟨y1, y2⟩ := y
  unfold nmV
  rw [run_equalIn_agg w 9999 38 _ _ foN siN]
  simp [go_sem]
  by_cases h1 : x1 = y1 <;> by_cases h2 : x2 = y2 <;> simp [h1, h2]
theorem eqN (x y : Int × Bool) (w : World) : (binOp .eql 38 (nmV x) (nmV y)).run Tryz.prog w = .ok (.bool (decide (x = y))) w := by
  have := eqInN x y w
  unfold nmV at this ⊢
  rw [run_eql_struct, this]; rfl
theorem neN (x y : Int × Bool) (w : World) : (binOp .neq 38 (nmV x) (nmV y)).run Tryz.prog w = .ok (.bool (!decide (x = y))) w := by
  have := eqInN x y w
  unfold nmV at this ⊢
  rw [run_neq_struct, this]; rfl
theorem guN (op : BinOp) (a b : Operand) (x y : Int × Bool) (w : World) : (eqGuard op 38 a b (nmV x) (nmV y)).run Tryz.prog w = .ok () w := run_eqGuard_agg w op 38 a b _ _ egN

theorem ext_nthN {a b : List (Int × Bool)} (hl : a.length = b.length) (h : ∀ j, j < a.length → nmS.nth a j = nmS.nth b j) : a = b := by
  apply List.ext_getElem hl
  intro j h1 h2
  have := h j h1
  rwa [nmS.nth_of (List.getElem?_eq_getElem h1), nmS.nth_of (List.getElem?_eq_getElem h2)] at this

/-- the statements' numbers are few -/
def Fo.okN : Fo → Prop
  | nil => True
  | cons _ ns _ y n => ns.length ≤ 4611686018427387904 ∧ y.okN ∧ n.okN
def SameSaid (g : Nat) (f : Fo) : Prop := ∀ (h : Fo) (w : World) (K K2 : Nat → Prop) (A A2 : Option Addr) (n c n2 c2 : Nat), TrS w K A n f → TrS w K2 A2 n2 h → f.count ≤ 4611686018427387904 → h.count ≤ 4611686018427387904 → f.okN → h.okN →
  Calls Tryz.prog g #[.slice A n c, .slice A2 n2 c2] w fun e w' => e = .returned (.bool (decide (f = h))) ∧ Below w.heap.size w w'

/-- What is known when element i of both is looked at. -/
structure SmI (w wr : World) (K K2 : Nat → Prop) (xs ys : List Sm) (f h : Fo) (g i : Nat) (r q : Fo) : Prop where
  eq : decide (f = h) = decide (r = q)
  bo : r.Bodies (SameSaid g)
  ta : Tr w K r (xs.drop i)
  tb : Tr w K2 q (ys.drop i)
  ca : r.count ≤ 4611686018427387904
  cb : q.count ≤ 4611686018427387904
  oa : r.okN
  ob : q.okN
  bl : Below w.heap.size w wr

set_option maxHeartbeats 4000000 in
set_option maxRecDepth 100000 in
theorem rsame_step (f : Fo) (hf : f.Bodies (SameSaid 11)) : SameSaid 11 f := by
  intro h w K K2 A A2 n c n2 c2 ht ht2 hc hc2 ho ho2
  obtain ⟨xs, hx, htr⟩ := ht
  obtain ⟨ys, hy, htr2⟩ := ht2
  have HX := hid hx
  have HY := hid hy
  have L1 : f.len = n := by rw [← htr.len, hx.1]
  have L2 : h.len = n2 := by rw [← htr2.len, hy.1]
  have hn : (n : Int) ≤ 4611686018427387904 := by have := f.len_le; omega
  have hn2 : (n2 : Int) ≤ 4611686018427387904 := by have := h.len_le; omega
  have S0 := hid (SmI.mk (w := w) (wr := w) (K := K) (K2 := K2) (xs := xs) (ys := ys) (i := 0) rfl hf (by simpa using htr) (by simpa using htr2) hc hc2 ho ho2 (Below.refl _ _))
  obtain ⟨R, hR⟩ : ∃ R, decide (f = h) = R := ⟨_, rfl⟩
  rw [hR]
  have HR := hid hR
  clear hR
  by_cases hnn : n = n2
  · subst hnn
    clear hx hy hf htr htr2 hc hc2 ho ho2 L1 L2
    go_enter Tryz.func11, Tryz.ntmps11
    go_wp2
    go_loopw [16] (fun v16 wr => ∃ (i : Nat) (r q : Fo), v16 = .int .i64 (i : Nat) ∧ i ≤ n ∧ SmI w wr K K2 xs ys f h 11 i r q) (fun v16 _ => n - (intOf v16).toNat)
    case atStart => exact ⟨0, f, h, rfl, Nat.zero_le _, S0.out⟩
    case round =>
      obtain ⟨i, r, q, rfl, hi, hs⟩ := hrel
      by_cases hlt : i < n
      · obtain ⟨wd, ns, bl, y, nx, rfl, e1, e2, hns, hyb, hnx⟩ := hs.ta.step (by rw [HX.out.1]; exact hlt)
        obtain ⟨wd2, ns2, bl2, y2, nx2, rfl, k1, k2, hns2, hyb2, hnx2⟩ := hs.tb.step (by rw [HY.out.1]; exact hlt)
        obtain ⟨b, o, rfl, hb, hcell⟩ := (HX.out.size.below hs.bl).at_ hlt
        obtain ⟨b2, o2, rfl, hb2, hcell2⟩ := (HY.out.size.below hs.bl).at_ hlt
        generalize smS.nth xs i = x at *
        generalize smS.nth ys i = x2 at *
        obtain ⟨xw, xA, xn, xc, xb, xB, xm, xk⟩ := x
        obtain ⟨zw, zA, zn, zc, zb, zB, zm, zk⟩ := x2
        simp only at e1 e2 k1 k2 hns hns2 hyb hyb2
        subst e1 e2 k1 k2
        have r1 : wr.rangeAt b (o + i * 4) (smS.enc ⟨xw, xA, xn, xc, xb, xB, xm, xk⟩) := hcell
        have r2 : wr.rangeAt b2 (o2 + i * 4) (smS.enc ⟨zw, zA, zn, zc, zb, zB, zm, zk⟩) := hcell2
        have HS := hid hs
        have NS := hid (And.intro hns hns2)
        have YB := hid (And.intro hyb hyb2)
        have NX := hid (And.intro hnx hnx2)
        have BW := hid hs.bl
        have hsw := sg_is xw zw
        have hdec := hid (fun (hne : ¬ (xw = zw ∧ ns = ns2 ∧ xb = zb ∧ y = y2)) => show R = false by
          rw [← HR.out, hs.eq, decide_eq_false_iff_not]
          intro e
          injection e with e1 e2 e3 e4 e5
          exact hne ⟨e1, e2, e3, e4⟩)
        have i1 : (i : Int) < (n : Int) := by omega
        have hb2 := Nat.lt_of_lt_of_le hb2 hs.bl.size
        have HYS := hid hs.bo.1
        have CY := hid (show y.count ≤ 4611686018427387904 ∧ y2.count ≤ 4611686018427387904 ∧ y.okN ∧ y2.okN from ⟨by have := hs.ca; simp only [Fo.count] at this; omega, by have := hs.cb; simp only [Fo.count] at this; omega, hs.oa.2.1, hs.ob.2.1⟩)
        have hxn : (xn : Int) ≤ 4611686018427387904 := by have := hs.oa.1; have := hns.1; omega
        clear hs hns hns2 hyb hyb2 hnx hnx2 hcell hcell2 hb S0 HX HY
        by_cases hw : xw = zw
        · subst hw
          clear hsw
          have hnl : ns.length = xn ∧ ns2.length = zn := ⟨NS.out.1.1, NS.out.2.1⟩
          by_cases hnn : xn = zn
          · subst hnn
            by_cases hbb : xb = zb
            · subst hbb
              generalize hR2 : decide (y = y2) = R2 at *
              cases R2 with
              | false =>
                have HD := hid (hdec.out (fun h => by have h4 := h.2.2.2; rw [decide_eq_false_iff_not] at hR2; exact hR2 h4))
                clear hdec HS NS NX hnl
                go_upto_region 8 with (first
                  | (refine Sh.wp_sv smS (x := ⟨xw, zA, xn, zc, xb, zB, zm, zk⟩) rfl (.tmp 7) (.tmp 26) rfl rfl (by rfl) q4 ?_; intro w5 q5 b5 o5 s5; have v5 := hid ((V4.out.below b5 (by have := L4.out; omega))); have c0 := v5.out.cell (j := 0) rfl; have c1 := v5.out.cell (j := 1) rfl; have c2 := v5.out.cell (j := 2) rfl; have c3 := v5.out.cell (j := 3) rfl; have d0 := q5.cell (j := 0) rfl; have d1 := q5.cell (j := 1) rfl; have d2 := q5.cell (j := 2) rfl; have d3 := q5.cell (j := 3) rfl; have Q5 := hid q5; have B5 := hid (B4.out.trans (b5.mono (by have := L4.out; omega))); clear q5 b5 o5 s5)
                  | (refine Sh.wp_al smS rfl rfl ?_; intro w4 q4 b4 s4; have L4 := hid (V3.out.lt); have V4 := hid (V3.out.keep b4); have B4 := hid (B3.out.trans (b4.mono B3.out.size)); clear b4 s4)
                  | (refine Sh.wp_ld smS rfl (.tmp 25) rfl rfl r2' ?_)
                  | (refine Sh.wp_sv smS (x := ⟨xw, xA, xn, xc, xb, xB, xm, xk⟩) rfl (.tmp 6) (.tmp 22) rfl rfl (by rfl) q2 ?_; intro w3 q3 b3 o3 s3; have V3 := hid q3; have B3 := hid (B2.out.trans (b3.mono (Nat.le_refl _))); have r2' := range_keep r2 hb2 (B2.out.trans (b3.mono (Nat.le_refl _))); clear q3 b3 o3 s3)
                  | (refine Sh.wp_al smS rfl rfl ?_; intro w2 q2 b2 s2; have B2 := hid b2; clear b2 s2)
                  | (refine Sh.wp_ld smS rfl (.tmp 21) rfl rfl r1 ?_))
                go_wp2_with (first
                  | (go_at_call 11; have h9 := HYS.out y2 w5 K K2 xB zB xm xk zm zk (YB.out.1.below (BW.out.trans (B5.out.mono BW.out.size))) (YB.out.2.below (BW.out.trans (B5.out.mono BW.out.size))) CY.out.1 CY.out.2.1 CY.out.2.2.1 CY.out.2.2.2; rw [hR2] at h9; (with_reducible refine h9.mono ?_); rintro e w6 ⟨rfl, b6⟩; have B6 := hid b6; clear b6))
                go_ret
                exact ⟨ret_bool HD.out.symm, BW.out.trans ((B5.out.trans (B6.out.mono B5.out.size)).mono BW.out.size)⟩
              | true =>
                have hyy := hid (of_decide_eq_true hR2)
                have HNL := hid hnl
                clear hnl
                go_upto_region 8 with (first
                  | (refine Sh.wp_sv smS (x := ⟨xw, zA, xn, zc, xb, zB, zm, zk⟩) rfl (.tmp 7) (.tmp 26) rfl rfl (by rfl) q4 ?_; intro w5 q5 b5 o5 s5; have v5 := hid ((V4.out.below b5 (by have := L4.out; omega))); have c0 := v5.out.cell (j := 0) rfl; have c1 := v5.out.cell (j := 1) rfl; have c2 := v5.out.cell (j := 2) rfl; have c3 := v5.out.cell (j := 3) rfl; have d0 := q5.cell (j := 0) rfl; have d1 := q5.cell (j := 1) rfl; have d2 := q5.cell (j := 2) rfl; have d3 := q5.cell (j := 3) rfl; have Q5 := hid q5; have B5 := hid (B4.out.trans (b5.mono (by have := L4.out; omega))); clear q5 b5 o5 s5)
                  | (refine Sh.wp_al smS rfl rfl ?_; intro w4 q4 b4 s4; have L4 := hid (V3.out.lt); have V4 := hid (V3.out.keep b4); have B4 := hid (B3.out.trans (b4.mono B3.out.size)); clear b4 s4)
                  | (refine Sh.wp_ld smS rfl (.tmp 25) rfl rfl r2' ?_)
                  | (refine Sh.wp_sv smS (x := ⟨xw, xA, xn, xc, xb, xB, xm, xk⟩) rfl (.tmp 6) (.tmp 22) rfl rfl (by rfl) q2 ?_; intro w3 q3 b3 o3 s3; have V3 := hid q3; have B3 := hid (B2.out.trans (b3.mono (Nat.le_refl _))); have r2' := range_keep r2 hb2 (B2.out.trans (b3.mono (Nat.le_refl _))); clear q3 b3 o3 s3)
                  | (refine Sh.wp_al smS rfl rfl ?_; intro w2 q2 b2 s2; have B2 := hid b2; clear b2 s2)
                  | (refine Sh.wp_ld smS rfl (.tmp 21) rfl rfl r1 ?_))
                go_upto_region 10 with (first
                  | (go_at_call 11; have h9 := HYS.out y2 w5 K K2 xB zB xm xk zm zk (YB.out.1.below (BW.out.trans (B5.out.mono BW.out.size))) (YB.out.2.below (BW.out.trans (B5.out.mono BW.out.size))) CY.out.1 CY.out.2.1 CY.out.2.2.1 CY.out.2.2.2; rw [hR2] at h9; (with_reducible refine h9.mono ?_); rintro e w6 ⟨rfl, b6⟩; have B6 := hid b6; clear b6))
                obtain ⟨w0, hw0⟩ : ∃ w0, w0 = wr := ⟨_, rfl⟩
                subst hw0
                have V1 := hid (v5.out.keep B6.out)
                have V2 := hid (Q5.out.keep B6.out)
                have BW6 := hid (BW.out.trans ((B5.out.trans (B6.out.mono B5.out.size)).mono BW.out.size))
                have VL := hid (And.intro V1.out.lt V2.out.lt)
                have c1 := V1.out.cell (j := 1) rfl
                clear c0 c2 c3 d0 d1 d2 d3 v5 Q5
                go_wp2_with fail
                go_loopw [59] (fun t wi => ∃ k : Nat, t = .int .i64 (k : Int) ∧ k ≤ xn ∧ (∀ j, j < k → nmS.nth ns j = nmS.nth ns2 j) ∧ Below w6.heap.size w6 wi) (fun t _ => xn - (intOf t).toNat)
                case atStart => exact ⟨0, rfl, Nat.zero_le _, fun j hj => absurd hj (by omega), Below.refl _ _⟩
                case round =>
                  obtain ⟨k, rfl, hk, hin, hbi⟩ := hrel
                  have HI := hid hin
                  have BI := hid hbi
                  clear hin hbi
                  by_cases hlk : k < xn
                  · have BWI := hid (BW6.out.trans (BI.out.mono BW6.out.size))
                    obtain ⟨p1, o3, hA1, _, z1⟩ := (NS.out.1.size.below BWI.out).at_ hlk
                    obtain ⟨p2, o4, hA2, _, z2⟩ := (NS.out.2.size.below BWI.out).at_ hlk
                    have hne := hid (show decide (nmS.nth ns k = nmS.nth ns2 k) = false → R = false from fun h => hdec.out (fun e => by rw [e.2.1] at h; simp at h))
                    have hyes := hid (show decide (nmS.nth ns k = nmS.nth ns2 k) = true → ∀ j, j < k + 1 → nmS.nth ns j = nmS.nth ns2 j from fun h j hj => by
                      by_cases e : j = k
                      · subst e; exact of_decide_eq_true h
                      · exact HI.out j (by omega))
                    have q1 := fun w => neN (nmS.nth ns k) (nmS.nth ns2 k) w
                    have q2 := fun p q w => guN .neq p q (nmS.nth ns k) (nmS.nth ns2 k) w
                    have c1 : wr.cell? ⟨w0.heap.size, 1, none⟩ = some (.slice (some ⟨p1, o3, none⟩) xn xc) := hA1 ▸ (V1.out.keep BI.out).cell (j := 1) rfl
                    have d1 : wr.cell? ⟨w3.heap.size, 1, none⟩ = some (.slice (some ⟨p2, o4, none⟩) xn zc) := hA2 ▸ (V2.out.keep BI.out).cell (j := 1) rfl
                    have x0 : wr.cell? ⟨p1, o3 + k * 2, none⟩ = some (.int .i64 (nmS.nth ns k).1) := z1 0 _ rfl
                    have x1 : wr.cell? ⟨p1, o3 + k * 2 + 1, none⟩ = some (.bool (nmS.nth ns k).2) := z1 1 _ rfl
                    have y0 : wr.cell? ⟨p2, o4 + k * 2, none⟩ = some (.int .i64 (nmS.nth ns2 k).1) := z2 0 _ rfl
                    have y1 : wr.cell? ⟨p2, o4 + k * 2 + 1, none⟩ = some (.bool (nmS.nth ns2 k).2) := z2 1 _ rfl
                    unfold nmV at q1 q2
                    clear z1 z2 hA1 hA2
                    generalize decide (nmS.nth ns k = nmS.nth ns2 k) = R3 at *
                    generalize nmS.nth ns k = a1 at *
                    generalize nmS.nth ns2 k = a2 at *
                    obtain ⟨a1, t1⟩ := a1
                    obtain ⟨a2, t2⟩ := a2
                    have i2 : (k : Int) < (xn : Int) := by omega
                    go_wp2_with fail
                    go_quiet (fail)
                    have HW := hid (bel_drewN BI.out nq)
                    generalize wr.drewN nq = w9 at *
                    clear q1 q2 x0 x1 y0 y1 c1 d1
                    cases R3
                    · have HD := hid (hne.out rfl)
                      clear hne hyes hdec
                      go_wp2
                      go_ret
                      exact ⟨ret_bool HD.out.symm, BW6.out.trans (HW.out.mono BW6.out.size)⟩
                    · have HY2 := hid (hyes.out rfl)
                      clear hne hyes hdec
                      go_wp2
                      exact ⟨⟨k + 1, by go_num, by omega, HY2.out, HW.out⟩, by simp [intOf]; omega⟩
                  · have hns : ns = ns2 := ext_nthN (by rw [HNL.out.1, HNL.out.2]) (fun j hj => HI.out j (by rw [HNL.out.1] at hj; omega))
                    have HSN := hid (show SmI w wr K K2 xs ys f h 11 (i + 1) nx nx2 from
                      ⟨by rw [HS.out.eq, hns, hyy.out]; simp, HS.out.bo.2, NX.out.1, NX.out.2, by have := HS.out.ca; simp only [Fo.count] at this; omega, by have := HS.out.cb; simp only [Fo.count] at this; omega, HS.out.oa.2.2, HS.out.ob.2.2, BW6.out.trans (BI.out.mono BW6.out.size)⟩)
                    clear hns hdec
                    go_wp2
                    exact ⟨⟨i + 1, nx, nx2, by go_num, by omega, HSN.out⟩, by simp [intOf]; omega⟩
            · have hbb2 : (xb == zb) = false := by simpa using hbb
              have HNL := hid hnl
              clear hnl YB
              have HD := hid (hdec.out (fun h => hbb h.2.2.1))
              clear hdec HS NS NX
              go_upto_region 8 with (first
                | (refine Sh.wp_sv smS (x := ⟨xw, zA, xn, zc, zb, zB, zm, zk⟩) rfl (.tmp 7) (.tmp 26) rfl rfl (by rfl) q4 ?_; intro w5 q5 b5 o5 s5; have v5 := hid ((V4.out.below b5 (by have := L4.out; omega))); have c0 := v5.out.cell (j := 0) rfl; have c1 := v5.out.cell (j := 1) rfl; have c2 := v5.out.cell (j := 2) rfl; have c3 := v5.out.cell (j := 3) rfl; have d0 := q5.cell (j := 0) rfl; have d1 := q5.cell (j := 1) rfl; have d2 := q5.cell (j := 2) rfl; have d3 := q5.cell (j := 3) rfl; have Q5 := hid q5; have B5 := hid (B4.out.trans (b5.mono (by have := L4.out; omega))); clear q5 b5 o5 s5)
                | (refine Sh.wp_al smS rfl rfl ?_; intro w4 q4 b4 s4; have L4 := hid (V3.out.lt); have V4 := hid (V3.out.keep b4); have B4 := hid (B3.out.trans (b4.mono B3.out.size)); clear b4 s4)
                | (refine Sh.wp_ld smS rfl (.tmp 25) rfl rfl r2' ?_)
                | (refine Sh.wp_sv smS (x := ⟨xw, xA, xn, xc, xb, xB, xm, xk⟩) rfl (.tmp 6) (.tmp 22) rfl rfl (by rfl) q2 ?_; intro w3 q3 b3 o3 s3; have V3 := hid q3; have B3 := hid (B2.out.trans (b3.mono (Nat.le_refl _))); have r2' := range_keep r2 hb2 (B2.out.trans (b3.mono (Nat.le_refl _))); clear q3 b3 o3 s3)
                | (refine Sh.wp_al smS rfl rfl ?_; intro w2 q2 b2 s2; have B2 := hid b2; clear b2 s2)
                | (refine Sh.wp_ld smS rfl (.tmp 21) rfl rfl r1 ?_))
              go_wp2_with fail
              go_ret
              exact ⟨ret_bool HD.out.symm, BW.out.trans (B5.out.mono BW.out.size)⟩
          · have hnn2 : ((xn : Int) == (zn : Int)) = false := beq_eq_false_iff_ne.2 (by omega)
            have hnn3 : ¬ (xn : Int) = (zn : Int) := by omega
            have HNL := hid hnl
            clear hnl YB
            have HD := hid (hdec.out (fun h => hnn (by rw [← HNL.out.1, ← HNL.out.2, h.2.1])))
            clear hdec HS NS NX
            go_upto_region 8 with (first
              | (refine Sh.wp_sv smS (x := ⟨xw, zA, zn, zc, zb, zB, zm, zk⟩) rfl (.tmp 7) (.tmp 26) rfl rfl (by rfl) q4 ?_; intro w5 q5 b5 o5 s5; have v5 := hid ((V4.out.below b5 (by have := L4.out; omega))); have c0 := v5.out.cell (j := 0) rfl; have c1 := v5.out.cell (j := 1) rfl; have c2 := v5.out.cell (j := 2) rfl; have c3 := v5.out.cell (j := 3) rfl; have d0 := q5.cell (j := 0) rfl; have d1 := q5.cell (j := 1) rfl; have d2 := q5.cell (j := 2) rfl; have d3 := q5.cell (j := 3) rfl; have Q5 := hid q5; have B5 := hid (B4.out.trans (b5.mono (by have := L4.out; omega))); clear q5 b5 o5 s5)
              | (refine Sh.wp_al smS rfl rfl ?_; intro w4 q4 b4 s4; have L4 := hid (V3.out.lt); have V4 := hid (V3.out.keep b4); have B4 := hid (B3.out.trans (b4.mono B3.out.size)); clear b4 s4)
              | (refine Sh.wp_ld smS rfl (.tmp 25) rfl rfl r2' ?_)
              | (refine Sh.wp_sv smS (x := ⟨xw, xA, xn, xc, xb, xB, xm, xk⟩) rfl (.tmp 6) (.tmp 22) rfl rfl (by rfl) q2 ?_; intro w3 q3 b3 o3 s3; have V3 := hid q3; have B3 := hid (B2.out.trans (b3.mono (Nat.le_refl _))); have r2' := range_keep r2 hb2 (B2.out.trans (b3.mono (Nat.le_refl _))); clear q3 b3 o3 s3)
              | (refine Sh.wp_al smS rfl rfl ?_; intro w2 q2 b2 s2; have B2 := hid b2; clear b2 s2)
              | (refine Sh.wp_ld smS rfl (.tmp 21) rfl rfl r1 ?_))
            go_wp2_with fail
            go_ret
            exact ⟨ret_bool HD.out.symm, BW.out.trans (B5.out.mono BW.out.size)⟩
        · rw [decide_eq_false hw] at hsw
          have hsw : ((strB xw).toList == (strB zw).toList) = false := by
            rw [← hsw]; congr 1; rw [ByteArray.toList_eq]; rfl
          clear YB
          generalize hz1 : strB xw = z1 at *
          generalize hz2 : strB zw = z2 at *
          subst hz1 hz2
          have HD := hid (hdec.out (fun h => hw h.1))
          clear hdec HS NS NX
          go_upto_region 8 with (first
            | (refine Sh.wp_sv smS (x := ⟨zw, zA, zn, zc, zb, zB, zm, zk⟩) rfl (.tmp 7) (.tmp 26) rfl rfl (by rfl) q4 ?_; intro w5 q5 b5 o5 s5; have v5 := hid ((V4.out.below b5 (by have := L4.out; omega))); have c0 := v5.out.cell (j := 0) rfl; have c1 := v5.out.cell (j := 1) rfl; have c2 := v5.out.cell (j := 2) rfl; have c3 := v5.out.cell (j := 3) rfl; have d0 := q5.cell (j := 0) rfl; have d1 := q5.cell (j := 1) rfl; have d2 := q5.cell (j := 2) rfl; have d3 := q5.cell (j := 3) rfl; have Q5 := hid q5; have B5 := hid (B4.out.trans (b5.mono (by have := L4.out; omega))); clear q5 b5 o5 s5)
            | (refine Sh.wp_al smS rfl rfl ?_; intro w4 q4 b4 s4; have L4 := hid (V3.out.lt); have V4 := hid (V3.out.keep b4); have B4 := hid (B3.out.trans (b4.mono B3.out.size)); clear b4 s4)
            | (refine Sh.wp_ld smS rfl (.tmp 25) rfl rfl r2' ?_)
            | (refine Sh.wp_sv smS (x := ⟨xw, xA, xn, xc, xb, xB, xm, xk⟩) rfl (.tmp 6) (.tmp 22) rfl rfl (by rfl) q2 ?_; intro w3 q3 b3 o3 s3; have V3 := hid q3; have B3 := hid (B2.out.trans (b3.mono (Nat.le_refl _))); have r2' := range_keep r2 hb2 (B2.out.trans (b3.mono (Nat.le_refl _))); clear q3 b3 o3 s3)
            | (refine Sh.wp_al smS rfl rfl ?_; intro w2 q2 b2 s2; have B2 := hid b2; clear b2 s2)
            | (refine Sh.wp_ld smS rfl (.tmp 21) rfl rfl r1 ?_))
          go_wp2_with fail
          go_ret
          exact ⟨ret_bool HD.out.symm, BW.out.trans (B5.out.mono BW.out.size)⟩
      · obtain rfl : i = n := by omega
        have hr := hs.ta.done (by rw [HX.out.1]; exact Nat.le_refl _)
        have hq := hs.tb.done (by rw [HY.out.1]; exact Nat.le_refl _)
        have HD := hid (show R = true by rw [← HR.out, hs.eq, hr, hq]; rfl)
        have BW := hid hs.bl
        clear hs hr hq
        go_wp2
        go_ret
        exact ⟨ret_bool HD.out.symm, BW.out⟩
  · have HD := hid (show R = false by
      rw [← HR.out, decide_eq_false_iff_not]
      rintro rfl
      exact hnn (by rw [← L1, ← L2]))
    have hne : ((n : Int) == (n2 : Int)) = false := beq_eq_false_iff_ne.2 (by omega)
    clear hx hy hf htr htr2 hc hc2 ho ho2 L1 L2
    go_enter Tryz.func11, Tryz.ntmps11
    go_wp2
    go_ret
    exact ⟨ret_bool HD.out.symm, Below.refl _ _⟩
theorem rsame_any (f : Fo) : SameSaid 11 f := (Fo.ind rsame_step f).1
end Go.Proofs.YtinjhnflnfpoeaaGreatDoor
