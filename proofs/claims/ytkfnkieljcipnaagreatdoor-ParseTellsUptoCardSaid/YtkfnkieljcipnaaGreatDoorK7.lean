/-
  QC: The contract of the document's own Same, at every two forests of at most 2^62 statements, each of at most 2^62 numbers.
  QA: What a text is parsed as, with a bound on the steps (parN), so that it can be reckoned; the contract of the law functions' live: it is true; under: the tables hold what the program lays (LaidW).
  QG: Plain words: what a text is cut into, and parsed as, that has another one behind it, with a line's end between. No model's run; no condition.
  QE: The walk of ParseDeep: it is true; under: the tables hold what the program lays (LaidW).
  QH: What a text is parsed as that has another one behind it, with a line's end between; what Parse and Cut tell, in one form. Plain, but for the last two, which are under: the tables hold what the program lays (LaidW).
  RA: Contracts of parse.fits and parse.Check, at every forest of at most 2^62 statements; and when Check answers OK.
-/
import Derived.Test.YtkfnkieljcipnaaGreatDoorK6
/-! QC -/
namespace Go.Proofs.YtkfnkieljcipnaaGreatDoor
open Go Go.RowKit Go.Joins

theorem foN : Tryz.prog.underlying 38 = some (.struct (Tryz.prog.fieldsOf 38)) := by kernel_rfl
theorem siN : Tryz.prog.stoodInHeld 38 = false := by kernel_rfl
theorem egN : Tryz.prog.eqGuardType Tryz.prog.depth 38 = false := by kernel_rfl
def nmV (x : Int × Bool) : Value := .agg #[.int .i64 x.1, .bool x.2]
theorem eqInN (x y : Int × Bool) (w : World) : (Op.equalIn 10000 38 (nmV x) (nmV y)).run Tryz.prog w = .ok (decide (x = y)) w := by
  obtain ⟨x1, x2⟩ := x
  obtain ⟨y1, y2⟩ := y
  unfold nmV
  rw [run_equalIn_agg w 9999 38 _ _ foN siN]
  simp [go_sem]
  by_cases h1 : x1 = y1 <;> by_cases h2 : x2 = y2 <;> simp [h1, h2]
theorem eqN (x y : Int × Bool) (w : World) : (binOp .eql 38 (nmV x) (nmV y)).run Tryz.prog w = .ok (.bool (decide (x = y))) w := by
  have := eqInN x y w
  unfold nmV at this ⊢
  rw [run_eql_struct, this]; rfl
theorem neN (x y : Int × Bool) (w : World) : (binOp .neq 38 (nmV x) (nmV y)).run Tryz.prog w = .ok (.bool (!decide (x = y))) w := by
  have := eqInN x y w
  unfold nmV at this ⊢
  rw [run_neq_struct, this]; rfl
theorem guN (op : BinOp) (a b : Operand) (x y : Int × Bool) (w : World) : (eqGuard op 38 a b (nmV x) (nmV y)).run Tryz.prog w = .ok () w := run_eqGuard_agg w op 38 a b _ _ egN

theorem ext_nthN {a b : List (Int × Bool)} (hl : a.length = b.length) (h : ∀ j, j < a.length → nmS.nth a j = nmS.nth b j) : a = b := by
  apply List.ext_getElem hl
  intro j h1 h2
  have := h j h1
  rwa [nmS.nth_of (List.getElem?_eq_getElem h1), nmS.nth_of (List.getElem?_eq_getElem h2)] at this

/-- the statements' numbers are few -/
def Fo.okN : Fo → Prop
  | nil => True
  | cons _ ns _ y n => ns.length ≤ 4611686018427387904 ∧ y.okN ∧ n.okN
def SameSaid (g : Nat) (f : Fo) : Prop := ∀ (h : Fo) (w : World) (K K2 : Nat → Prop) (A A2 : Option Addr) (n c n2 c2 : Nat), TrS w K A n f → TrS w K2 A2 n2 h → f.count ≤ 4611686018427387904 → h.count ≤ 4611686018427387904 → f.okN → h.okN →
  Calls Tryz.prog g #[.slice A n c, .slice A2 n2 c2] w fun e w' => e = .returned (.bool (decide (f = h))) ∧ Below w.heap.size w w'

/-- What is known when element i of both is looked at. -/
structure SmI (w wr : World) (K K2 : Nat → Prop) (xs ys : List Sm) (f h : Fo) (g i : Nat) (r q : Fo) : Prop where
  eq : decide (f = h) = decide (r = q)
  bo : r.Bodies (SameSaid g)
  ta : Tr w K r (xs.drop i)
  tb : Tr w K2 q (ys.drop i)
  ca : r.count ≤ 4611686018427387904
  cb : q.count ≤ 4611686018427387904
  oa : r.okN
  ob : q.okN
  bl : Below w.heap.size w wr

set_option maxHeartbeats 4000000 in
set_option maxRecDepth 100000 in
theorem rsame_step (f : Fo) (hf : f.Bodies (SameSaid 15)) : SameSaid 15 f := by
  intro h w K K2 A A2 n c n2 c2 ht ht2 hc hc2 ho ho2
  obtain ⟨xs, hx, htr⟩ := ht
  obtain ⟨ys, hy, htr2⟩ := ht2
  have HX := hid hx
  have HY := hid hy
  have L1 : f.len = n := by rw [← htr.len, hx.1]
  have L2 : h.len = n2 := by rw [← htr2.len, hy.1]
  have hn : (n : Int) ≤ 4611686018427387904 := by have := f.len_le; omega
  have hn2 : (n2 : Int) ≤ 4611686018427387904 := by have := h.len_le; omega
  have S0 := hid (SmI.mk (w := w) (wr := w) (K := K) (K2 := K2) (xs := xs) (ys := ys) (i := 0) rfl hf (by simpa using htr) (by simpa using htr2) hc hc2 ho ho2 (Below.refl _ _))
  obtain ⟨R, hR⟩ : ∃ R, decide (f = h) = R := ⟨_, rfl⟩
  rw [hR]
  have HR := hid hR
  clear hR
  by_cases hnn : n = n2
  · subst hnn
    clear hx hy hf htr htr2 hc hc2 ho ho2 L1 L2
    go_enter Tryz.func15, Tryz.ntmps15
    go_wp2
    go_loopw [16] (fun v16 wr => ∃ (i : Nat) (r q : Fo), v16 = .int .i64 (i : Nat) ∧ i ≤ n ∧ SmI w wr K K2 xs ys f h 15 i r q) (fun v16 _ => n - (intOf v16).toNat)
    case atStart => exact ⟨0, f, h, rfl, Nat.zero_le _, S0.out⟩
    case round =>
      obtain ⟨i, r, q, rfl, hi, hs⟩ := hrel
      by_cases hlt : i < n
      · obtain ⟨wd, ns, bl, y, nx, rfl, e1, e2, hns, hyb, hnx⟩ := hs.ta.step (by rw [HX.out.1]; exact hlt)
        obtain ⟨wd2, ns2, bl2, y2, nx2, rfl, k1, k2, hns2, hyb2, hnx2⟩ := hs.tb.step (by rw [HY.out.1]; exact hlt)
        obtain ⟨b, o, rfl, hb, hcell⟩ := (HX.out.size.below hs.bl).at_ hlt
        obtain ⟨b2, o2, rfl, hb2, hcell2⟩ := (HY.out.size.below hs.bl).at_ hlt
        generalize smS.nth xs i = x at *
        generalize smS.nth ys i = x2 at *
        obtain ⟨xw, xA, xn, xc, xb, xB, xm, xk⟩ := x
        obtain ⟨zw, zA, zn, zc, zb, zB, zm, zk⟩ := x2
        simp only at e1 e2 k1 k2 hns hns2 hyb hyb2
        subst e1 e2 k1 k2
        have r1 : wr.rangeAt b (o + i * 4) (smS.enc ⟨xw, xA, xn, xc, xb, xB, xm, xk⟩) := hcell
        have r2 : wr.rangeAt b2 (o2 + i * 4) (smS.enc ⟨zw, zA, zn, zc, zb, zB, zm, zk⟩) := hcell2
        have HS := hid hs
        have NS := hid (And.intro hns hns2)
        have YB := hid (And.intro hyb hyb2)
        have NX := hid (And.intro hnx hnx2)
        have BW := hid hs.bl
        have hsw := sg_is xw zw
        have hdec := hid (fun (hne : ¬ (xw = zw ∧ ns = ns2 ∧ xb = zb ∧ y = y2)) => show R = false by
          rw [← HR.out, hs.eq, decide_eq_false_iff_not]
          intro e
          injection e with e1 e2 e3 e4 e5
          exact hne ⟨e1, e2, e3, e4⟩)
        have i1 : (i : Int) < (n : Int) := by omega
        have hb2 := Nat.lt_of_lt_of_le hb2 hs.bl.size
        have HYS := hid hs.bo.1
        have CY := hid (show y.count ≤ 4611686018427387904 ∧ y2.count ≤ 4611686018427387904 ∧ y.okN ∧ y2.okN from ⟨by have := hs.ca; simp only [Fo.count] at this; omega, by have := hs.cb; simp only [Fo.count] at this; omega, hs.oa.2.1, hs.ob.2.1⟩)
        have hxn : (xn : Int) ≤ 4611686018427387904 := by have := hs.oa.1; have := hns.1; omega
        clear hs hns hns2 hyb hyb2 hnx hnx2 hcell hcell2 hb S0 HX HY
        by_cases hw : xw = zw
        · subst hw
          clear hsw
          have hnl : ns.length = xn ∧ ns2.length = zn := ⟨NS.out.1.1, NS.out.2.1⟩
          by_cases hnn : xn = zn
          · subst hnn
            by_cases hbb : xb = zb
            · subst hbb
              generalize hR2 : decide (y = y2) = R2 at *
              cases R2 with
              | false =>
                have HD := hid (hdec.out (fun h => by have h4 := h.2.2.2; rw [decide_eq_false_iff_not] at hR2; exact hR2 h4))
                clear hdec HS NS NX hnl
                go_upto_region 8 with (first
                  | (refine Sh.wp_sv smS (x := ⟨xw, zA, xn, zc, xb, zB, zm, zk⟩) rfl (.tmp 7) (.tmp 26) rfl rfl (by rfl) q4 ?_; intro w5 q5 b5 o5 s5; have v5 := hid ((V4.out.below b5 (by have := L4.out; omega))); have c0 := v5.out.cell (j := 0) rfl; have c1 := v5.out.cell (j := 1) rfl; have c2 := v5.out.cell (j := 2) rfl; have c3 := v5.out.cell (j := 3) rfl; have d0 := q5.cell (j := 0) rfl; have d1 := q5.cell (j := 1) rfl; have d2 := q5.cell (j := 2) rfl; have d3 := q5.cell (j := 3) rfl; have Q5 := hid q5; have B5 := hid (B4.out.trans (b5.mono (by have := L4.out; omega))); clear q5 b5 o5 s5)
                  | (refine Sh.wp_al smS rfl rfl ?_; intro w4 q4 b4 s4; have L4 := hid (V3.out.lt); have V4 := hid (V3.out.keep b4); have B4 := hid (B3.out.trans (b4.mono B3.out.size)); clear b4 s4)
                  | (refine Sh.wp_ld smS rfl (.tmp 25) rfl rfl r2' ?_)
                  | (refine Sh.wp_sv smS (x := ⟨xw, xA, xn, xc, xb, xB, xm, xk⟩) rfl (.tmp 6) (.tmp 22) rfl rfl (by rfl) q2 ?_; intro w3 q3 b3 o3 s3; have V3 := hid q3; have B3 := hid (B2.out.trans (b3.mono (Nat.le_refl _))); have r2' := range_keep r2 hb2 (B2.out.trans (b3.mono (Nat.le_refl _))); clear q3 b3 o3 s3)
                  | (refine Sh.wp_al smS rfl rfl ?_; intro w2 q2 b2 s2; have B2 := hid b2; clear b2 s2)
                  | (refine Sh.wp_ld smS rfl (.tmp 21) rfl rfl r1 ?_))
                go_wp2_with (first
                  | (go_at_call 15; have h9 := HYS.out y2 w5 K K2 xB zB xm xk zm zk (YB.out.1.below (BW.out.trans (B5.out.mono BW.out.size))) (YB.out.2.below (BW.out.trans (B5.out.mono BW.out.size))) CY.out.1 CY.out.2.1 CY.out.2.2.1 CY.out.2.2.2; rw [hR2] at h9; (with_reducible refine h9.mono ?_); rintro e w6 ⟨rfl, b6⟩; have B6 := hid b6; clear b6))
                go_ret
                exact ⟨ret_bool HD.out.symm, BW.out.trans ((B5.out.trans (B6.out.mono B5.out.size)).mono BW.out.size)⟩
              | true =>
                have hyy := hid (of_decide_eq_true hR2)
                have HNL := hid hnl
                clear hnl
                go_upto_region 8 with (first
                  | (refine Sh.wp_sv smS (x := ⟨xw, zA, xn, zc, xb, zB, zm, zk⟩) rfl (.tmp 7) (.tmp 26) rfl rfl (by rfl) q4 ?_; intro w5 q5 b5 o5 s5; have v5 := hid ((V4.out.below b5 (by have := L4.out; omega))); have c0 := v5.out.cell (j := 0) rfl; have c1 := v5.out.cell (j := 1) rfl; have c2 := v5.out.cell (j := 2) rfl; have c3 := v5.out.cell (j := 3) rfl; have d0 := q5.cell (j := 0) rfl; have d1 := q5.cell (j := 1) rfl; have d2 := q5.cell (j := 2) rfl; have d3 := q5.cell (j := 3) rfl; have Q5 := hid q5; have B5 := hid (B4.out.trans (b5.mono (by have := L4.out; omega))); clear q5 b5 o5 s5)
                  | (refine Sh.wp_al smS rfl rfl ?_; intro w4 q4 b4 s4; have L4 := hid (V3.out.lt); have V4 := hid (V3.out.keep b4); have B4 := hid (B3.out.trans (b4.mono B3.out.size)); clear b4 s4)
                  | (refine Sh.wp_ld smS rfl (.tmp 25) rfl rfl r2' ?_)
                  | (refine Sh.wp_sv smS (x := ⟨xw, xA, xn, xc, xb, xB, xm, xk⟩) rfl (.tmp 6) (.tmp 22) rfl rfl (by rfl) q2 ?_; intro w3 q3 b3 o3 s3; have V3 := hid q3; have B3 := hid (B2.out.trans (b3.mono (Nat.le_refl _))); have r2' := range_keep r2 hb2 (B2.out.trans (b3.mono (Nat.le_refl _))); clear q3 b3 o3 s3)
                  | (refine Sh.wp_al smS rfl rfl ?_; intro w2 q2 b2 s2; have B2 := hid b2; clear b2 s2)
                  | (refine Sh.wp_ld smS rfl (.tmp 21) rfl rfl r1 ?_))
                go_upto_region 10 with (first
                  | (go_at_call 15; have h9 := HYS.out y2 w5 K K2 xB zB xm xk zm zk (YB.out.1.below (BW.out.trans (B5.out.mono BW.out.size))) (YB.out.2.below (BW.out.trans (B5.out.mono BW.out.size))) CY.out.1 CY.out.2.1 CY.out.2.2.1 CY.out.2.2.2; rw [hR2] at h9; (with_reducible refine h9.mono ?_); rintro e w6 ⟨rfl, b6⟩; have B6 := hid b6; clear b6))
                obtain ⟨w0, hw0⟩ : ∃ w0, w0 = wr := ⟨_, rfl⟩
                subst hw0
                have V1 := hid (v5.out.keep B6.out)
                have V2 := hid (Q5.out.keep B6.out)
                have BW6 := hid (BW.out.trans ((B5.out.trans (B6.out.mono B5.out.size)).mono BW.out.size))
                have VL := hid (And.intro V1.out.lt V2.out.lt)
                have c1 := V1.out.cell (j := 1) rfl
                clear c0 c2 c3 d0 d1 d2 d3 v5 Q5
                go_wp2_with fail
                go_loopw [59] (fun t wi => ∃ k : Nat, t = .int .i64 (k : Int) ∧ k ≤ xn ∧ (∀ j, j < k → nmS.nth ns j = nmS.nth ns2 j) ∧ Below w6.heap.size w6 wi) (fun t _ => xn - (intOf t).toNat)
                case atStart => exact ⟨0, rfl, Nat.zero_le _, fun j hj => absurd hj (by omega), Below.refl _ _⟩
                case round =>
                  obtain ⟨k, rfl, hk, hin, hbi⟩ := hrel
                  have HI := hid hin
                  have BI := hid hbi
                  clear hin hbi
                  by_cases hlk : k < xn
                  · have BWI := hid (BW6.out.trans (BI.out.mono BW6.out.size))
                    obtain ⟨p1, o3, hA1, _, z1⟩ := (NS.out.1.size.below BWI.out).at_ hlk
                    obtain ⟨p2, o4, hA2, _, z2⟩ := (NS.out.2.size.below BWI.out).at_ hlk
                    have hne := hid (show decide (nmS.nth ns k = nmS.nth ns2 k) = false → R = false from fun h => hdec.out (fun e => by rw [e.2.1] at h; simp at h))
                    have hyes := hid (show decide (nmS.nth ns k = nmS.nth ns2 k) = true → ∀ j, j < k + 1 → nmS.nth ns j = nmS.nth ns2 j from fun h j hj => by
                      by_cases e : j = k
                      · subst e; exact of_decide_eq_true h
                      · exact HI.out j (by omega))
                    have q1 := fun w => neN (nmS.nth ns k) (nmS.nth ns2 k) w
                    have q2 := fun p q w => guN .neq p q (nmS.nth ns k) (nmS.nth ns2 k) w
                    have c1 : wr.cell? ⟨w0.heap.size, 1, none⟩ = some (.slice (some ⟨p1, o3, none⟩) xn xc) := hA1 ▸ (V1.out.keep BI.out).cell (j := 1) rfl
                    have d1 : wr.cell? ⟨w3.heap.size, 1, none⟩ = some (.slice (some ⟨p2, o4, none⟩) xn zc) := hA2 ▸ (V2.out.keep BI.out).cell (j := 1) rfl
                    have x0 : wr.cell? ⟨p1, o3 + k * 2, none⟩ = some (.int .i64 (nmS.nth ns k).1) := z1 0 _ rfl
                    have x1 : wr.cell? ⟨p1, o3 + k * 2 + 1, none⟩ = some (.bool (nmS.nth ns k).2) := z1 1 _ rfl
                    have y0 : wr.cell? ⟨p2, o4 + k * 2, none⟩ = some (.int .i64 (nmS.nth ns2 k).1) := z2 0 _ rfl
                    have y1 : wr.cell? ⟨p2, o4 + k * 2 + 1, none⟩ = some (.bool (nmS.nth ns2 k).2) := z2 1 _ rfl
                    unfold nmV at q1 q2
                    clear z1 z2 hA1 hA2
                    generalize decide (nmS.nth ns k = nmS.nth ns2 k) = R3 at *
                    generalize nmS.nth ns k = a1 at *
                    generalize nmS.nth ns2 k = a2 at *
                    obtain ⟨a1, t1⟩ := a1
                    obtain ⟨a2, t2⟩ := a2
                    have i2 : (k : Int) < (xn : Int) := by omega
                    go_wp2_with fail
                    go_quiet (fail)
                    have HW := hid (bel_drewN BI.out nq)
                    generalize wr.drewN nq = w9 at *
                    clear q1 q2 x0 x1 y0 y1 c1 d1
                    cases R3
                    · have HD := hid (hne.out rfl)
                      clear hne hyes hdec
                      go_wp2
                      go_ret
                      exact ⟨ret_bool HD.out.symm, BW6.out.trans (HW.out.mono BW6.out.size)⟩
                    · have HY2 := hid (hyes.out rfl)
                      clear hne hyes hdec
                      go_wp2
                      exact ⟨⟨k + 1, by go_num, by omega, HY2.out, HW.out⟩, by simp [intOf]; omega⟩
                  · have hns : ns = ns2 := ext_nthN (by rw [HNL.out.1, HNL.out.2]) (fun j hj => HI.out j (by rw [HNL.out.1] at hj; omega))
                    have HSN := hid (show SmI w wr K K2 xs ys f h 15 (i + 1) nx nx2 from
                      ⟨by rw [HS.out.eq, hns, hyy.out]; simp, HS.out.bo.2, NX.out.1, NX.out.2, by have := HS.out.ca; simp only [Fo.count] at this; omega, by have := HS.out.cb; simp only [Fo.count] at this; omega, HS.out.oa.2.2, HS.out.ob.2.2, BW6.out.trans (BI.out.mono BW6.out.size)⟩)
                    clear hns hdec
                    go_wp2
                    exact ⟨⟨i + 1, nx, nx2, by go_num, by omega, HSN.out⟩, by simp [intOf]; omega⟩
            · have hbb2 : (xb == zb) = false := by simpa using hbb
              have HNL := hid hnl
              clear hnl YB
              have HD := hid (hdec.out (fun h => hbb h.2.2.1))
              clear hdec HS NS NX
              go_upto_region 8 with (first
                | (refine Sh.wp_sv smS (x := ⟨xw, zA, xn, zc, zb, zB, zm, zk⟩) rfl (.tmp 7) (.tmp 26) rfl rfl (by rfl) q4 ?_; intro w5 q5 b5 o5 s5; have v5 := hid ((V4.out.below b5 (by have := L4.out; omega))); have c0 := v5.out.cell (j := 0) rfl; have c1 := v5.out.cell (j := 1) rfl; have c2 := v5.out.cell (j := 2) rfl; have c3 := v5.out.cell (j := 3) rfl; have d0 := q5.cell (j := 0) rfl; have d1 := q5.cell (j := 1) rfl; have d2 := q5.cell (j := 2) rfl; have d3 := q5.cell (j := 3) rfl; have Q5 := hid q5; have B5 := hid (B4.out.trans (b5.mono (by have := L4.out; omega))); clear q5 b5 o5 s5)
                | (refine Sh.wp_al smS rfl rfl ?_; intro w4 q4 b4 s4; have L4 := hid (V3.out.lt); have V4 := hid (V3.out.keep b4); have B4 := hid (B3.out.trans (b4.mono B3.out.size)); clear b4 s4)
                | (refine Sh.wp_ld smS rfl (.tmp 25) rfl rfl r2' ?_)
                | (refine Sh.wp_sv smS (x := ⟨xw, xA, xn, xc, xb, xB, xm, xk⟩) rfl (.tmp 6) (.tmp 22) rfl rfl (by rfl) q2 ?_; intro w3 q3 b3 o3 s3; have V3 := hid q3; have B3 := hid (B2.out.trans (b3.mono (Nat.le_refl _))); have r2' := range_keep r2 hb2 (B2.out.trans (b3.mono (Nat.le_refl _))); clear q3 b3 o3 s3)
                | (refine Sh.wp_al smS rfl rfl ?_; intro w2 q2 b2 s2; have B2 := hid b2; clear b2 s2)
                | (refine Sh.wp_ld smS rfl (.tmp 21) rfl rfl r1 ?_))
              go_wp2_with fail
              go_ret
              exact ⟨ret_bool HD.out.symm, BW.out.trans (B5.out.mono BW.out.size)⟩
          · have hnn2 : ((xn : Int) == (zn : Int)) = false := beq_eq_false_iff_ne.2 (by omega)
            have hnn3 : ¬ (xn : Int) = (zn : Int) := by omega
            have HNL := hid hnl
            clear hnl YB
            have HD := hid (hdec.out (fun h => hnn (by rw [← HNL.out.1, ← HNL.out.2, h.2.1])))
            clear hdec HS NS NX
            go_upto_region 8 with (first
              | (refine Sh.wp_sv smS (x := ⟨xw, zA, zn, zc, zb, zB, zm, zk⟩) rfl (.tmp 7) (.tmp 26) rfl rfl (by rfl) q4 ?_; intro w5 q5 b5 o5 s5; have v5 := hid ((V4.out.below b5 (by have := L4.out; omega))); have c0 := v5.out.cell (j := 0) rfl; have c1 := v5.out.cell (j := 1) rfl; have c2 := v5.out.cell (j := 2) rfl; have c3 := v5.out.cell (j := 3) rfl; have d0 := q5.cell (j := 0) rfl; have d1 := q5.cell (j := 1) rfl; have d2 := q5.cell (j := 2) rfl; have d3 := q5.cell (j := 3) rfl; have Q5 := hid q5; have B5 := hid (B4.out.trans (b5.mono (by have := L4.out; omega))); clear q5 b5 o5 s5)
              | (refine Sh.wp_al smS rfl rfl ?_; intro w4 q4 b4 s4; have L4 := hid (V3.out.lt); have V4 := hid (V3.out.keep b4); have B4 := hid (B3.out.trans (b4.mono B3.out.size)); clear b4 s4)
              | (refine Sh.wp_ld smS rfl (.tmp 25) rfl rfl r2' ?_)
              | (refine Sh.wp_sv smS (x := ⟨xw, xA, xn, xc, xb, xB, xm, xk⟩) rfl (.tmp 6) (.tmp 22) rfl rfl (by rfl) q2 ?_; intro w3 q3 b3 o3 s3; have V3 := hid q3; have B3 := hid (B2.out.trans (b3.mono (Nat.le_refl _))); have r2' := range_keep r2 hb2 (B2.out.trans (b3.mono (Nat.le_refl _))); clear q3 b3 o3 s3)
              | (refine Sh.wp_al smS rfl rfl ?_; intro w2 q2 b2 s2; have B2 := hid b2; clear b2 s2)
              | (refine Sh.wp_ld smS rfl (.tmp 21) rfl rfl r1 ?_))
            go_wp2_with fail
            go_ret
            exact ⟨ret_bool HD.out.symm, BW.out.trans (B5.out.mono BW.out.size)⟩
        · rw [decide_eq_false hw] at hsw
          have hsw : ((strB xw).toList == (strB zw).toList) = false := by
            rw [← hsw]; congr 1; rw [ByteArray.toList_eq]; rfl
          clear YB
          generalize hz1 : strB xw = z1 at *
          generalize hz2 : strB zw = z2 at *
          subst hz1 hz2
          have HD := hid (hdec.out (fun h => hw h.1))
          clear hdec HS NS NX
          go_upto_region 8 with (first
            | (refine Sh.wp_sv smS (x := ⟨zw, zA, zn, zc, zb, zB, zm, zk⟩) rfl (.tmp 7) (.tmp 26) rfl rfl (by rfl) q4 ?_; intro w5 q5 b5 o5 s5; have v5 := hid ((V4.out.below b5 (by have := L4.out; omega))); have c0 := v5.out.cell (j := 0) rfl; have c1 := v5.out.cell (j := 1) rfl; have c2 := v5.out.cell (j := 2) rfl; have c3 := v5.out.cell (j := 3) rfl; have d0 := q5.cell (j := 0) rfl; have d1 := q5.cell (j := 1) rfl; have d2 := q5.cell (j := 2) rfl; have d3 := q5.cell (j := 3) rfl; have Q5 := hid q5; have B5 := hid (B4.out.trans (b5.mono (by have := L4.out; omega))); clear q5 b5 o5 s5)
            | (refine Sh.wp_al smS rfl rfl ?_; intro w4 q4 b4 s4; have L4 := hid (V3.out.lt); have V4 := hid (V3.out.keep b4); have B4 := hid (B3.out.trans (b4.mono B3.out.size)); clear b4 s4)
            | (refine Sh.wp_ld smS rfl (.tmp 25) rfl rfl r2' ?_)
            | (refine Sh.wp_sv smS (x := ⟨xw, xA, xn, xc, xb, xB, xm, xk⟩) rfl (.tmp 6) (.tmp 22) rfl rfl (by rfl) q2 ?_; intro w3 q3 b3 o3 s3; have V3 := hid q3; have B3 := hid (B2.out.trans (b3.mono (Nat.le_refl _))); have r2' := range_keep r2 hb2 (B2.out.trans (b3.mono (Nat.le_refl _))); clear q3 b3 o3 s3)
            | (refine Sh.wp_al smS rfl rfl ?_; intro w2 q2 b2 s2; have B2 := hid b2; clear b2 s2)
            | (refine Sh.wp_ld smS rfl (.tmp 21) rfl rfl r1 ?_))
          go_wp2_with fail
          go_ret
          exact ⟨ret_bool HD.out.symm, BW.out.trans (B5.out.mono BW.out.size)⟩
      · obtain rfl : i = n := by omega
        have hr := hs.ta.done (by rw [HX.out.1]; exact Nat.le_refl _)
        have hq := hs.tb.done (by rw [HY.out.1]; exact Nat.le_refl _)
        have HD := hid (show R = true by rw [← HR.out, hs.eq, hr, hq]; rfl)
        have BW := hid hs.bl
        clear hs hr hq
        go_wp2
        go_ret
        exact ⟨ret_bool HD.out.symm, BW.out⟩
  · have HD := hid (show R = false by
      rw [← HR.out, decide_eq_false_iff_not]
      rintro rfl
      exact hnn (by rw [← L1, ← L2]))
    have hne : ((n : Int) == (n2 : Int)) = false := beq_eq_false_iff_ne.2 (by omega)
    clear hx hy hf htr htr2 hc hc2 ho ho2 L1 L2
    go_enter Tryz.func15, Tryz.ntmps15
    go_wp2
    go_ret
    exact ⟨ret_bool HD.out.symm, Below.refl _ _⟩
theorem rsame_any (f : Fo) : SameSaid 15 f := (Fo.ind rsame_step f).1
end Go.Proofs.YtkfnkieljcipnaaGreatDoor

/-! QA -/
namespace Go.Proofs.YtkfnkieljcipnaaGreatDoor
open Go Go.RowKit Go.Joins

def cutN : Nat → List UInt8 → Bool → Pl → List (Tk × Pl) × Option (Pl × Nat)
  | 0, _, _, _ => ([], none)
  | _ + 1, [], _, _ => ([], none)
  | f + 1, c :: r, rem, here =>
    if brok (c :: r) then ([], some (here, 4))
    else if (dec (c :: r)).1 = 10 then cutN f (r.drop ((dec (c :: r)).2 - 1)) false (behindP here 10)
    else if rem = true ∨ (dec (c :: r)).1 = 32 ∨ (dec (c :: r)).1 = 9 then cutN f (r.drop ((dec (c :: r)).2 - 1)) rem (behindP here (dec (c :: r)).1)
    else if (dec (c :: r)).1 = 35 then cutN f (r.drop ((dec (c :: r)).2 - 1)) true (behindP here (dec (c :: r)).1)
    else match tokF (pieceF (c :: r)) with
      | .error e => ([], some (here, e))
      | .ok t => ((t, here) :: (cutN f (r.drop ((pieceF (c :: r)).length - 1)) false ⟨here.line, here.col + (pieceF (c :: r)).length⟩).1, (cutN f (r.drop ((pieceF (c :: r)).length - 1)) false ⟨here.line, here.col + (pieceF (c :: r)).length⟩).2)
theorem cutN_eq : ∀ (f : Nat) (l : List UInt8) (rem : Bool) (here : Pl), l.length ≤ f → cutN f l rem here = cutL l rem here
  | 0, l, rem, here, h => by
    have : l = [] := List.eq_nil_of_length_eq_zero (by omega)
    subst this
    rw [cutN, cutL]
  | f + 1, [], rem, here, h => by rw [cutN, cutL]
  | f + 1, c :: r, rem, here, h => by
    have hr : r.length ≤ f := by simpa using h
    have hd : ∀ k, (r.drop k).length ≤ f := fun k => by rw [List.length_drop]; omega
    rw [cutN, cutL, cutN_eq f _ _ _ (hd _), cutN_eq f _ _ _ (hd _), cutN_eq f _ _ _ (hd _), cutN_eq f _ _ _ (hd _)]
    cases tokF (pieceF (c :: r)) <;> rfl


deriving instance DecidableEq for PRes
def parN (n : Nat) (l : List UInt8) : PRes :=
  if 65536 < l.length then .bad firstP 6
  else match (cutN n l false firstP).2 with
  | some (p, f) => .bad p f
  | none => match allF ((cutN n l false firstP).1.map (·.1)) with
    | .ok f _ _ => .ok f
    | .bad er r => .bad (plS.nth ((cutN n l false firstP).1.map (·.2) ++ [plAt l firstP l.length]) (((cutN n l false firstP).1.map (·.1)).length - r.length)) er
theorem parN_eq (n : Nat) (l : List UInt8) (h : l.length ≤ n) : parF l = parN n l := by
  unfold parF parN toksF placesF
  rw [cutN_eq n l false firstP h]
  rfl
theorem RwP.cells {P : Program} {α : Type} {σ : Sh P α} {w : World} {K : Nat → Prop} {A : Option Addr} {n : Nat} {xs : List α} (h : RwP σ w K A n xs) (hn : 0 < n) : ∃ b o, A = some ⟨b, o, none⟩ ∧ K b ∧ w.rangeAt b o (σ.flat xs) := by
  obtain ⟨b, o, e, hb, hc⟩ := h.2 hn
  exact ⟨b, o, e, hb, fun j u hu => hc j u hu⟩
def liveF : Fo := .cons [97, 116] [(5000, true)] true (.cons [99, 117, 116] [(1, false)] false .nil .nil) .nil
theorem live_par : parF [97, 116, 32, 53, 110, 115, 32, 123, 32, 99, 117, 116, 32, 49, 59, 32, 125] = .ok liveF := by
  rw [parN_eq 17 _ (by decide)]
  decide +kernel

set_option maxRecDepth 100000 in
theorem live_any (w : World) (hL : LaidW w) : Calls Tryz.prog 11 #[] w fun e w' => e = .returned (.bool true) ∧ Below w.heap.size w w' := by
  have HC := parse_any ⟨#[97, 116, 32, 53, 110, 115, 32, 123, 32, 99, 117, 116, 32, 49, 59, 32, 125]⟩ w hL (by decide)
  rw [show parF (⟨#[97, 116, 32, 53, 110, 115, 32, 123, 32, 99, 117, 116, 32, 49, 59, 32, 125]⟩ : ByteArray).data.toList = .ok liveF from live_par] at HC
  have HC := hid HC
  clear hL
  go_enter Tryz.func11, Tryz.ntmps11
  go_wp2_with fail
  refine HC.out.mono ?_
  rintro e w1 ⟨b1, A, n, c, rfl, xs, hx, ⟨x, xs', rfl, e1, e2, hns, ⟨ys, hy, y, ys', rfl, _, _, _, _, rfl⟩, rfl⟩⟩
  obtain rfl : n = 1 := hx.1.symm
  obtain ⟨b, o, rfl, hb, hc⟩ := hx.cells (by omega)
  have hn1 : x.nn = 1 := hns.1.symm
  obtain ⟨b2, o2, hA2, hb2, hc2⟩ := hns.cells (by omega)
  have hn2 : x.bn = 1 := hy.1.symm
  obtain ⟨xw, xA, xn, xc, xb, xB, xm, xk⟩ := x
  simp only at e1 e2 hn1 hn2 hA2
  subst e1 e2 hn1 hn2 hA2
  have c0 : w1.cell? ⟨b, o, none⟩ = some (.string ⟨#[97, 116]⟩) := hc 0 _ rfl
  have c1 : w1.cell? ⟨b, o + 1, none⟩ = some (.slice (some ⟨b2, o2, none⟩) 1 xc) := hc 1 _ rfl
  have c2 : w1.cell? ⟨b, o + 2, none⟩ = some (.bool true) := hc 2 _ rfl
  have c3 : w1.cell? ⟨b, o + 3, none⟩ = some (.slice xB 1 xk) := hc 3 _ rfl
  have d0 : w1.cell? ⟨b2, o2, none⟩ = some (.int .i64 5000) := hc2 0 _ rfl
  have d1 : w1.cell? ⟨b2, o2 + 1, none⟩ = some (.bool true) := hc2 1 _ rfl
  have hb3 := hb.2
  have hb4 := hb2.2
  clear hc hc2 hx hns hy hb hb2
  unfold plV
  go_wp2
  go_ret
  exact ⟨rfl, b1.alloc b1.size _⟩
end Go.Proofs.YtkfnkieljcipnaaGreatDoor

/-! QG -/
namespace Go.Proofs.YtkfnkieljcipnaaGreatDoor
open Go

theorem dec_app (c : UInt8) (r m : List UInt8) : dec ((c :: r) ++ 10 :: m) = dec (c :: r) := by
  match r with
  | [] => simp [dec, Lib.decodeN, gb]
  | [a] => simp [dec, Lib.decodeN, gb]
  | [a, b] => simp [dec, Lib.decodeN, gb]
  | a :: b :: d :: r' => simp [dec, Lib.decodeN, gb]
theorem brok_app (c : UInt8) (r m : List UInt8) : brok ((c :: r) ++ 10 :: m) = brok (c :: r) := by
  unfold brok
  rw [dec_app]
  congr 2
  match r with
  | [] => simp [List.isPrefixOf]
  | [a] => simp [List.isPrefixOf]
  | a :: b :: r' => simp [List.isPrefixOf]
theorem takeWhile_app (a m : List UInt8) : (a ++ 10 :: m).takeWhile ldB = a.takeWhile ldB := by
  induction a with
  | nil => rfl
  | cons d a ih =>
    by_cases h : ldB d = true
    · rw [List.cons_append, List.takeWhile_cons_of_pos h, List.takeWhile_cons_of_pos h, ih]
    · rw [List.cons_append, List.takeWhile_cons_of_neg h, List.takeWhile_cons_of_neg h]
theorem piece_app (c : UInt8) (r m : List UInt8) : pieceF ((c :: r) ++ 10 :: m) = pieceF (c :: r) := by
  have h1 := dec_app c r m
  have h2 := dec_le c r
  rw [List.cons_append] at h1 ⊢
  rw [pieceF_cons, pieceF_cons, h1]
  rw [← List.cons_append, List.take_append_of_le_length (by simpa using h2), List.drop_append_of_le_length (by simpa using h2), takeWhile_app]

/-- The tokens, and what is wrong, without places. -/
def tks (X : List (Tk × Pl) × Option (Pl × Nat)) : List Tk × Option Nat := (X.1.map (·.1), X.2.map (·.2))

theorem tks_place : ∀ (n : Nat) (l : List UInt8) (rem : Bool) (p q : Pl), l.length ≤ n → tks (cutL l rem p) = tks (cutL l rem q) := by
  intro n
  induction n with
  | zero =>
    intro l rem p q h
    have : l = [] := List.eq_nil_of_length_eq_zero (by omega)
    subst this
    rw [cutL, cutL]
  | succ n ih =>
    intro l rem p q h
    match l with
    | [] => rw [cutL, cutL]
    | c :: r =>
      have hr : r.length ≤ n := by simpa using h
      have hd : ∀ k, (r.drop k).length ≤ n := fun k => by rw [List.length_drop]; omega
      rw [cutL, cutL]
      split
      · rfl
      split
      · exact ih _ _ _ _ (hd _)
      split
      · exact ih _ _ _ _ (hd _)
      split
      · exact ih _ _ _ _ (hd _)
      cases tokF (pieceF (c :: r)) with
      | error e => rfl
      | ok t =>
        have := ih (r.drop ((pieceF (c :: r)).length - 1)) false ⟨p.line, p.col + (pieceF (c :: r)).length⟩ ⟨q.line, q.col + (pieceF (c :: r)).length⟩ (hd _)
        simp only [tks, Prod.mk.injEq] at this ⊢
        rw [List.map_cons, List.map_cons, this.1, this.2]
        exact ⟨rfl, rfl⟩
theorem tks_free (l : List UInt8) (rem : Bool) (p q : Pl) : tks (cutL l rem p) = tks (cutL l rem q) := tks_place l.length l rem p q (Nat.le_refl _)

/-- A line's end behind a text, and another text. -/
def CutJ (m : List UInt8) (X Y : List (Tk × Pl) × Option (Pl × Nat)) : Prop :=
  (∀ e, X.2 = some e → Y = X) ∧ (X.2 = none → ∃ q, Y = (X.1 ++ (cutL m false q).1, (cutL m false q).2))
theorem cutj_cons {m : List UInt8} {X Y : List (Tk × Pl) × Option (Pl × Nat)} (h : CutJ m X Y) (t : Tk × Pl) : CutJ m (t :: X.1, X.2) (t :: Y.1, Y.2) := by
  refine ⟨fun e he => ?_, fun he => ?_⟩
  · rw [h.1 e he]
  · obtain ⟨q, hq⟩ := h.2 he
    exact ⟨q, by rw [hq]; rfl⟩
theorem cut_join (m : List UInt8) : ∀ (n : Nat) (l : List UInt8) (rem : Bool) (p : Pl), l.length ≤ n → CutJ m (cutL l rem p) (cutL (l ++ 10 :: m) rem p) := by
  have hnil : ∀ rem p, CutJ m (cutL [] rem p) (cutL ([] ++ 10 :: m) rem p) := by
    intro rem p
    have hb : brok (10 :: m) = false := by unfold brok; rw [dec_ascii 10 m (by decide)]; rfl
    have e2 : cutL [] rem p = ([], none) := by rw [cutL]
    rw [e2]
    refine ⟨fun e he => (by cases he), fun _ => ⟨behindP p 10, ?_⟩⟩
    rw [List.nil_append, cutL, if_neg (by rw [hb]; decide), dec_ascii 10 m (by decide), if_pos (by decide)]
    rfl
  intro n
  induction n with
  | zero =>
    intro l rem p h
    have : l = [] := List.eq_nil_of_length_eq_zero (by omega)
    subst this
    exact hnil rem p
  | succ n ih =>
    intro l rem p h
    match l with
    | [] => exact hnil rem p
    | c :: r =>
      have hr : r.length ≤ n := by simpa using h
      have hd : ∀ k, (r.drop k).length ≤ n := fun k => by rw [List.length_drop]; omega
      have e1 := dec_app c r m
      have e2 := brok_app c r m
      have e3 := piece_app c r m
      have h2 := dec_le c r
      have h3 := (piece_len (c :: r)).1
      have h1 := dec_pos (c :: r)
      have h4 := (piece_len (c :: r)).2 (by simp)
      have ed : ∀ k, k ≤ r.length → (r ++ 10 :: m).drop k = r.drop k ++ 10 :: m := fun k hk => List.drop_append_of_le_length hk
      have bad : ∀ e : Pl × Nat, CutJ m ([], some e) ([], some e) := fun e => ⟨fun _ _ => rfl, fun h => (by cases h)⟩
      rw [List.cons_append] at e1 e2 e3 ⊢
      rw [cutL, cutL, e1, e2, e3, ed _ (by omega), ed _ (by simp at h3; omega)]
      split
      · exact bad _
      split
      · exact ih _ _ _ (hd _)
      split
      · exact ih _ _ _ (hd _)
      split
      · exact ih _ _ _ (hd _)
      cases tokF (pieceF (c :: r)) with
      | error e => exact bad _
      | ok t => exact cutj_cons (ih (r.drop ((pieceF (c :: r)).length - 1)) false ⟨p.line, p.col + (pieceF (c :: r)).length⟩ (hd _)) _

/-! ### Statements of tokens, without a bound on the steps -/
section
variable {L L' : Nat → Nat → List Tk → Res} {k : Nat}
theorem blk_congr (h : ∀ d m ts, ts.length ≤ k → L d m ts = L' d m ts) (d m : Nat) (ts : List Tk) (hk : ts.length ≤ k) : blkF L d m ts = blkF L' d m ts := by
  unfold blkF; rw [h d m ts hk]
theorem end_congr (h : ∀ d m ts, ts.length ≤ k → L d m ts = L' d m ts) (wd : List UInt8) (ns : List (Int × Bool)) (d m : Nat) (ts : List Tk) (hk : ts.length ≤ k + 1) : endF L wd ns d m ts = endF L' wd ns d m ts := by
  unfold endF
  match ts with
  | [] => rfl
  | s :: r2 => simp only; rw [blk_congr h (d + 1) m r2 (by simpa using hk)]
theorem stm_congr (h : ∀ d m ts, ts.length ≤ k → L d m ts = L' d m ts) (wd : List UInt8) (d m : Nat) (ts : List Tk) (hk : ts.length ≤ k + 1) : stmF L wd d m ts = stmF L' wd d m ts := by
  unfold stmF
  have hr : (restF ts).length ≤ k + 1 := Nat.le_trans (List.dropWhile_suffix isN).length_le hk
  rw [end_congr h wd _ d m _ hr]
end
theorem lst_fuel : ∀ (n k d m : Nat) (ts : List Tk), ts.length ≤ n → ts.length ≤ k → lstF n d m ts = lstF k d m ts := by
  intro n
  induction n using Nat.strongRecOn with
  | ind n ih =>
    intro k d m ts hn hk
    match ts with
    | [] => rw [lst_end, lst_end]
    | t :: r =>
      obtain ⟨n, rfl⟩ : ∃ j, n = j + 1 := ⟨n - 1, by simp at hn; omega⟩
      obtain ⟨k, rfl⟩ : ∃ j, k = j + 1 := ⟨k - 1, by simp at hk; omega⟩
      by_cases h1 : t.kind = 1
      · rw [lst_word n d m t r h1, lst_word k d m t r h1]
        have hr : r.length ≤ n := by simpa using hn
        have hr2 : r.length ≤ k := by simpa using hk
        have e : stmX (lstF n) d m t r = stmX (lstF k) d m t r := by
          unfold stmX
          rw [stm_congr (k := r.length) (fun d m ts hts => ih n (by omega) k d m ts (by omega) (by omega)) t.s d (m + 1) r (by omega)]
        rw [e]
        cases hx : stmX (lstF k) d m t r with
        | bad e r2 => rfl
        | ok x m2 r2 =>
          have := (stmX_one hx).2.2
          simp only
          rw [ih n (by omega) k d m2 r2 (by omega) (by omega)]
      · rw [lst_none _ _ _ _ _ h1 hn, lst_none _ _ _ _ _ h1 hk]
def lst (d m : Nat) (ts : List Tk) : Res := lstF ts.length d m ts
theorem lst_nil (d m : Nat) : lst d m [] = .ok .nil m [] := rfl
theorem lst_cons_no (d m : Nat) (t : Tk) (r : List Tk) (h : ¬ t.kind = 1) : lst d m (t :: r) = .ok .nil m (t :: r) := lst_none _ _ _ _ _ h (Nat.le_refl _)
theorem lst_cons (d m : Nat) (t : Tk) (r : List Tk) (h : t.kind = 1) : lst d m (t :: r) = match stmX lst d m t r with
    | .bad e r2 => .bad e r2
    | .ok x m2 r2 => preR x (lst d m2 r2) := by
  unfold lst
  rw [List.length_cons, lst_word r.length d m t r h]
  have e : stmX (lstF r.length) d m t r = stmX (fun d m ts => lstF ts.length d m ts) d m t r := by
    unfold stmX
    rw [stm_congr (k := r.length) (fun d m ts hts => lst_fuel r.length ts.length d m ts hts (Nat.le_refl _)) t.s d (m + 1) r (by omega)]
  rw [← e]
  cases hx : stmX (lstF r.length) d m t r with
  | bad e r2 => rfl
  | ok x m2 r2 =>
    have := (stmX_one hx).2.2
    simp only
    rw [lst_fuel r.length r2.length d m2 r2 this (Nat.le_refl _)]

/-! ### With more tokens behind -/
/-- What is told of a beginning holds of the whole, but where it ends too soon. -/
def Ext (us : List Tk) (X Y : Res) : Prop := match X with
  | .bad e r => e ≠ 3 → r ≠ [] ∧ Y = .bad e (r ++ us)
  | .ok f m r => r ≠ [] → Y = .ok f m (r ++ us)
section
variable {L : Nat → Nat → List Tk → Res} {us : List Tk} {k : Nat}
theorem blk_ext (h : ∀ d m ts, ts.length ≤ k → Ext us (L d m ts) (L d m (ts ++ us))) (d m : Nat) (ts : List Tk) (hk : ts.length ≤ k) : match blkF L d m ts with
    | .bad e r => e ≠ 3 → r ≠ [] ∧ blkF L d m (ts ++ us) = .bad e (r ++ us)
    | .ok f m2 r => blkF L d m (ts ++ us) = .ok f m2 (r ++ us) := by
  have h1 := h d m ts hk
  unfold blkF
  generalize L d m ts = X at *
  generalize L d m (ts ++ us) = Y at *
  match X with
  | .bad e r =>
    intro he
    obtain ⟨h2, rfl⟩ := h1 he
    exact ⟨h2, rfl⟩
  | .ok f m2 [] => exact fun h => absurd rfl h
  | .ok f m2 (c :: r) =>
    obtain rfl := h1 (by simp)
    by_cases hc : c.kind = 3 ∧ c.s = [125]
    · simp only [hc, and_self, if_true, List.cons_append]
    · simp only [hc, if_false, List.cons_append]
      exact fun _ => ⟨by simp, trivial⟩
theorem end_ext (h : ∀ d m ts, ts.length ≤ k → Ext us (L d m ts) (L d m (ts ++ us))) (wd : List UInt8) (ns : List (Int × Bool)) (d m : Nat) (ts : List Tk) (hk : ts.length ≤ k + 1) : match endF L wd ns d m ts with
    | .bad e r => e ≠ 3 → r ≠ [] ∧ endF L wd ns d m (ts ++ us) = .bad e (r ++ us)
    | .ok f m2 r => endF L wd ns d m (ts ++ us) = .ok f m2 (r ++ us) := by
  match ts with
  | [] => exact fun h => absurd rfl h
  | s :: r2 =>
    rw [List.cons_append]
    unfold endF
    simp only
    by_cases h1 : s.kind = 1
    · simp only [h1, if_true]; exact fun _ => ⟨by simp, rfl⟩
    simp only [h1, if_false]
    by_cases h2 : s.s = [59]
    · simp only [h2, if_true]
    simp only [h2, if_false]
    by_cases h3 : s.s = [123]
    · simp only [h3, if_true]
      by_cases h4 : 6 ≤ d
      · simp only [h4, if_true]; exact fun _ => ⟨by simp, rfl⟩
      simp only [h4, if_false]
      have hb := blk_ext h (d + 1) m r2 (by simpa using hk)
      generalize blkF L (d + 1) m r2 = X at *
      match X with
      | .bad e r =>
        intro he
        obtain ⟨h5, h6⟩ := hb he
        rw [h6]; exact ⟨h5, rfl⟩
      | .ok f m2 r => simp only at hb ⊢; rw [hb]
    · simp only [h3, if_false]; exact fun _ => ⟨by simp, rfl⟩
theorem takeWhile_ext (ts us : List Tk) (h : restF ts ≠ []) : (ts ++ us).takeWhile isN = ts.takeWhile isN ∧ restF (ts ++ us) = restF ts ++ us := by
  unfold restF at *
  induction ts with
  | nil => exact absurd rfl h
  | cons t ts ih =>
    by_cases ht : isN t = true
    · rw [List.dropWhile_cons_of_pos ht] at h
      rw [List.cons_append, List.takeWhile_cons_of_pos ht, List.takeWhile_cons_of_pos ht, List.dropWhile_cons_of_pos ht, List.dropWhile_cons_of_pos ht, (ih h).1, (ih h).2]
      exact ⟨rfl, rfl⟩
    · rw [List.cons_append, List.takeWhile_cons_of_neg ht, List.takeWhile_cons_of_neg ht, List.dropWhile_cons_of_neg ht, List.dropWhile_cons_of_neg ht]
      exact ⟨rfl, rfl⟩
theorem takeWhile_long (ts us : List Tk) : (ts.takeWhile isN).length ≤ ((ts ++ us).takeWhile isN).length := by
  induction ts with
  | nil => simp
  | cons t ts ih =>
    by_cases ht : isN t = true
    · rw [List.cons_append, List.takeWhile_cons_of_pos ht, List.takeWhile_cons_of_pos ht, List.length_cons, List.length_cons]; omega
    · rw [List.cons_append, List.takeWhile_cons_of_neg ht]; simp
theorem stm_ext (h : ∀ d m ts, ts.length ≤ k → Ext us (L d m ts) (L d m (ts ++ us))) (wd : List UInt8) (d m : Nat) (ts : List Tk) (hk : ts.length ≤ k + 1) : match stmF L wd d m ts with
    | .bad e r => e ≠ 3 → r ≠ [] ∧ stmF L wd d m (ts ++ us) = .bad e (r ++ us)
    | .ok f m2 r => stmF L wd d m (ts ++ us) = .ok f m2 (r ++ us) := by
  unfold stmF
  by_cases hf : fewN ts = true
  · rw [if_pos hf]
    by_cases hr : restF ts = []
    · rw [hr]; exact fun h => absurd rfl h
    · obtain ⟨e1, e2⟩ := takeWhile_ext ts us hr
      have hf2 : fewN (ts ++ us) = true := by unfold fewN at *; rw [e1]; exact hf
      have hn : numsF (ts ++ us) = numsF ts := by unfold numsF; rw [e1]
      rw [if_pos hf2, hn, e2]
      have hr3 : (restF ts).length ≤ k + 1 := Nat.le_trans (List.dropWhile_suffix isN).length_le hk
      exact end_ext h wd _ d m _ hr3
  · rw [if_neg hf]
    have hl : 8 < (ts.takeWhile isN).length := by unfold fewN at hf; simpa using hf
    have hl2 := takeWhile_long ts us
    have hf2 : ¬ fewN (ts ++ us) = true := by unfold fewN; simp; omega
    have h8 : 8 < ts.length := Nat.lt_of_lt_of_le hl (List.takeWhile_prefix isN).length_le
    rw [if_neg hf2]
    intro _
    refine ⟨fun h => ?_, by rw [List.drop_append_of_le_length (by omega)]⟩
    have := congrArg List.length h
    rw [List.length_drop] at this
    simp at this; omega
end
theorem lst_ext (us : List Tk) : ∀ (n d m : Nat) (ts : List Tk), ts.length ≤ n → Ext us (lst d m ts) (lst d m (ts ++ us)) := by
  intro n
  induction n with
  | zero =>
    intro d m ts h
    have : ts = [] := List.eq_nil_of_length_eq_zero (by omega)
    subst this
    exact fun h => absurd rfl h
  | succ n ih =>
    intro d m ts h
    match ts with
    | [] => exact fun h => absurd rfl h
    | t :: r =>
      have hr : r.length ≤ n := by simpa using h
      by_cases h1 : t.kind = 1
      · rw [List.cons_append, lst_cons d m t r h1, lst_cons d m t (r ++ us) h1]
        by_cases hm : m = 2000
        · unfold stmX; rw [if_pos hm, if_pos hm]
          exact fun _ => ⟨by simp, rfl⟩
        · have hs := stm_ext (L := lst) (us := us) (k := r.length) (fun d m ts hts => ih d m ts (by omega)) t.s d (m + 1) r (by omega)
          have e1 : stmX lst d m t r = stmF lst t.s d (m + 1) r := by unfold stmX; rw [if_neg hm]
          have e2 : stmX lst d m t (r ++ us) = stmF lst t.s d (m + 1) (r ++ us) := by unfold stmX; rw [if_neg hm]
          rw [e1, e2]
          have hsh := stm_short (L := lst) (fun d m ts => lst_short _ d m ts) t.s d (m + 1) r
          generalize stmF lst t.s d (m + 1) r = X at *
          match X with
          | .bad e r2 =>
            intro he
            obtain ⟨h2, h3⟩ := hs he
            rw [h3]; exact ⟨h2, rfl⟩
          | .ok x m2 r2 =>
            simp only at hs ⊢
            rw [hs]
            have hl : r2.length ≤ n := by obtain ⟨p, hp⟩ := hsh; have := congrArg List.length hp; simp at this; omega
            have h5 := ih d m2 r2 hl
            simp only
            generalize lst d m2 r2 = Z at *
            match Z with
            | .bad e r3 =>
              intro he
              obtain ⟨h6, h7⟩ := h5 he
              rw [h7]; exact ⟨h6, rfl⟩
            | .ok f m3 r3 =>
              intro hne
              rw [h5 hne]; rfl
      · rw [List.cons_append, lst_cons_no d m t r h1, lst_cons_no d m t (r ++ us) h1]
        exact fun _ => rfl
theorem lst_app (us : List Tk) : ∀ (n d m : Nat) (ts : List Tk) (f : Fo) (m2 : Nat), ts.length ≤ n → lst d m ts = .ok f m2 [] → lst d m (ts ++ us) = preR f (lst d m2 us) := by
  intro n
  induction n with
  | zero =>
    intro d m ts f m2 h he
    have : ts = [] := List.eq_nil_of_length_eq_zero (by omega)
    subst this
    rw [lst_nil] at he
    cases he
    rw [preR_nil]; rfl
  | succ n ih =>
    intro d m ts f m2 h he
    match ts with
    | [] => rw [lst_nil] at he; cases he; rw [preR_nil]; rfl
    | t :: r =>
      have hr : r.length ≤ n := by simpa using h
      by_cases h1 : t.kind = 1
      · rw [lst_cons d m t r h1] at he
        rw [List.cons_append, lst_cons d m t (r ++ us) h1]
        by_cases hm : m = 2000
        · unfold stmX at he; rw [if_pos hm] at he; cases he
        · have hs := stm_ext (L := lst) (us := us) (k := r.length) (fun d m ts hts => lst_ext us _ d m ts (Nat.le_refl _)) t.s d (m + 1) r (by omega)
          have e1 : stmX lst d m t r = stmF lst t.s d (m + 1) r := by unfold stmX; rw [if_neg hm]
          have e2 : stmX lst d m t (r ++ us) = stmF lst t.s d (m + 1) (r ++ us) := by unfold stmX; rw [if_neg hm]
          rw [e1] at he
          rw [e2]
          have hsh := stm_short (L := lst) (fun d m ts => lst_short _ d m ts) t.s d (m + 1) r
          generalize stmF lst t.s d (m + 1) r = X at *
          match X with
          | .bad e r2 => cases he
          | .ok x m3 r2 =>
            simp only at hs he ⊢
            rw [hs]
            have hl : r2.length ≤ n := by obtain ⟨p, hp⟩ := hsh; have := congrArg List.length hp; simp at this; omega
            simp only
            cases hz : lst d m3 r2 with
            | bad e r3 => rw [hz] at he; cases he
            | ok g m4 r3 =>
              rw [hz] at he
              cases he
              rw [ih d m3 r2 _ _ hl hz, preR_app]
      · rw [lst_cons_no d m t r h1] at he; cases he

/-! ### However many there are ahead -/
section
variable {L : Nat → Nat → List Tk → Res}
def Sh3 (L : Nat → Nat → List Tk → Res) (k : Nat) : Prop := ∀ (d a : Nat) (ts : List Tk) (f : Fo) (b : Nat) (r : List Tk), ts.length ≤ k → L d a ts = .ok f b r → ∀ c, c + f.count ≤ 2000 → L d c ts = .ok f (c + f.count) r
theorem blk_shift {k : Nat} (h : Sh3 L k) {d a : Nat} {ts : List Tk} {f : Fo} {b : Nat} {r : List Tk} (hk : ts.length ≤ k) (he : blkF L d a ts = .ok f b r) (c : Nat) (hc : c + f.count ≤ 2000) : blkF L d c ts = .ok f (c + f.count) r := by
  unfold blkF at he ⊢
  cases hx : L d a ts with
  | bad e r2 => rw [hx] at he; cases he
  | ok g m r2 =>
    rw [hx] at he
    match r2 with
    | [] => cases he
    | s :: r3 =>
      simp only at he
      split at he
      · rename_i hs
        cases he
        rw [h d a ts _ _ _ hk hx c hc]
        simp only
        rw [if_pos hs]
      · cases he
theorem end_shift {k : Nat} (h : Sh3 L k) {wd : List UInt8} {ns : List (Int × Bool)} {d a : Nat} {ts : List Tk} {f : Fo} {b : Nat} {r : List Tk} (hk : ts.length ≤ k + 1) (he : endF L wd ns d (a + 1) ts = .ok f b r) (c : Nat) (hc : c + f.count ≤ 2000) : endF L wd ns d (c + 1) ts = .ok f (c + f.count) r := by
  unfold endF at he ⊢
  match ts with
  | [] => cases he
  | s :: r2 =>
    simp only at he ⊢
    split at he
    · cases he
    rename_i h1
    rw [if_neg h1]
    split at he
    · rename_i h2
      rw [if_pos h2]
      cases he
      simp [Fo.count]
    rename_i h2
    rw [if_neg h2]
    split at he
    · rename_i h3
      rw [if_pos h3]
      split at he
      · cases he
      rename_i h4
      rw [if_neg h4]
      cases hx : blkF L (d + 1) (a + 1) r2 with
      | bad e r3 => rw [hx] at he; cases he
      | ok g m r3 =>
        rw [hx] at he
        cases he
        have := blk_shift h (by simpa using hk) hx (c + 1) (by simp only [Fo.count] at hc; omega)
        rw [this]
        simp only [Fo.count]
        congr 1; omega
    · cases he
theorem stm_shift {k : Nat} (h : Sh3 L k) {wd : List UInt8} {d a : Nat} {ts : List Tk} {f : Fo} {b : Nat} {r : List Tk} (hk : ts.length ≤ k + 1) (he : stmF L wd d (a + 1) ts = .ok f b r) (c : Nat) (hc : c + f.count ≤ 2000) : stmF L wd d (c + 1) ts = .ok f (c + f.count) r := by
  unfold stmF at he ⊢
  split at he
  · rename_i hf
    have hr : (restF ts).length ≤ k + 1 := Nat.le_trans (List.dropWhile_suffix isN).length_le hk
    rw [if_pos hf]
    exact end_shift h hr he c hc
  · cases he
end
theorem lst_shift : ∀ n, Sh3 lst n := by
  intro n
  induction n with
  | zero =>
    intro d a ts f b r h he c hc
    have : ts = [] := List.eq_nil_of_length_eq_zero (by omega)
    subst this
    rw [lst_nil] at he ⊢
    cases he
    rfl
  | succ n ih =>
    intro d a ts f b r h he c hc
    match ts with
    | [] => rw [lst_nil] at he ⊢; cases he; rfl
    | t :: q =>
      have hq : q.length ≤ n := by simpa using h
      by_cases h1 : t.kind = 1
      · rw [lst_cons d a t q h1] at he
        rw [lst_cons d c t q h1]
        by_cases hm : a = 2000
        · unfold stmX at he; rw [if_pos hm] at he; cases he
        · have e1 : stmX lst d a t q = stmF lst t.s d (a + 1) q := by unfold stmX; rw [if_neg hm]
          rw [e1] at he
          cases hx : stmF lst t.s d (a + 1) q with
          | bad e r2 => rw [hx] at he; cases he
          | ok x m2 r2 =>
            rw [hx] at he
            simp only at he
            have hone := stm_one (L := lst) (fun d m ts => lst_many _ d m ts) hx
            have hsh := stm_short (L := lst) (fun d m ts => lst_short _ d m ts) t.s d (a + 1) q
            rw [hx] at hsh
            have hl : r2.length ≤ n := by obtain ⟨p, hp⟩ := hsh; have := congrArg List.length hp; simp at this; omega
            cases hz : lst d m2 r2 with
            | bad e r3 => rw [hz] at he; cases he
            | ok g m3 r3 =>
              rw [hz] at he
              cases he
              rw [Fo.count_app] at hc
              have hx1 : 1 ≤ x.count := by have := x.len_le; omega
              have hcm : ¬ c = 2000 := by omega
              have e2 : stmX lst d c t q = stmF lst t.s d (c + 1) q := by unfold stmX; rw [if_neg hcm]
              rw [e2, stm_shift (k := n) ih (by omega) hx c (by omega)]
              simp only
              rw [ih d m2 r2 _ _ _ hl hz (c + x.count) (by omega), Fo.count_app]
              simp only [preR]
              congr 1; omega
      · rw [lst_cons_no d a t q h1] at he
        rw [lst_cons_no d c t q h1]
        cases he
        rfl

/-! ### All of a text's tokens, and more behind -/
theorem allF_lst (ts : List Tk) : allF ts = match lst 1 0 ts with
    | .bad e r => .bad e r
    | .ok f m r => match r with
      | [] => .ok f m []
      | c :: r2 => .bad 4 (c :: r2) := rfl
theorem all_bad {ts us : List Tk} {e : Nat} {r : List Tk} (h : allF ts = .bad e r) (he : e ≠ 3) : r ≠ [] ∧ allF (ts ++ us) = .bad e (r ++ us) := by
  rw [allF_lst] at h ⊢
  have hx := lst_ext us _ 1 0 ts (Nat.le_refl _)
  generalize lst 1 0 ts = X at *
  generalize lst 1 0 (ts ++ us) = Y at *
  match X with
  | .bad e2 r2 =>
    cases h
    obtain ⟨h1, rfl⟩ := hx he
    exact ⟨h1, rfl⟩
  | .ok f m [] => cases h
  | .ok f m (c :: r2) =>
    cases h
    obtain rfl := hx (by simp)
    exact ⟨by simp, rfl⟩
theorem all_ok {ts : List Tk} {f : Fo} {m : Nat} {r : List Tk} (h : allF ts = .ok f m r) : lst 1 0 ts = .ok f m [] ∧ m = f.count ∧ m ≤ 2000 := by
  rw [allF_lst] at h
  have hx := lst_many ts.length 1 0 ts
  have hx : Many 0 (lst 1 0 ts) := hx
  generalize lst 1 0 ts = X at *
  match X with
  | .bad e2 r2 => cases h
  | .ok f m [] => cases h; exact ⟨rfl, by have := hx.1; omega, hx.2 (by omega)⟩
  | .ok f m (c :: r2) => cases h
theorem all_join {ts us : List Tk} {f g : Fo} {m k : Nat} {r q : List Tk} (h : allF ts = .ok f m r) (h2 : allF us = .ok g k q) (hc : f.count + g.count ≤ 2000) : allF (ts ++ us) = .ok (f.app g) (f.count + g.count) [] := by
  obtain ⟨h3, h4, _⟩ := all_ok h
  obtain ⟨h5, h6, _⟩ := all_ok h2
  have h7 := lst_shift us.length 1 0 us g k [] (Nat.le_refl _) h5 m (by omega)
  rw [allF_lst, lst_app us _ 1 0 ts f m (Nat.le_refl _) h3, h7]
  simp only [preR]
  rw [h4]
end Go.Proofs.YtkfnkieljcipnaaGreatDoor

/-! QE -/
namespace Go.Proofs.YtkfnkieljcipnaaGreatDoor
open Go Go.RowKit Go.Joins

theorem foP : Tryz.prog.underlying 26 = some (.struct (Tryz.prog.fieldsOf 26)) := by kernel_rfl
theorem siP : Tryz.prog.stoodInHeld 26 = false := by kernel_rfl
theorem egP : Tryz.prog.eqGuardType Tryz.prog.depth 26 = false := by kernel_rfl
theorem eqInP (x y : Pl) (w : World) : (Op.equalIn 10000 26 (plV x) (plV y)).run Tryz.prog w = .ok (decide (x = y)) w := by
  obtain ⟨x1, x2⟩ := x
  obtain ⟨y1, y2⟩ := y
  unfold plV
  rw [run_equalIn_agg w 9999 26 _ _ foP siP]
  simp [go_sem]
  by_cases h1 : x1 = y1 <;> by_cases h2 : x2 = y2 <;> simp [h1, h2] <;> omega
theorem eqP (x y : Pl) (w : World) : (binOp .eql 26 (plV x) (plV y)).run Tryz.prog w = .ok (.bool (decide (x = y))) w := by
  have := eqInP x y w
  unfold plV at this ⊢
  rw [run_eql_struct, this]; rfl
theorem neP (x y : Pl) (w : World) : (binOp .neq 26 (plV x) (plV y)).run Tryz.prog w = .ok (.bool (!decide (x = y))) w := by
  have := eqInP x y w
  unfold plV at this ⊢
  rw [run_neq_struct, this]; rfl
theorem guP (op : BinOp) (a b : Operand) (x y : Pl) (w : World) : (eqGuard op 26 a b (plV x) (plV y)).run Tryz.prog w = .ok () w := run_eqGuard_agg w op 26 a b _ _ egP

def repD (x : List UInt8) : Nat → List UInt8
  | 0 => []
  | n + 1 => repD x n ++ x
def txtD (n : Nat) : List UInt8 := (repD [97, 123] n ++ [98, 59]) ++ repD [125] n
def txtN (k : Nat) : List UInt8 := ([119] ++ repD [32, 49] k) ++ [59]
def firstN : Fo → Nat
  | .nil => 0
  | .cons _ ns _ _ _ => ns.length
def chkD (n : Nat) : Bool := match parN 40 (txtD n) with
  | .ok f => decide (n ≤ 5) && (f.depth == n + 1 && f.count == n + 1)
  | .bad p e => decide (6 ≤ n) && (p == ⟨1, 12⟩ && e == 6)
def chkN (k : Nat) : Bool := match parN 40 (txtN k) with
  | .ok f => decide (k ≤ 8) && (f.len == 1 && firstN f == k)
  | .bad p e => decide (9 ≤ k) && (p == ⟨1, 19⟩ && e == 7)
theorem chkD_all : ∀ n, n < 9 → chkD n = true ∧ (txtD n).length ≤ 40 := by decide +kernel
theorem chkN_all : ∀ k, k < 12 → chkN k = true ∧ (txtN k).length ≤ 40 := by decide +kernel
theorem deep_ok {n : Nat} (hn : n < 9) (h : n ≤ 5) : ∃ f, parF (txtD n) = .ok f ∧ f.depth = n + 1 ∧ f.count = n + 1 := by
  obtain ⟨h1, h2⟩ := chkD_all n hn
  rw [parN_eq 40 _ h2]
  unfold chkD at h1
  generalize parN 40 (txtD n) = x at *
  match x with
  | .ok f => simp at h1; exact ⟨f, rfl, h1.2.1, h1.2.2⟩
  | .bad p e => simp at h1; omega
theorem deep_no {n : Nat} (hn : n < 9) (h : ¬ n ≤ 5) : parF (txtD n) = .bad ⟨1, 12⟩ 6 := by
  obtain ⟨h1, h2⟩ := chkD_all n hn
  rw [parN_eq 40 _ h2]
  unfold chkD at h1
  generalize parN 40 (txtD n) = x at *
  match x with
  | .ok f => simp at h1; omega
  | .bad p e => simp at h1; rw [h1.2.1, h1.2.2]
theorem nums_ok {k : Nat} (hk : k < 12) (h : k ≤ 8) : ∃ f, parF (txtN k) = .ok f ∧ f.len = 1 ∧ firstN f = k := by
  obtain ⟨h1, h2⟩ := chkN_all k hk
  rw [parN_eq 40 _ h2]
  unfold chkN at h1
  generalize parN 40 (txtN k) = x at *
  match x with
  | .ok f => simp at h1; exact ⟨f, rfl, h1.2.1, h1.2.2⟩
  | .bad p e => simp at h1; omega
theorem nums_no {k : Nat} (hk : k < 12) (h : ¬ k ≤ 8) : parF (txtN k) = .bad ⟨1, 19⟩ 7 := by
  obtain ⟨h1, h2⟩ := chkN_all k hk
  rw [parN_eq 40 _ h2]
  unfold chkN at h1
  generalize parN 40 (txtN k) = x at *
  match x with
  | .ok f => simp at h1; omega
  | .bad p e => simp at h1; rw [h1.2.1, h1.2.2]
end Go.Proofs.YtkfnkieljcipnaaGreatDoor

/-! QH -/
namespace Go.Proofs.YtkfnkieljcipnaaGreatDoor
open Go Go.RowKit Go.Joins

theorem cut_any_place {l : List UInt8} (h : (cutL l false firstP).2 = none) (q : Pl) : (cutL l false q).2 = none ∧ (cutL l false q).1.map (·.1) = toksF l := by
  have h1 := tks_free l false q firstP
  simp only [tks, Prod.mk.injEq] at h1
  refine ⟨?_, h1.1⟩
  have h2 := h1.2
  rw [h] at h2
  simpa using h2
theorem nth_left {a b : List Pl} {i : Nat} (h : i < a.length) : plS.nth (a ++ b) i = plS.nth a i := by
  unfold Sh.nth
  rw [List.getD_eq_getElem?_getD, List.getD_eq_getElem?_getD, List.getElem?_append_left h]
theorem par_bad {l m : List UInt8} {p : Pl} {e : Nat} (hl : l.length ≤ 20000) (hm : m.length ≤ 20000) (h : parF l = .bad p e) (he : e ≠ 3) (hc : (cutL m false firstP).2 = none) : parF (l ++ 10 :: m) = .bad p e := by
  have hj := cut_join m l.length l false firstP (Nat.le_refl _)
  have hlen : ¬ 65536 < (l ++ 10 :: m).length := by simp; omega
  unfold parF at h ⊢
  rw [if_neg (by omega)] at h
  rw [if_neg hlen]
  cases hx : (cutL l false firstP).2 with
  | some pf =>
    rw [hj.1 _ hx, hx]
    rw [hx] at h
    exact h
  | none =>
    obtain ⟨q, hq⟩ := hj.2 hx
    obtain ⟨h1, h2⟩ := cut_any_place hc q
    rw [hx] at h
    have ht : toksF (l ++ 10 :: m) = toksF l ++ toksF m := by unfold toksF; rw [hq, List.map_append, h2]; rfl
    have hp : placesF (l ++ 10 :: m) = placesF l ++ (cutL m false q).1.map (·.2) := by unfold placesF; rw [hq, List.map_append]
    rw [hq, h1]
    simp only at h ⊢
    cases ha : allF (toksF l) with
    | ok f m2 r => rw [ha] at h; cases h
    | bad er r =>
      rw [ha] at h
      simp only at h
      injection h with hpl her
      subst her
      obtain ⟨h3, h4⟩ := all_bad (us := toksF m) ha he
      have hsh := allF_short (toksF l)
      rw [ha] at hsh
      obtain ⟨pp, hpp⟩ := hsh
      have hr : 0 < r.length := by cases r with | nil => exact absurd rfl h3 | cons _ _ => simp
      have hll := congrArg List.length hpp
      rw [List.length_append] at hll
      have hpl2 : (placesF l).length = (toksF l).length := by unfold placesF toksF; rw [List.length_map, List.length_map]
      rw [ht, h4, hp, ← hpl]
      simp only
      congr 1
      have e1 : (toksF l ++ toksF m).length - (r ++ toksF m).length = (toksF l).length - r.length := by simp only [List.length_append]; omega
      rw [e1, List.append_assoc, nth_left (by omega), nth_left (by omega)]
theorem par_ok {l m : List UInt8} {f g : Fo} (hl : l.length ≤ 20000) (hm : m.length ≤ 20000) (h : parF l = .ok f) (h2 : parF m = .ok g) (hc : f.count + g.count ≤ 2000) : parF (l ++ 10 :: m) = .ok (f.app g) := by
  have hj := cut_join m l.length l false firstP (Nat.le_refl _)
  have hlen : ¬ 65536 < (l ++ 10 :: m).length := by simp; omega
  unfold parF at h h2 ⊢
  rw [if_neg (by omega)] at h h2
  rw [if_neg hlen]
  cases hx : (cutL l false firstP).2 with
  | some pf => rw [hx] at h; cases h
  | none =>
    cases hy : (cutL m false firstP).2 with
    | some pf => rw [hy] at h2; cases h2
    | none =>
      obtain ⟨q, hq⟩ := hj.2 hx
      obtain ⟨h3, h4⟩ := cut_any_place hy q
      rw [hx] at h
      rw [hy] at h2
      have ht : toksF (l ++ 10 :: m) = toksF l ++ toksF m := by unfold toksF; rw [hq, List.map_append, h4]; rfl
      rw [hq, h3, ht]
      simp only at h h2 ⊢
      cases ha : allF (toksF l) with
      | bad er r => rw [ha] at h; cases h
      | ok f2 m2 r =>
        cases hb : allF (toksF m) with
        | bad er r => rw [hb] at h2; cases h2
        | ok g2 k2 r2 =>
          rw [ha] at h
          rw [hb] at h2
          cases h
          cases h2
          rw [all_join ha hb hc]
theorem par_count {l : List UInt8} {f : Fo} (h : parF l = .ok f) : f.count ≤ 2000 := by
  unfold parF at h
  split at h
  · cases h
  split at h
  · cases h
  cases ha : allF (toksF l) with
  | bad er r => rw [ha] at h; cases h
  | ok f2 m2 r =>
    rw [ha] at h
    cases h
    obtain ⟨_, h1, h2⟩ := all_ok ha
    omega

/-! ### The numbers of statements that are parsed -/
def OkR : Res → Prop
  | .ok f _ _ => f.okN
  | .bad _ _ => True
theorem okN_app {f g : Fo} (h : f.okN) (h2 : g.okN) : (f.app g).okN := by
  induction f with
  | nil => exact h2
  | cons w ns b y n _ ih => exact ⟨h.1, h.2.1, ih h.2.2⟩
theorem end_okN {L : Nat → Nat → List Tk → Res} (hL : ∀ d m ts, OkR (L d m ts)) (wd : List UInt8) (ns : List (Int × Bool)) (hn : ns.length ≤ 8) (d m : Nat) (ts : List Tk) : OkR (endF L wd ns d m ts) := by
  unfold endF
  match ts with
  | [] => trivial
  | s :: r2 =>
    simp only
    split
    · trivial
    split
    · exact ⟨by omega, trivial, trivial⟩
    split
    · split
      · trivial
      · have hb : OkR (blkF L (d + 1) m r2) := by
          unfold blkF
          have := hL (d + 1) m r2
          generalize L (d + 1) m r2 = X at *
          match X with
          | .bad e r => trivial
          | .ok f m r =>
            match r with
            | [] => trivial
            | c :: r3 =>
              simp only
              split
              · exact this
              · trivial
        generalize blkF L (d + 1) m r2 = X at *
        match X with
        | .bad e r => trivial
        | .ok f m r => exact ⟨by omega, hb, trivial⟩
    · trivial
theorem lst_okN : ∀ (n d m : Nat) (ts : List Tk), OkR (lstF n d m ts)
  | 0, _, _, _ => trivial
  | n + 1, d, m, [] => trivial
  | n + 1, d, m, t :: r => by
    by_cases h1 : t.kind = 1
    · rw [lst_word n d m t r h1]
      have hs : OkR (stmX (lstF n) d m t r) := by
        unfold stmX
        split
        · trivial
        · unfold stmF
          split
          · rename_i hf
            exact end_okN (lst_okN n) _ _ (by unfold numsF; rw [List.length_map]; simpa [fewN] using hf) _ _ _
          · trivial
      generalize stmX (lstF n) d m t r = X at *
      match X with
      | .bad e r => trivial
      | .ok x m2 r2 =>
        simp only
        have := lst_okN n d m2 r2
        generalize lstF n d m2 r2 = Y at *
        match Y with
        | .bad e r => trivial
        | .ok f m r => exact okN_app hs this
    · rw [lstF, if_neg h1]; trivial
theorem par_okN {l : List UInt8} {f : Fo} (h : parF l = .ok f) : f.okN := by
  unfold parF at h
  split at h
  · cases h
  split at h
  · cases h
  cases ha : allF (toksF l) with
  | bad er r => rw [ha] at h; cases h
  | ok f2 m2 r =>
    rw [ha] at h
    cases h
    have := lst_okN (toksF l).length 1 0 (toksF l)
    rw [show lstF (toksF l).length 1 0 (toksF l) = lst 1 0 (toksF l) from rfl, (all_ok ha).1] at this
    exact this

/-- What Parse tells, in one form. -/
def Told (x : PRes) (w : World) (e : Ending) (w' : World) : Prop := Below w.heap.size w w' ∧ ∃ A n c p er F, e = .returned (.tuple #[.slice A n c, plV p, .int .i64 (er : Nat)]) ∧ TrS w' (fun k => w.heap.size ≤ k ∧ k < w'.heap.size) A n F ∧
  ((er = 0 ∧ x = .ok F) ∨ (er ≠ 0 ∧ x = .bad p er))
theorem parse_told (s : ByteArray) (w : World) (hL : LaidW w) (hs : s.size ≤ 9223372036854775807) : Calls Tryz.prog 13 #[.string s] w (Told (parF s.data.toList) w) := by
  refine (parse_any s w hL hs).mono ?_
  rintro e w' ⟨hb, h⟩
  refine ⟨hb, ?_⟩
  generalize parF s.data.toList = x at *
  match x with
  | .ok f => obtain ⟨A, n, c, rfl, ht⟩ := h; exact ⟨A, n, c, ⟨0, 0⟩, 0, f, rfl, ht, .inl ⟨rfl, rfl⟩⟩
  | .bad p er => obtain ⟨h1, rfl⟩ := h; exact ⟨none, 0, 0, p, er, .nil, rfl, TrS.nil, .inr ⟨by omega, rfl⟩⟩
end Go.Proofs.YtkfnkieljcipnaaGreatDoor

/-! RA -/
namespace Go.Proofs.YtkfnkieljcipnaaGreatDoor
open Go Go.RowKit Go.Joins

def farB (x : Int × Bool) : Bool := decide (x.1 ≤ -1000000000000000000) || decide (1000000000000000000 ≤ x.1)
def fitB (wd : List UInt8) (ns : List (Int × Bool)) (bl : Bool) (blen : Nat) : Bool := wordB wd && (decide (ns.length ≤ 8) && (!(ns.any farB) && (bl || decide (blen = 0))))
/-- for how many more there is room, behind those that stand here -/
def Fo.roomF : Fo → Int → Int → Int
  | nil, m, _ => m
  | cons wd ns bl y n, m, d => if m < 0 ∨ fitB wd ns bl y.len = false ∨ (bl = true ∧ d = 1) then -1 else n.roomF (y.roomF (m - y.len) (d - 1)) d
theorem roomF_low : ∀ (f : Fo) (m d : Int), m ≤ (f.roomF m d) + f.nest ∨ f.roomF m d = -1 := by
  intro f
  induction f with
  | nil => intro m d; left; simp [Fo.roomF, Fo.nest]
  | cons wd ns bl y n ih1 ih2 =>
    intro m d
    rw [Fo.roomF]
    split
    · exact .inr rfl
    · rename_i h
      have h0 : ¬ m < 0 := fun h2 => h (.inl h2)
      rcases ih2 (y.roomF (m - y.len) (d - 1)) d with h2 | h2
      · rcases ih1 (m - y.len) (d - 1) with h3 | h3
        · left; have := y.count_nest; simp only [Fo.nest]; omega
        · cases n with
          | nil => right; simp only [Fo.roomF]; exact h3
          | cons _ _ _ _ _ => right; rw [Fo.roomF, if_pos (.inl (by omega))]
      · exact .inr h2
theorem roomF_top : ∀ (f : Fo) (m d : Int), f.roomF m d ≤ max m (-1) := by
  intro f
  induction f with
  | nil => intro m d; simp only [Fo.roomF]; omega
  | cons wd ns bl y n ih1 ih2 =>
    intro m d
    rw [Fo.roomF]
    split
    · omega
    · have h2 := ih2 (y.roomF (m - y.len) (d - 1)) d
      have h3 := ih1 (m - y.len) (d - 1)
      omega

/-! ### fits -/
theorem far1_any (g : Int × Bool) (w : World) : Calls Tryz.prog 86 #[.agg #[.int .i64 g.1, .bool g.2]] w fun e w' => e = .returned (.bool (farB g)) ∧ Below w.heap.size w w' := by
  obtain ⟨n, b⟩ := g
  go_enter Tryz.func86, Tryz.ntmps86
  go_wp2
  all_goals (go_ret; exact ⟨ret_bool (by unfold farB; first | (simp [*]; done) | (simp [*]; omega) | (rw [Bool.eq_iff_iff]; simp; omega)), (Below.refl _ _).alloc (Nat.le_refl _) _⟩)

def farFn : Value := .func (.func 86) #[] #[]
set_option maxRecDepth 100000 in
theorem idxN_any (A : Option Addr) (n c : Nat) (ns : List (Int × Bool)) (w : World) (hr : nmS.Rw w w.heap.size A n ns) (hn : n ≤ 9223372036854775807) :
    Calls Tryz.prog 104 #[.slice A n c, .func (.func 86) #[] #[]] w fun e w' => ∃ r : Int, e = .returned (.int .i64 r) ∧ decide (0 ≤ r) = ns.any farB ∧ Below w.heap.size w w' := by
  have HR := hid hr
  have HLN := hid hr.1
  clear hr
  go_enter Tryz.func104, Tryz.ntmps104
  go_wp2
  go_loopw [8] (fun v8 wr => ∃ k : Nat, v8 = .int .i64 (k : Int) ∧ k ≤ n ∧ (ns.take k).any farB = false ∧ Below w.heap.size w wr) (fun v8 _ => n - (intOf v8).toNat)
  case atStart => exact ⟨0, rfl, Nat.zero_le _, rfl, Below.refl _ _⟩
  case round =>
    obtain ⟨k, rfl, hk, hany, hbel⟩ := hrel
    have BW := hid hbel
    have HA := hid hany
    by_cases hlt : k < n
    · obtain ⟨b, o, rfl, _, hc⟩ := (HR.out.below hbel).at_ hlt
      have hg : ns[k]? = some (nmS.nth ns k) := Sh.nth_get nmS (by rw [HLN.out]; exact hlt)
      have HT : Hid (ns.take (k + 1) = ns.take k ++ [nmS.nth ns k]) := hid (by rw [List.take_add_one, hg]; rfl)
      have HIN : Hid (nmS.nth ns k ∈ ns) := hid (List.mem_of_getElem? hg)
      generalize nmS.nth ns k = x at *
      obtain ⟨x1, x2⟩ := x
      have c0 : wr.cell? ⟨b, o + k * 2, none⟩ = some (.int .i64 x1) := hc 0 _ rfl
      have c1 : wr.cell? ⟨b, o + k * 2 + 1, none⟩ = some (.bool x2) := hc 1 _ rfl
      have HF := hid (far1_any (x1, x2) wr)
      clear hc hbel hany hg
      cases hf : farB (x1, x2) with
      | true =>
        rw [hf] at HF
        have HY := hid (show ns.any farB = true from List.any_eq_true.2 ⟨_, HIN.out, hf⟩)
        clear hf
        go_wp2_with (first
          | (go_at_call 86; refine HF.out.mono ?_; rintro e w2 ⟨rfl, b2⟩; have B2 := hid (BW.out.trans (b2.mono BW.out.size)); clear b2))
        go_ret
        exact ⟨k, rfl, by rw [HY.out]; simp, B2.out⟩
      | false =>
        rw [hf] at HF
        have HY := hid (show (ns.take (k + 1)).any farB = false by rw [HT.out, List.any_append, HA.out]; simp [hf])
        clear hf
        go_wp2_with (first
          | (go_at_call 86; refine HF.out.mono ?_; rintro e w2 ⟨rfl, b2⟩; have B2 := hid (BW.out.trans (b2.mono BW.out.size)); clear b2))
        exact ⟨⟨k + 1, by go_num, by omega, HY.out, B2.out⟩, by simp [intOf]; omega⟩
    · obtain rfl : k = n := by omega
      rw [List.take_of_length_le (by rw [HLN.out]; omega)] at hany
      have HY := hid hany
      clear hany hbel HA
      go_wp2
      go_ret
      exact ⟨-1, rfl, by rw [HY.out]; decide, BW.out⟩
theorem containsN_any (A : Option Addr) (n c : Nat) (ns : List (Int × Bool)) (w : World) (hr : nmS.Rw w w.heap.size A n ns) (hn : n ≤ 9223372036854775807) :
    Calls Tryz.prog 87 #[.slice A n c, .func (.func 86) #[] #[]] w fun e w' => e = .returned (.bool (ns.any farB)) ∧ Below w.heap.size w w' := by
  have HI := hid (idxN_any A n c ns w hr hn)
  clear hr
  go_enter Tryz.func87, Tryz.ntmps87
  go_wp2_with (first
    | (go_at_call 104; refine HI.out.mono ?_; rintro e w1 ⟨r, rfl, hr, b1⟩; have HR := hid (And.intro hr b1); clear hr b1))
  go_ret
  exact ⟨ret_bool HR.out.1, HR.out.2⟩

set_option maxHeartbeats 1000000 in
set_option maxRecDepth 100000 in
theorem fits_any (x : Sm) (ns : List (Int × Bool)) (w : World) (hr : nmS.Rw w w.heap.size x.nA x.nn ns) (hn : x.nn ≤ 1000000) (hw : x.word.length ≤ 1000000) (hb : x.bn ≤ 4611686018427387904) :
    Calls Tryz.prog 69 #[smV x] w fun e w' => e = .returned (.bool (fitB x.word ns x.block x.bn)) ∧ Below w.heap.size w w' := by
  obtain ⟨xw, xA, xn, xc, xb, xB, xm, xk⟩ := x
  simp only at hr hn hw hb
  have HR := hid hr
  have HW := hid (fun w1 => by have := word_any (strB xw) w1 (by show xw.length ≤ _; omega); unfold WordPost at this; exact this)
  have hn8 : (decide (ns.length ≤ 8)) = decide ((xn : Int) ≤ 8) := by rw [hr.1]; rw [Bool.eq_iff_iff]; simp; omega
  have hl : (strB xw).data.toList = xw := rfl
  rw [hl] at HW
  unfold fitB
  simp only
  rw [hn8]
  clear hl hn8 hr
  generalize wordB xw = b1 at *
  cases b1 with
  | false =>
    have HFR := hid (Eq.refl 0)
    go_enter Tryz.func69, Tryz.ntmps69
    go_upto_region 2 with (refine Sh.wp_box smS (x := ⟨xw, xA, xn, xc, xb, xB, xm, xk⟩) rfl (.tmp 0) rfl rfl ?_; intro w1 q1 b1 s1; have c0 : w1.cell? ⟨w.heap.size, 0, none⟩ = some (.string (strB xw)) := q1.cell (j := 0) rfl; have V1 := hid q1; have B1 := hid b1; clear q1 b1 s1)
    go_wp2_with (first
      | (go_at_call 87; have h9 := containsN_any xA xn xc ns w2 (HR.out.below B2.out |>.more B2.out.size) (by omega); (try rw [HFR.out] at h9); (with_reducible refine h9.mono ?_); rintro e w3 ⟨rfl, b3⟩; have c2 : w3.cell? ⟨w.heap.size, 2, none⟩ = some (.bool xb) := (b3.cell (p := ⟨w.heap.size, 2, none⟩) L2.out).trans c2; have c3 : w3.cell? ⟨w.heap.size, 3, none⟩ = some (.slice xB xm xk) := (b3.cell (p := ⟨w.heap.size, 3, none⟩) L2.out).trans c3; have B2 := hid (B2.out.trans (b3.mono B2.out.size)); clear b3)
      | (go_at_call 77; refine (HW.out w1).mono ?_; rintro e w2 ⟨rfl, b2⟩; have V2 := hid (V1.out.keep b2); have c1 : w2.cell? ⟨w.heap.size, 1, none⟩ = some (.slice xA xn xc) := V2.out.cell (j := 1) rfl; have c2 : w2.cell? ⟨w.heap.size, 2, none⟩ = some (.bool xb) := V2.out.cell (j := 2) rfl; have c3 : w2.cell? ⟨w.heap.size, 3, none⟩ = some (.slice xB xm xk) := V2.out.cell (j := 3) rfl; have L2 := hid V2.out.lt; have B2 := hid (B1.out.trans (b2.mono B1.out.size)); clear b2))
    go_ret
    exact ⟨rfl, B2.out⟩
  | true =>
    by_cases h8 : (xn : Int) ≤ 8
    · rw [decide_eq_true h8]
      obtain ⟨fr, hfr⟩ : ∃ fr, ns.any farB = fr := ⟨_, rfl⟩
      rw [hfr]
      have HFR := hid hfr
      clear hfr
      cases fr with
      | true =>
        go_enter Tryz.func69, Tryz.ntmps69
        go_upto_region 2 with (refine Sh.wp_box smS (x := ⟨xw, xA, xn, xc, xb, xB, xm, xk⟩) rfl (.tmp 0) rfl rfl ?_; intro w1 q1 b1 s1; have c0 : w1.cell? ⟨w.heap.size, 0, none⟩ = some (.string (strB xw)) := q1.cell (j := 0) rfl; have V1 := hid q1; have B1 := hid b1; clear q1 b1 s1)
        go_wp2_with (first
          | (go_at_call 87; have h9 := containsN_any xA xn xc ns w2 (HR.out.below B2.out |>.more B2.out.size) (by omega); (try rw [HFR.out] at h9); (with_reducible refine h9.mono ?_); rintro e w3 ⟨rfl, b3⟩; have c2 : w3.cell? ⟨w.heap.size, 2, none⟩ = some (.bool xb) := (b3.cell (p := ⟨w.heap.size, 2, none⟩) L2.out).trans c2; have c3 : w3.cell? ⟨w.heap.size, 3, none⟩ = some (.slice xB xm xk) := (b3.cell (p := ⟨w.heap.size, 3, none⟩) L2.out).trans c3; have B2 := hid (B2.out.trans (b3.mono B2.out.size)); clear b3)
          | (go_at_call 77; refine (HW.out w1).mono ?_; rintro e w2 ⟨rfl, b2⟩; have V2 := hid (V1.out.keep b2); have c1 : w2.cell? ⟨w.heap.size, 1, none⟩ = some (.slice xA xn xc) := V2.out.cell (j := 1) rfl; have c2 : w2.cell? ⟨w.heap.size, 2, none⟩ = some (.bool xb) := V2.out.cell (j := 2) rfl; have c3 : w2.cell? ⟨w.heap.size, 3, none⟩ = some (.slice xB xm xk) := V2.out.cell (j := 3) rfl; have L2 := hid V2.out.lt; have B2 := hid (B1.out.trans (b2.mono B1.out.size)); clear b2))
        go_ret
        exact ⟨rfl, B2.out⟩
      | false =>
        cases xb with
        | true =>
          go_enter Tryz.func69, Tryz.ntmps69
          go_upto_region 2 with (refine Sh.wp_box smS (x := ⟨xw, xA, xn, xc, true, xB, xm, xk⟩) rfl (.tmp 0) rfl rfl ?_; intro w1 q1 b1 s1; have c0 : w1.cell? ⟨w.heap.size, 0, none⟩ = some (.string (strB xw)) := q1.cell (j := 0) rfl; have V1 := hid q1; have B1 := hid b1; clear q1 b1 s1)
          go_wp2_with (first
            | (go_at_call 87; have h9 := containsN_any xA xn xc ns w2 (HR.out.below B2.out |>.more B2.out.size) (by omega); (try rw [HFR.out] at h9); (with_reducible refine h9.mono ?_); rintro e w3 ⟨rfl, b3⟩; have c2 : w3.cell? ⟨w.heap.size, 2, none⟩ = some (.bool true) := (b3.cell (p := ⟨w.heap.size, 2, none⟩) L2.out).trans c2; have c3 : w3.cell? ⟨w.heap.size, 3, none⟩ = some (.slice xB xm xk) := (b3.cell (p := ⟨w.heap.size, 3, none⟩) L2.out).trans c3; have B2 := hid (B2.out.trans (b3.mono B2.out.size)); clear b3)
            | (go_at_call 77; refine (HW.out w1).mono ?_; rintro e w2 ⟨rfl, b2⟩; have V2 := hid (V1.out.keep b2); have c1 : w2.cell? ⟨w.heap.size, 1, none⟩ = some (.slice xA xn xc) := V2.out.cell (j := 1) rfl; have c2 : w2.cell? ⟨w.heap.size, 2, none⟩ = some (.bool true) := V2.out.cell (j := 2) rfl; have c3 : w2.cell? ⟨w.heap.size, 3, none⟩ = some (.slice xB xm xk) := V2.out.cell (j := 3) rfl; have L2 := hid V2.out.lt; have B2 := hid (B1.out.trans (b2.mono B1.out.size)); clear b2))
          go_ret
          exact ⟨rfl, B2.out⟩
        | false =>
          by_cases hm : xm = 0
          · subst hm
            go_enter Tryz.func69, Tryz.ntmps69
            go_upto_region 2 with (refine Sh.wp_box smS (x := ⟨xw, xA, xn, xc, false, xB, 0, xk⟩) rfl (.tmp 0) rfl rfl ?_; intro w1 q1 b1 s1; have c0 : w1.cell? ⟨w.heap.size, 0, none⟩ = some (.string (strB xw)) := q1.cell (j := 0) rfl; have V1 := hid q1; have B1 := hid b1; clear q1 b1 s1)
            go_wp2_with (first
              | (go_at_call 87; have h9 := containsN_any xA xn xc ns w2 (HR.out.below B2.out |>.more B2.out.size) (by omega); (try rw [HFR.out] at h9); (with_reducible refine h9.mono ?_); rintro e w3 ⟨rfl, b3⟩; have c2 : w3.cell? ⟨w.heap.size, 2, none⟩ = some (.bool false) := (b3.cell (p := ⟨w.heap.size, 2, none⟩) L2.out).trans c2; have c3 : w3.cell? ⟨w.heap.size, 3, none⟩ = some (.slice xB 0 xk) := (b3.cell (p := ⟨w.heap.size, 3, none⟩) L2.out).trans c3; have B2 := hid (B2.out.trans (b3.mono B2.out.size)); clear b3)
              | (go_at_call 77; refine (HW.out w1).mono ?_; rintro e w2 ⟨rfl, b2⟩; have V2 := hid (V1.out.keep b2); have c1 : w2.cell? ⟨w.heap.size, 1, none⟩ = some (.slice xA xn xc) := V2.out.cell (j := 1) rfl; have c2 : w2.cell? ⟨w.heap.size, 2, none⟩ = some (.bool false) := V2.out.cell (j := 2) rfl; have c3 : w2.cell? ⟨w.heap.size, 3, none⟩ = some (.slice xB 0 xk) := V2.out.cell (j := 3) rfl; have L2 := hid V2.out.lt; have B2 := hid (B1.out.trans (b2.mono B1.out.size)); clear b2))
            go_ret
            exact ⟨rfl, B2.out⟩
          · rw [decide_eq_false hm]
            have hm2 : ((xm : Int) == 0) = false := beq_eq_false_iff_ne.2 (by omega)
            go_enter Tryz.func69, Tryz.ntmps69
            go_upto_region 2 with (refine Sh.wp_box smS (x := ⟨xw, xA, xn, xc, false, xB, xm, xk⟩) rfl (.tmp 0) rfl rfl ?_; intro w1 q1 b1 s1; have c0 : w1.cell? ⟨w.heap.size, 0, none⟩ = some (.string (strB xw)) := q1.cell (j := 0) rfl; have V1 := hid q1; have B1 := hid b1; clear q1 b1 s1)
            go_wp2_with (first
              | (go_at_call 87; have h9 := containsN_any xA xn xc ns w2 (HR.out.below B2.out |>.more B2.out.size) (by omega); (try rw [HFR.out] at h9); (with_reducible refine h9.mono ?_); rintro e w3 ⟨rfl, b3⟩; have c2 : w3.cell? ⟨w.heap.size, 2, none⟩ = some (.bool false) := (b3.cell (p := ⟨w.heap.size, 2, none⟩) L2.out).trans c2; have c3 : w3.cell? ⟨w.heap.size, 3, none⟩ = some (.slice xB xm xk) := (b3.cell (p := ⟨w.heap.size, 3, none⟩) L2.out).trans c3; have B2 := hid (B2.out.trans (b3.mono B2.out.size)); clear b3)
              | (go_at_call 77; refine (HW.out w1).mono ?_; rintro e w2 ⟨rfl, b2⟩; have V2 := hid (V1.out.keep b2); have c1 : w2.cell? ⟨w.heap.size, 1, none⟩ = some (.slice xA xn xc) := V2.out.cell (j := 1) rfl; have c2 : w2.cell? ⟨w.heap.size, 2, none⟩ = some (.bool false) := V2.out.cell (j := 2) rfl; have c3 : w2.cell? ⟨w.heap.size, 3, none⟩ = some (.slice xB xm xk) := V2.out.cell (j := 3) rfl; have L2 := hid V2.out.lt; have B2 := hid (B1.out.trans (b2.mono B1.out.size)); clear b2))
            go_ret
            exact ⟨rfl, B2.out⟩
    · rw [decide_eq_false h8]
      have HFR := hid (Eq.refl 0)
      go_enter Tryz.func69, Tryz.ntmps69
      go_upto_region 2 with (refine Sh.wp_box smS (x := ⟨xw, xA, xn, xc, xb, xB, xm, xk⟩) rfl (.tmp 0) rfl rfl ?_; intro w1 q1 b1 s1; have c0 : w1.cell? ⟨w.heap.size, 0, none⟩ = some (.string (strB xw)) := q1.cell (j := 0) rfl; have V1 := hid q1; have B1 := hid b1; clear q1 b1 s1)
      go_wp2_with (first
        | (go_at_call 87; have h9 := containsN_any xA xn xc ns w2 (HR.out.below B2.out |>.more B2.out.size) (by omega); (try rw [HFR.out] at h9); (with_reducible refine h9.mono ?_); rintro e w3 ⟨rfl, b3⟩; have c2 : w3.cell? ⟨w.heap.size, 2, none⟩ = some (.bool xb) := (b3.cell (p := ⟨w.heap.size, 2, none⟩) L2.out).trans c2; have c3 : w3.cell? ⟨w.heap.size, 3, none⟩ = some (.slice xB xm xk) := (b3.cell (p := ⟨w.heap.size, 3, none⟩) L2.out).trans c3; have B2 := hid (B2.out.trans (b3.mono B2.out.size)); clear b3)
        | (go_at_call 77; refine (HW.out w1).mono ?_; rintro e w2 ⟨rfl, b2⟩; have V2 := hid (V1.out.keep b2); have c1 : w2.cell? ⟨w.heap.size, 1, none⟩ = some (.slice xA xn xc) := V2.out.cell (j := 1) rfl; have c2 : w2.cell? ⟨w.heap.size, 2, none⟩ = some (.bool xb) := V2.out.cell (j := 2) rfl; have c3 : w2.cell? ⟨w.heap.size, 3, none⟩ = some (.slice xB xm xk) := V2.out.cell (j := 3) rfl; have L2 := hid V2.out.lt; have B2 := hid (B1.out.trans (b2.mono B1.out.size)); clear b2))
      go_ret
      exact ⟨rfl, B2.out⟩
end Go.Proofs.YtkfnkieljcipnaaGreatDoor
