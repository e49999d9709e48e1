/-
  Contracts of slices.Equal at numbers, of parse.Same's closure, of slices.EqualFunc with it, and of parse.Same, at every two forests of at most 2^62 statements, each of at most 2^46 numbers.
-/
import Derived.Test.YtkfnkieljcipnaaGreatDoorK7
namespace Go.Proofs.YtkfnkieljcipnaaGreatDoor
open Go Go.RowKit Go.Joins

set_option maxRecDepth 100000 in
theorem numEq_any (A A2 : Option Addr) (n c m c2 B B2 : Nat) (a b : List (Int × Bool)) (r : Bool) (w : World) (ha : nmS.Rw w B A n a) (hb : nmS.Rw w B2 A2 m b) (hB : B ≤ w.heap.size) (hB2 : B2 ≤ w.heap.size) (hn : n ≤ 4611686018427387904) (hm : m ≤ 4611686018427387904) (hr : decide (a = b) = r) :
    Calls Tryz.prog 48 #[.slice A n c, .slice A2 m c2] w fun e w' => e = .returned (.bool r) ∧ Below w.heap.size w w' := by
  have HA := hid ha
  have HB := hid hb
  have HR := hid hr
  have LA := hid ha.1
  have LB := hid hb.1
  clear ha hb hr
  by_cases hnm : n = m
  · subst hnm
    go_enter Tryz.func48, Tryz.ntmps48
    go_wp2
    go_loopw [13] (fun t wr => ∃ i : Nat, t = .int .i64 (i : Nat) ∧ i ≤ n ∧ (∀ j, j < i → nmS.nth a j = nmS.nth b j) ∧ Below w.heap.size w wr) (fun t _ => n - (intOf t).toNat)
    case atStart => exact ⟨0, rfl, by omega, fun j hj => absurd hj (by omega), Below.refl _ _⟩
    case round =>
      obtain ⟨i, rfl, hi, hj, bel⟩ := hrel
      have HJ := hid hj
      have BW := hid bel
      clear hj bel
      by_cases hlt : i < n
      · obtain ⟨b1, o1, rfl, _, r1⟩ := (HA.out.below (BW.out.mono hB)).at_ hlt
        obtain ⟨b2, o2, rfl, _, r2⟩ := (HB.out.below (BW.out.mono hB2)).at_ hlt
        have HY : Hid (decide (nmS.nth a i = nmS.nth b i) = true → ∀ j, j < i + 1 → nmS.nth a j = nmS.nth b j) := hid fun h j hj => by
          by_cases e : j = i
          · subst e; exact of_decide_eq_true h
          · exact HJ.out j (by omega)
        have HN : Hid (decide (nmS.nth a i = nmS.nth b i) = false → r = false) := hid fun h => by
          rw [← HR.out, decide_eq_false_iff_not]
          rintro rfl
          simp at h
        have q1 := fun w => neN (nmS.nth a i) (nmS.nth b i) w
        have q2 := fun p q w => guN .neq p q (nmS.nth a i) (nmS.nth b i) w
        have x0 : wr.cell? ⟨b1, o1 + i * 2, none⟩ = some (.int .i64 (nmS.nth a i).1) := r1 0 _ rfl
        have x1 : wr.cell? ⟨b1, o1 + i * 2 + 1, none⟩ = some (.bool (nmS.nth a i).2) := r1 1 _ rfl
        have y0 : wr.cell? ⟨b2, o2 + i * 2, none⟩ = some (.int .i64 (nmS.nth b i).1) := r2 0 _ rfl
        have y1 : wr.cell? ⟨b2, o2 + i * 2 + 1, none⟩ = some (.bool (nmS.nth b i).2) := r2 1 _ rfl
        unfold nmV at q1 q2
        clear r1 r2
        generalize decide (nmS.nth a i = nmS.nth b i) = R at *
        generalize nmS.nth a i = x at *
        generalize nmS.nth b i = y at *
        obtain ⟨k1, t1⟩ := x
        obtain ⟨k2, t2⟩ := y
        have i1 : (i : Int) < (n : Int) := by omega
        go_wp2_with fail
        go_quiet (fail)
        have HW := hid (bel_drewN BW.out nq)
        generalize wr.drewN nq = w2 at *
        clear q1 q2 x0 x1 y0 y1
        cases R
        · have HN' := hid (HN.out rfl)
          clear HN HY
          go_wp2
          go_ret
          exact ⟨ret_bool HN'.out.symm, HW.out⟩
        · have HY' := hid (HY.out rfl)
          clear HN HY
          go_wp2
          go_roundw
          case rel => exact ⟨i + 1, by go_num, by omega, HY'.out, HW.out⟩
          case measure => simp [intOf]; omega
      · have hF : Hid (r = true) := hid (by
          rw [← HR.out, decide_eq_true_eq]
          exact ext_nthN (by rw [LA.out, LB.out]) fun j hj => HJ.out j (by rw [LA.out] at hj; omega))
        go_wp2
        go_ret
        exact ⟨ret_bool hF.out.symm, BW.out⟩
  · have hF : Hid (r = false) := hid (by
      rw [← HR.out, decide_eq_false_iff_not]
      rintro rfl
      exact hnm (LA.out.symm.trans LB.out))
    have hb : ((n : Int) == (m : Int)) = false := beq_eq_false_iff_ne.2 (by omega)
    go_enter Tryz.func48, Tryz.ntmps48
    go_wp2
    go_ret
    exact ⟨ret_bool hF.out.symm, Below.refl _ _⟩

set_option maxHeartbeats 4000000 in
set_option maxRecDepth 100000 in
theorem same1_any (x z : Sm) (ns ns2 : List (Int × Bool)) (y y2 : Fo) (w : World) (K K2 : Nat → Prop) (R : Bool) (hns : RwP nmS w K x.nA x.nn ns) (hns2 : RwP nmS w K2 z.nA z.nn ns2) (hy : TrS w K x.bA x.bn y) (hy2 : TrS w K2 z.bA z.bn y2) (HY : SameSaid 25 y)
    (hc : y.count ≤ 4611686018427387904 ∧ y2.count ≤ 4611686018427387904 ∧ y.okN ∧ y2.okN) (hl : ns.length ≤ 4611686018427387904 ∧ ns2.length ≤ 4611686018427387904) (hR : decide (x.word = z.word ∧ ns = ns2 ∧ x.block = z.block ∧ y = y2) = R) :
    Calls Tryz.prog 47 #[smV x, smV z] w fun e w' => e = .returned (.bool R) ∧ Below w.heap.size w w' := by
  obtain ⟨xw, xA, xn, xc, xb, xB, xm, xk⟩ := x
  obtain ⟨zw, zA, zn, zc, zb, zB, zm, zk⟩ := z
  simp only at hns hns2 hy hy2 hR
  have hsw := sg_is xw zw
  have HN := hid (fun w1 (hb : Below w.heap.size w w1) => numEq_any xA zA xn xc zn zc w1.heap.size w1.heap.size ns ns2 _ w1 (hns.below hb).size (hns2.below hb).size (Nat.le_refl _) (Nat.le_refl _) (by have := hns.1; omega) (by have := hns2.1; omega) rfl)
  have HB := hid (fun w1 (hb : Below w.heap.size w w1) => HY y2 w1 K K2 xB zB xm xk zm zk (hy.below hb) (hy2.below hb) hc.1 hc.2.1 hc.2.2.1 hc.2.2.2)
  clear hns hns2 hy hy2 HY hc hl
  have HR := hid hR
  clear hR
  by_cases hw : xw = zw
  · subst hw
    clear hsw
    by_cases hnn : ns = ns2
    · subst hnn
      rw [decide_eq_true (rfl : ns = ns)] at HN
      by_cases hbb : xb = zb
      · subst hbb
        have HD := hid (show decide (y = y2) = R by rw [← HR.out]; simp)
        go_enter Tryz.func47, Tryz.ntmps47
        go_wp2_with (first
          | (go_at_call 25; refine (HB.out w3 B3.out).mono ?_; rintro e w4 ⟨rfl, b4⟩; have B4 := hid (B3.out.trans (b4.mono B3.out.size)); clear b4)
          | (go_at_call 48; refine (HN.out w2 B2.out).mono ?_; rintro e w3 ⟨rfl, b3⟩; have B3 := hid (B2.out.trans (b3.mono B2.out.size)); have c2 : w3.cell? ⟨w.heap.size, 2, none⟩ = some (.bool xb) := (V1.out.keep b3).cell (j := 2) rfl; have d2 : w3.cell? ⟨w1.heap.size, 2, none⟩ = some (.bool xb) := (V2.out.keep b3).cell (j := 2) rfl; have c3 : w3.cell? ⟨w.heap.size, 3, none⟩ = some (.slice xB xm xk) := (V1.out.keep b3).cell (j := 3) rfl; have d3 : w3.cell? ⟨w1.heap.size, 3, none⟩ = some (.slice zB zm zk) := (V2.out.keep b3).cell (j := 3) rfl; clear b3)
          | (refine Sh.wp_box smS (x := ⟨xw, zA, zn, zc, xb, zB, zm, zk⟩) rfl (.tmp 1) rfl rfl ?_; intro w2 v2 b2 s2; have V2 := hid v2; have V1 := hid (V0.out.keep b2); have B2 := hid (B1.out.trans (b2.mono B1.out.size)); have c0 : w2.cell? ⟨w.heap.size, 0, none⟩ = some (.string (strB xw)) := V1.out.cell (j := 0) rfl; have d0 : w2.cell? ⟨w1.heap.size, 0, none⟩ = some (.string (strB xw)) := v2.cell (j := 0) rfl; have c1 : w2.cell? ⟨w.heap.size, 1, none⟩ = some (.slice xA xn xc) := V1.out.cell (j := 1) rfl; have d1 : w2.cell? ⟨w1.heap.size, 1, none⟩ = some (.slice zA zn zc) := v2.cell (j := 1) rfl; clear v2 b2 s2)
          | (refine Sh.wp_box smS (x := ⟨xw, xA, xn, xc, xb, xB, xm, xk⟩) rfl (.tmp 0) rfl rfl ?_; intro w1 v1 b1 s1; have V0 := hid v1; have B1 := hid b1; clear v1 b1 s1))
        go_ret
        exact ⟨ret_bool HD.out, B4.out⟩
      · have HF := hid (show R = false by rw [← HR.out, decide_eq_false_iff_not]; exact fun h => hbb h.2.2.1)
        have hbb2 : (xb == zb) = false := by simpa using hbb
        clear HB HR hbb
        go_enter Tryz.func47, Tryz.ntmps47
        go_wp2_with (first
          | (go_at_call 48; refine (HN.out w2 B2.out).mono ?_; rintro e w3 ⟨rfl, b3⟩; have B3 := hid (B2.out.trans (b3.mono B2.out.size)); have c2 : w3.cell? ⟨w.heap.size, 2, none⟩ = some (.bool xb) := (V1.out.keep b3).cell (j := 2) rfl; have d2 : w3.cell? ⟨w1.heap.size, 2, none⟩ = some (.bool zb) := (V2.out.keep b3).cell (j := 2) rfl; clear b3)
          | (refine Sh.wp_box smS (x := ⟨xw, zA, zn, zc, zb, zB, zm, zk⟩) rfl (.tmp 1) rfl rfl ?_; intro w2 v2 b2 s2; have V2 := hid v2; have V1 := hid (V0.out.keep b2); have B2 := hid (B1.out.trans (b2.mono B1.out.size)); have c0 : w2.cell? ⟨w.heap.size, 0, none⟩ = some (.string (strB xw)) := V1.out.cell (j := 0) rfl; have d0 : w2.cell? ⟨w1.heap.size, 0, none⟩ = some (.string (strB xw)) := v2.cell (j := 0) rfl; have c1 : w2.cell? ⟨w.heap.size, 1, none⟩ = some (.slice xA xn xc) := V1.out.cell (j := 1) rfl; have d1 : w2.cell? ⟨w1.heap.size, 1, none⟩ = some (.slice zA zn zc) := v2.cell (j := 1) rfl; clear v2 b2 s2)
          | (refine Sh.wp_box smS (x := ⟨xw, xA, xn, xc, xb, xB, xm, xk⟩) rfl (.tmp 0) rfl rfl ?_; intro w1 v1 b1 s1; have V0 := hid v1; have B1 := hid b1; clear v1 b1 s1))
        go_ret
        exact ⟨ret_bool HF.out.symm, B3.out⟩
    · have HF := hid (show R = false by rw [← HR.out, decide_eq_false_iff_not]; exact fun h => hnn h.2.1)
      rw [decide_eq_false hnn] at HN
      clear HB HR hnn
      go_enter Tryz.func47, Tryz.ntmps47
      go_wp2_with (first
        | (go_at_call 48; refine (HN.out w2 B2.out).mono ?_; rintro e w3 ⟨rfl, b3⟩; have B3 := hid (B2.out.trans (b3.mono B2.out.size)); clear b3)
        | (refine Sh.wp_box smS (x := ⟨xw, zA, zn, zc, zb, zB, zm, zk⟩) rfl (.tmp 1) rfl rfl ?_; intro w2 v2 b2 s2; have V1 := hid (V0.out.keep b2); have B2 := hid (B1.out.trans (b2.mono B1.out.size)); have c0 : w2.cell? ⟨w.heap.size, 0, none⟩ = some (.string (strB xw)) := V1.out.cell (j := 0) rfl; have d0 : w2.cell? ⟨w1.heap.size, 0, none⟩ = some (.string (strB xw)) := v2.cell (j := 0) rfl; have c1 : w2.cell? ⟨w.heap.size, 1, none⟩ = some (.slice xA xn xc) := V1.out.cell (j := 1) rfl; have d1 : w2.cell? ⟨w1.heap.size, 1, none⟩ = some (.slice zA zn zc) := v2.cell (j := 1) rfl; clear v2 b2 s2)
        | (refine Sh.wp_box smS (x := ⟨xw, xA, xn, xc, xb, xB, xm, xk⟩) rfl (.tmp 0) rfl rfl ?_; intro w1 v1 b1 s1; have V0 := hid v1; have B1 := hid b1; clear v1 b1 s1))
      go_ret
      exact ⟨ret_bool HF.out.symm, B3.out⟩
  · have HF := hid (show R = false by rw [← HR.out, decide_eq_false_iff_not]; exact fun h => hw h.1)
    rw [decide_eq_false hw] at hsw
    have hsw : ((strB xw).toList == (strB zw).toList) = false := by
      rw [← hsw]; congr 1; rw [ByteArray.toList_eq]; rfl
    clear HB HR HN hw
    generalize hz1 : strB xw = z1 at *
    generalize hz2 : strB zw = z2 at *
    subst hz1 hz2
    go_enter Tryz.func47, Tryz.ntmps47
    go_wp2_with (first
      | (refine Sh.wp_box smS (x := ⟨zw, zA, zn, zc, zb, zB, zm, zk⟩) rfl (.tmp 1) rfl rfl ?_; intro w2 v2 b2 s2; have V1 := hid (V0.out.keep b2); have B2 := hid (B1.out.trans (b2.mono B1.out.size)); have c0 := V1.out.cell (j := 0) rfl; have d0 := v2.cell (j := 0) rfl; clear v2 b2 s2)
      | (refine Sh.wp_box smS (x := ⟨xw, xA, xn, xc, xb, xB, xm, xk⟩) rfl (.tmp 0) rfl rfl ?_; intro w1 v1 b1 s1; have V0 := hid v1; have B1 := hid b1; clear v1 b1 s1))
    go_ret
    exact ⟨ret_bool HF.out.symm, B2.out⟩

set_option maxHeartbeats 4000000 in
set_option maxRecDepth 100000 in
theorem eqF_step (f : Fo) (hf : f.Bodies (SameSaid 25)) (h : Fo) (w : World) (K K2 : Nat → Prop) (A A2 : Option Addr) (n c n2 c2 : Nat) (ht : TrS w K A n f) (ht2 : TrS w K2 A2 n2 h) (hc : f.count ≤ 4611686018427387904) (hc2 : h.count ≤ 4611686018427387904) (ho : f.okN) (ho2 : h.okN) :
    Calls Tryz.prog 46 #[.slice A n c, .slice A2 n2 c2, .func (.func 47) #[] #[]] w fun e w' => e = .returned (.bool (decide (f = h))) ∧ Below w.heap.size w w' := by
  obtain ⟨xs, hx, htr⟩ := ht
  obtain ⟨ys, hy, htr2⟩ := ht2
  have HX := hid hx
  have HY := hid hy
  have L1 : f.len = n := by rw [← htr.len, hx.1]
  have L2 : h.len = n2 := by rw [← htr2.len, hy.1]
  have hn : (n : Int) ≤ 4611686018427387904 := by have := f.len_le; omega
  have hn2 : (n2 : Int) ≤ 4611686018427387904 := by have := h.len_le; omega
  have S0 := hid (SmI.mk (w := w) (wr := w) (K := K) (K2 := K2) (xs := xs) (ys := ys) (i := 0) rfl hf (by simpa using htr) (by simpa using htr2) hc hc2 ho ho2 (Below.refl _ _))
  obtain ⟨R, hR⟩ : ∃ R, decide (f = h) = R := ⟨_, rfl⟩
  rw [hR]
  have HR := hid hR
  clear hR
  by_cases hnn : n = n2
  · subst hnn
    clear hx hy hf htr htr2 hc hc2 ho ho2 L1 L2
    go_enter Tryz.func46, Tryz.ntmps46
    go_wp2
    go_loopw [17] (fun v17 wr => ∃ (i : Nat) (r q : Fo), v17 = .int .i64 (i : Nat) ∧ i ≤ n ∧ SmI w wr K K2 xs ys f h 25 i r q) (fun v17 _ => n - (intOf v17).toNat)
    case atStart => exact ⟨0, f, h, rfl, Nat.zero_le _, S0.out⟩
    case round =>
      obtain ⟨i, r, q, rfl, hi, hs⟩ := hrel
      by_cases hlt : i < n
      · obtain ⟨wd, ns, bl, y, nx, rfl, e1, e2, hns, hyb, hnx⟩ := hs.ta.step (by rw [HX.out.1]; exact hlt)
        obtain ⟨wd2, ns2, bl2, y2, nx2, rfl, k1, k2, hns2, hyb2, hnx2⟩ := hs.tb.step (by rw [HY.out.1]; exact hlt)
        obtain ⟨b, o, rfl, hb, hcell⟩ := (HX.out.size.below hs.bl).at_ hlt
        obtain ⟨b2, o2, rfl, hb2, hcell2⟩ := (HY.out.size.below hs.bl).at_ hlt
        generalize smS.nth xs i = x at *
        generalize smS.nth ys i = x2 at *
        obtain ⟨xw, xA, xn, xc, xb, xB, xm, xk⟩ := x
        obtain ⟨zw, zA, zn, zc, zb, zB, zm, zk⟩ := x2
        simp only at e1 e2 k1 k2 hns hns2 hyb hyb2
        subst e1 e2 k1 k2
        have r1 : wr.rangeAt b (o + i * 4) (smS.enc ⟨xw, xA, xn, xc, xb, xB, xm, xk⟩) := hcell
        have r2 : wr.rangeAt b2 (o2 + i * 4) (smS.enc ⟨zw, zA, zn, zc, zb, zB, zm, zk⟩) := hcell2
        have BW := hid hs.bl
        have hb2 := Nat.lt_of_lt_of_le hb2 hs.bl.size
        have i1 : (i : Int) < (n : Int) := by omega
        obtain ⟨R1, hR1⟩ : ∃ R1, decide (xw = zw ∧ ns = ns2 ∧ xb = zb ∧ y = y2) = R1 := ⟨_, rfl⟩
        have HC := hid (fun w5 (B5 : Below w.heap.size w w5) => same1_any ⟨xw, xA, xn, xc, xb, xB, xm, xk⟩ ⟨zw, zA, zn, zc, zb, zB, zm, zk⟩ ns ns2 y y2 w5 K K2 R1 (hns.below B5) (hns2.below B5) (hyb.below B5) (hyb2.below B5) hs.bo.1
          ⟨by have := hs.ca; simp only [Fo.count] at this; omega, by have := hs.cb; simp only [Fo.count] at this; omega, hs.oa.2.1, hs.ob.2.1⟩ ⟨hs.oa.1, hs.ob.1⟩ hR1)
        have HNo := hid (show R1 = false → R = false from fun e => by
          rw [← HR.out, hs.eq, decide_eq_false_iff_not]
          rw [← hR1, decide_eq_false_iff_not] at e
          intro e2
          injection e2 with e1 e2 e3 e4 e5
          exact e ⟨e1, e2, e3, e4⟩)
        have HYes := hid (show R1 = true → ∀ w6, Below w.heap.size w w6 → SmI w w6 K K2 xs ys f h 25 (i + 1) nx nx2 from fun e w6 b6 => by
          rw [← hR1, decide_eq_true_eq] at e
          obtain ⟨e1, e2, e3, e4⟩ := e
          exact ⟨by rw [hs.eq, e1, e2, e3, e4]; simp, hs.bo.2, hnx, hnx2, by have := hs.ca; simp only [Fo.count] at this; omega, by have := hs.cb; simp only [Fo.count] at this; omega, hs.oa.2.2, hs.ob.2.2, b6⟩)
        clear hs hns hns2 hyb hyb2 hnx hnx2 hcell hcell2 hb S0 HX HY HR hR1
        cases R1 with
        | false =>
          have HD := hid (HNo.out rfl)
          clear HNo HYes
          go_wp2_with (first
            | (go_at_call 47; refine (HC.out w5 (BW.out.trans (B5.out.mono BW.out.size))).mono ?_; rintro e w6 ⟨rfl, b6⟩; have B6 := hid (BW.out.trans ((B5.out.trans (b6.mono B5.out.size)).mono BW.out.size)); clear b6)
            | (refine Sh.wp_ld smS rfl (.tmp 8) rfl rfl V4'.out.1 ?_)
            | (refine Sh.wp_ld smS rfl (.tmp 9) rfl rfl V5.out.1 ?_)
            | (refine Sh.wp_sv smS (x := ⟨zw, zA, zn, zc, zb, zB, zm, zk⟩) rfl (.tmp 9) (.tmp 25) rfl rfl (by rfl) q4 ?_; intro w5 q5 b5 o5 s5; have V4' := hid (V4.out.below b5 (by have := L4.out; omega)); have V5 := hid q5; have B5 := hid (B4.out.trans (b5.mono (by have := L4.out; omega))); clear q5 b5 o5 s5 q4)
            | (refine Sh.wp_al smS rfl rfl ?_; intro w4 q4 b4 s4; have L4 := hid (V3.out.lt); have V4 := hid (V3.out.keep b4); have B4 := hid (B3.out.trans (b4.mono B3.out.size)); clear b4 s4)
            | (refine Sh.wp_ld smS rfl (.tmp 24) rfl rfl r2' ?_)
            | (refine Sh.wp_sv smS (x := ⟨xw, xA, xn, xc, xb, xB, xm, xk⟩) rfl (.tmp 8) (.tmp 21) rfl rfl (by rfl) q2 ?_; intro w3 q3 b3 o3 s3; have V3 := hid q3; have B3 := hid (B2.out.trans (b3.mono (Nat.le_refl _))); have r2' := range_keep r2 hb2 (B2.out.trans (b3.mono (Nat.le_refl _))); clear q3 b3 o3 s3 q2)
            | (refine Sh.wp_al smS rfl rfl ?_; intro w2 q2 b2 s2; have B2 := hid b2; clear b2 s2)
            | (refine Sh.wp_ld smS rfl (.tmp 20) rfl rfl r1 ?_))
          go_ret
          exact ⟨ret_bool HD.out.symm, B6.out⟩
        | true =>
          have HD := hid (HYes.out rfl)
          clear HNo HYes
          go_wp2_with (first
            | (go_at_call 47; refine (HC.out w5 (BW.out.trans (B5.out.mono BW.out.size))).mono ?_; rintro e w6 ⟨rfl, b6⟩; have B6 := hid (BW.out.trans ((B5.out.trans (b6.mono B5.out.size)).mono BW.out.size)); clear b6)
            | (refine Sh.wp_ld smS rfl (.tmp 8) rfl rfl V4'.out.1 ?_)
            | (refine Sh.wp_ld smS rfl (.tmp 9) rfl rfl V5.out.1 ?_)
            | (refine Sh.wp_sv smS (x := ⟨zw, zA, zn, zc, zb, zB, zm, zk⟩) rfl (.tmp 9) (.tmp 25) rfl rfl (by rfl) q4 ?_; intro w5 q5 b5 o5 s5; have V4' := hid (V4.out.below b5 (by have := L4.out; omega)); have V5 := hid q5; have B5 := hid (B4.out.trans (b5.mono (by have := L4.out; omega))); clear q5 b5 o5 s5 q4)
            | (refine Sh.wp_al smS rfl rfl ?_; intro w4 q4 b4 s4; have L4 := hid (V3.out.lt); have V4 := hid (V3.out.keep b4); have B4 := hid (B3.out.trans (b4.mono B3.out.size)); clear b4 s4)
            | (refine Sh.wp_ld smS rfl (.tmp 24) rfl rfl r2' ?_)
            | (refine Sh.wp_sv smS (x := ⟨xw, xA, xn, xc, xb, xB, xm, xk⟩) rfl (.tmp 8) (.tmp 21) rfl rfl (by rfl) q2 ?_; intro w3 q3 b3 o3 s3; have V3 := hid q3; have B3 := hid (B2.out.trans (b3.mono (Nat.le_refl _))); have r2' := range_keep r2 hb2 (B2.out.trans (b3.mono (Nat.le_refl _))); clear q3 b3 o3 s3 q2)
            | (refine Sh.wp_al smS rfl rfl ?_; intro w2 q2 b2 s2; have B2 := hid b2; clear b2 s2)
            | (refine Sh.wp_ld smS rfl (.tmp 20) rfl rfl r1 ?_))
          go_roundw
          case rel => exact ⟨i + 1, nx, nx2, by go_num, by omega, HD.out _ B6.out⟩
          case measure => simp [intOf]; omega
      · obtain rfl : i = n := by omega
        have hr := hs.ta.done (by rw [HX.out.1]; exact Nat.le_refl _)
        have hq := hs.tb.done (by rw [HY.out.1]; exact Nat.le_refl _)
        have HD := hid (show R = true by rw [← HR.out, hs.eq, hr, hq]; rfl)
        have BW := hid hs.bl
        clear hs hr hq
        go_wp2
        go_ret
        exact ⟨ret_bool HD.out.symm, BW.out⟩
  · have HD := hid (show R = false by
      rw [← HR.out, decide_eq_false_iff_not]
      rintro rfl
      exact hnn (by rw [← L1, ← L2]))
    have hne : ((n : Int) == (n2 : Int)) = false := beq_eq_false_iff_ne.2 (by omega)
    clear hx hy hf htr htr2 hc hc2 ho ho2 L1 L2
    go_enter Tryz.func46, Tryz.ntmps46
    go_wp2
    go_ret
    exact ⟨ret_bool HD.out.symm, Below.refl _ _⟩
theorem psame_step (f : Fo) (hf : f.Bodies (SameSaid 25)) : SameSaid 25 f := by
  intro h w K K2 A A2 n c n2 c2 ht ht2 hc hc2 ho ho2
  have HE := hid (eqF_step f hf h w K K2 A A2 n c n2 c2 ht ht2 hc hc2 ho ho2)
  clear hf ht ht2 hc hc2 ho ho2
  go_enter Tryz.func25, Tryz.ntmps25
  go_wp2_with (first
    | (go_at_call 46; refine HE.out.mono ?_; rintro e w1 ⟨rfl, b1⟩; have B1 := hid b1; clear b1))
  go_ret
  exact ⟨rfl, B1.out⟩
theorem psame_any (f : Fo) : SameSaid 25 f := (Fo.ind psame_step f).1
end Go.Proofs.YtkfnkieljcipnaaGreatDoor
