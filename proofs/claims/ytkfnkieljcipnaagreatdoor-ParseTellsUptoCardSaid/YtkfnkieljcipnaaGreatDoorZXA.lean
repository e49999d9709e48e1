/-
  Contract of the document's own each (whether each statement may be by itself), at forests each level of which has at most a million statements, of words and numbers of at most a million.
-/
import Derived.Test.YtkfnkieljcipnaaGreatDoorZWN
import Derived.Test.YtkfnkieljcipnaaGreatDoorZMB
namespace Go.Proofs.YtkfnkieljcipnaaGreatDoor
open Go Go.RowKit Go.Joins

def Fo.eachB : Fo → Bool
  | nil => true
  | cons wd ns bl y n => ((((wordB wd && decide (ns.length ≤ 8)) && (bl || decide (y.len = 0))) && y.eachB) && !(ns.any farB)) && n.eachB
def EachSaid (f : Fo) : Prop := ∀ (w : World) (K : Nat → Prop) (A : Option Addr) (n c : Nat), TrS w K A n f → f.okL → f.okS → Calls Tryz.prog 45 #[.slice A n c] w fun e w' => e = .returned (.bool f.eachB) ∧ Below w.heap.size w w'
set_option maxHeartbeats 8000000 in
set_option maxRecDepth 100000 in
theorem each_step (f : Fo) (hf : f.Bodies EachSaid) : EachSaid f := by
  intro w K A n c ht hL hS
  obtain ⟨xs, hx, htr⟩ := ht
  have HX := hid hx
  have L1 : f.len = n := by rw [← htr.len, hx.1]
  have hn : (n : Int) ≤ 1000000 := by have := hL.1; omega
  have S0 := hid (And.intro hf (And.intro htr (And.intro hL.2 hS)))
  obtain ⟨R, hR⟩ : ∃ R, f.eachB = R := ⟨_, rfl⟩
  rw [hR]
  have HR := hid hR
  clear hR hx hf htr hL hS L1
  go_enter Tryz.func45, Tryz.ntmps45
  go_wp2
  go_loopw [9] (fun v9 wr => ∃ (i : Nat) (r : Fo), v9 = .int .i64 (i : Nat) ∧ i ≤ n ∧ r.eachB = R ∧ r.Bodies EachSaid ∧ Tr w K r (xs.drop i) ∧ r.okB ∧ r.okS ∧ Below w.heap.size w wr) (fun v9 _ => n - (intOf v9).toNat)
  case atStart => exact ⟨0, f, rfl, Nat.zero_le _, HR.out, S0.out.1, by simpa using S0.out.2.1, S0.out.2.2.1, S0.out.2.2.2, Below.refl _ _⟩
  case round =>
    obtain ⟨i, r, rfl, hi, hr, hbo, htr, hob, hos, hbel⟩ := hrel
    have BW := hid hbel
    by_cases hlt : i < n
    · obtain ⟨wd, ns, bl, y, nx, rfl, e1, e2, hns, hyb, hnx⟩ := htr.step (by rw [HX.out.1]; exact hlt)
      obtain ⟨b, o, rfl, hb, hcell⟩ := (HX.out.size.below hbel).at_ hlt
      generalize smS.nth xs i = x at *
      obtain ⟨xw, xA, xn, xc, xb, xB, xm, xk⟩ := x
      simp only at e1 e2 hns hyb
      subst e1 e2
      have r1 : wr.rangeAt b (o + i * 4) (smS.enc ⟨xw, xA, xn, xc, xb, xB, xm, xk⟩) := hcell
      have HW := hid (fun w1 => by have := rword_any (strB xw) w1 (by show xw.length ≤ _; have := hos.1; omega); unfold WordPost at this; rwa [show (strB xw).data.toList = xw from rfl] at this)
      have HY := hid hbo.1
      have YT := hid hyb
      have NS := hid hns
      have HOK := hid (show y.okL ∧ y.okS from ⟨hob.1, hos.2.2.1⟩)
      have HNX := hid (show nx.Bodies EachSaid ∧ Tr w K nx (xs.drop (i + 1)) ∧ nx.okB ∧ nx.okS from ⟨hbo.2, hnx, hob.2, hos.2.2.2⟩)
      have HRR := hid hr
      have HBAD := hid (fun (h : (((((wordB xw && decide (ns.length ≤ 8)) && (xb || decide (y.len = 0))) && y.eachB) && !(ns.any farB)) && nx.eachB) = false) => show R = false by rw [← HRR.out]; exact h)
      have HGD := hid (fun (h : ((((wordB xw && decide (ns.length ≤ 8)) && (xb || decide (y.len = 0))) && y.eachB) && !(ns.any farB)) = true) => show nx.eachB = R by rw [← HRR.out]; simp only [Fo.eachB]; rw [h, Bool.true_and])
      have hxn : (xn : Int) ≤ 1000000 := by have := hos.2.1; have := hns.1; omega
      have hxm : (xm : Int) ≤ 1000000 := by have := hob.1.1; have := hyb.len; omega
      clear hcell hbel hr hbo htr hob hos hns hyb hnx hb
      cases xb with
      | true =>
          by_cases hw : wordB xw = false
          · rw [hw] at HW
            have HV := hid (show false = R from (HBAD.out (by simp [hw])).symm)
            clear hw
            go_upto_region 4 with (first
              | (refine Sh.wp_sv smS (x := ⟨xw, xA, xn, xc, true, xB, xm, xk⟩) rfl (.tmp 4) (.tmp 12) rfl rfl (by rfl) q2 ?_; intro w3 q3 b3 o3 s3; have c0 : w3.cell? ⟨wr.heap.size, 0, none⟩ = some (.string (strB xw)) := q3.cell (j := 0) rfl; have c1 : w3.cell? ⟨wr.heap.size, 1, none⟩ = some (.slice xA xn xc) := q3.cell (j := 1) rfl; have c2 : w3.cell? ⟨wr.heap.size, 2, none⟩ = some (.bool true) := q3.cell (j := 2) rfl; have c3 : w3.cell? ⟨wr.heap.size, 3, none⟩ = some (.slice xB xm xk) := q3.cell (j := 3) rfl; have V3 := hid q3; have B3 := hid (BW.out.trans ((B2.out.trans (b3.mono (Nat.le_refl _))).mono BW.out.size)); clear q3 b3 o3 s3 q2)
              | (refine Sh.wp_al smS rfl rfl ?_; intro w2 q2 b2 s2; have B2 := hid b2; clear b2 s2)
              | (refine Sh.wp_ld smS rfl (.tmp 11) rfl rfl r1 ?_))
            go_wp2_with (first
              | (go_at_call 70; refine (HW.out w3).mono ?_; rintro e w4 ⟨rfl, e4⟩; have B4 := hid (B3.out.trans (e4.mono B3.out.size)); have V4 := hid (V3.out.keep e4); have c1 : w4.cell? ⟨wr.heap.size, 1, none⟩ = some (.slice xA xn xc) := V4.out.cell (j := 1) rfl; have c2 : w4.cell? ⟨wr.heap.size, 2, none⟩ = some (.bool true) := V4.out.cell (j := 2) rfl; have c3 : w4.cell? ⟨wr.heap.size, 3, none⟩ = some (.slice xB xm xk) := V4.out.cell (j := 3) rfl; clear e4))
            go_ret
            exact ⟨ret_bool HV.out, B4.out⟩
          have hw : wordB xw = true := by simpa using hw
          rw [hw] at HW
          by_cases hxn8 : (8 : Int) < xn
          · have HV := hid (show false = R from (HBAD.out (by have : ¬ ns.length ≤ 8 := by rw [NS.out.1]; omega
                                                              simp [this])).symm)
            go_upto_region 4 with (first
              | (refine Sh.wp_sv smS (x := ⟨xw, xA, xn, xc, true, xB, xm, xk⟩) rfl (.tmp 4) (.tmp 12) rfl rfl (by rfl) q2 ?_; intro w3 q3 b3 o3 s3; have c0 : w3.cell? ⟨wr.heap.size, 0, none⟩ = some (.string (strB xw)) := q3.cell (j := 0) rfl; have c1 : w3.cell? ⟨wr.heap.size, 1, none⟩ = some (.slice xA xn xc) := q3.cell (j := 1) rfl; have c2 : w3.cell? ⟨wr.heap.size, 2, none⟩ = some (.bool true) := q3.cell (j := 2) rfl; have c3 : w3.cell? ⟨wr.heap.size, 3, none⟩ = some (.slice xB xm xk) := q3.cell (j := 3) rfl; have V3 := hid q3; have B3 := hid (BW.out.trans ((B2.out.trans (b3.mono (Nat.le_refl _))).mono BW.out.size)); clear q3 b3 o3 s3 q2)
              | (refine Sh.wp_al smS rfl rfl ?_; intro w2 q2 b2 s2; have B2 := hid b2; clear b2 s2)
              | (refine Sh.wp_ld smS rfl (.tmp 11) rfl rfl r1 ?_))
            go_wp2_with (first
              | (go_at_call 70; refine (HW.out w3).mono ?_; rintro e w4 ⟨rfl, e4⟩; have B4 := hid (B3.out.trans (e4.mono B3.out.size)); have V4 := hid (V3.out.keep e4); have c1 : w4.cell? ⟨wr.heap.size, 1, none⟩ = some (.slice xA xn xc) := V4.out.cell (j := 1) rfl; have c2 : w4.cell? ⟨wr.heap.size, 2, none⟩ = some (.bool true) := V4.out.cell (j := 2) rfl; have c3 : w4.cell? ⟨wr.heap.size, 3, none⟩ = some (.slice xB xm xk) := V4.out.cell (j := 3) rfl; clear e4))
            go_ret
            exact ⟨ret_bool HV.out, B4.out⟩
          obtain ⟨b4, hb4⟩ : ∃ b4, y.eachB = b4 := ⟨_, rfl⟩
          cases b4 with
          | false =>
            have HV := hid (show false = R from (HBAD.out (by simp [hb4])).symm)
            go_upto_region 4 with (first
              | (refine Sh.wp_sv smS (x := ⟨xw, xA, xn, xc, true, xB, xm, xk⟩) rfl (.tmp 4) (.tmp 12) rfl rfl (by rfl) q2 ?_; intro w3 q3 b3 o3 s3; have c0 : w3.cell? ⟨wr.heap.size, 0, none⟩ = some (.string (strB xw)) := q3.cell (j := 0) rfl; have c1 : w3.cell? ⟨wr.heap.size, 1, none⟩ = some (.slice xA xn xc) := q3.cell (j := 1) rfl; have c2 : w3.cell? ⟨wr.heap.size, 2, none⟩ = some (.bool true) := q3.cell (j := 2) rfl; have c3 : w3.cell? ⟨wr.heap.size, 3, none⟩ = some (.slice xB xm xk) := q3.cell (j := 3) rfl; have V3 := hid q3; have B3 := hid (BW.out.trans ((B2.out.trans (b3.mono (Nat.le_refl _))).mono BW.out.size)); clear q3 b3 o3 s3 q2)
              | (refine Sh.wp_al smS rfl rfl ?_; intro w2 q2 b2 s2; have B2 := hid b2; clear b2 s2)
              | (refine Sh.wp_ld smS rfl (.tmp 11) rfl rfl r1 ?_))
            go_wp2_with (first
              | (go_at_call 45; have h9 := HY.out w4 K xB xm xk (YT.out.below B4.out) HOK.out.1 HOK.out.2; rw [hb4] at h9; (with_reducible refine h9.mono ?_); rintro e w5 ⟨rfl, b5⟩; have B5 := hid (B4.out.trans (b5.mono B4.out.size)); have V5 := hid (V4.out.keep b5); have c1 : w5.cell? ⟨wr.heap.size, 1, none⟩ = some (.slice xA xn xc) := V5.out.cell (j := 1) rfl; clear b5)
              | (go_at_call 70; refine (HW.out w3).mono ?_; rintro e w4 ⟨rfl, e4⟩; have B4 := hid (B3.out.trans (e4.mono B3.out.size)); have V4 := hid (V3.out.keep e4); have c1 : w4.cell? ⟨wr.heap.size, 1, none⟩ = some (.slice xA xn xc) := V4.out.cell (j := 1) rfl; have c2 : w4.cell? ⟨wr.heap.size, 2, none⟩ = some (.bool true) := V4.out.cell (j := 2) rfl; have c3 : w4.cell? ⟨wr.heap.size, 3, none⟩ = some (.slice xB xm xk) := V4.out.cell (j := 3) rfl; clear e4))
            go_ret
            exact ⟨ret_bool HV.out, B5.out⟩
          | true =>
            have HGOOD := hid (fun (ha : ns.any farB = false) => HGD.out (by rw [hw, hb4, ha, decide_eq_true (show ns.length ≤ 8 by rw [NS.out.1]; omega)]; simp))
            go_upto_region 4 with (first
              | (refine Sh.wp_sv smS (x := ⟨xw, xA, xn, xc, true, xB, xm, xk⟩) rfl (.tmp 4) (.tmp 12) rfl rfl (by rfl) q2 ?_; intro w3 q3 b3 o3 s3; have c0 : w3.cell? ⟨wr.heap.size, 0, none⟩ = some (.string (strB xw)) := q3.cell (j := 0) rfl; have c1 : w3.cell? ⟨wr.heap.size, 1, none⟩ = some (.slice xA xn xc) := q3.cell (j := 1) rfl; have c2 : w3.cell? ⟨wr.heap.size, 2, none⟩ = some (.bool true) := q3.cell (j := 2) rfl; have c3 : w3.cell? ⟨wr.heap.size, 3, none⟩ = some (.slice xB xm xk) := q3.cell (j := 3) rfl; have V3 := hid q3; have B3 := hid (BW.out.trans ((B2.out.trans (b3.mono (Nat.le_refl _))).mono BW.out.size)); clear q3 b3 o3 s3 q2)
              | (refine Sh.wp_al smS rfl rfl ?_; intro w2 q2 b2 s2; have B2 := hid b2; clear b2 s2)
              | (refine Sh.wp_ld smS rfl (.tmp 11) rfl rfl r1 ?_))
            go_wp2_with (first
              | (go_at_call 45; have h9 := HY.out w4 K xB xm xk (YT.out.below B4.out) HOK.out.1 HOK.out.2; rw [hb4] at h9; (with_reducible refine h9.mono ?_); rintro e w5 ⟨rfl, b5⟩; have B5 := hid (B4.out.trans (b5.mono B4.out.size)); have V5 := hid (V4.out.keep b5); have c1 : w5.cell? ⟨wr.heap.size, 1, none⟩ = some (.slice xA xn xc) := V5.out.cell (j := 1) rfl; clear b5)
              | (go_at_call 70; refine (HW.out w3).mono ?_; rintro e w4 ⟨rfl, e4⟩; have B4 := hid (B3.out.trans (e4.mono B3.out.size)); have V4 := hid (V3.out.keep e4); have c1 : w4.cell? ⟨wr.heap.size, 1, none⟩ = some (.slice xA xn xc) := V4.out.cell (j := 1) rfl; have c2 : w4.cell? ⟨wr.heap.size, 2, none⟩ = some (.bool true) := V4.out.cell (j := 2) rfl; have c3 : w4.cell? ⟨wr.heap.size, 3, none⟩ = some (.slice xB xm xk) := V4.out.cell (j := 3) rfl; clear e4))
            have HXN := hid hxn8
            go_loopw [43] (fun v43 wi => ∃ k : Nat, v43 = .int .i64 (k : Int) ∧ k ≤ xn ∧ (ns.take k).any farB = false ∧ Below w5.heap.size w5 wi) (fun v43 _ => xn - (intOf v43).toNat)
            case atStart => exact ⟨0, rfl, Nat.zero_le _, rfl, Below.refl _ _⟩
            case round =>
              obtain ⟨k, rfl, hk, hany, hbi⟩ := hrel
              have BI := hid hbi
              have HAN := hid hany
              by_cases hkl : k < xn
              · have hbw : Below w.heap.size w wr := B5.out.trans (hbi.mono B5.out.size)
                obtain ⟨b2, o2, rfl, _, hc⟩ := (NS.out.below hbw).size.at_ hkl
                have hg : ns[k]? = some (nmS.nth ns k) := Sh.nth_get nmS (by rw [NS.out.1]; exact hkl)
                have HT := hid (show ns.take (k + 1) = ns.take k ++ [nmS.nth ns k] by rw [List.take_add_one, hg]; rfl)
                have HIN := hid (List.mem_of_getElem? hg)
                generalize nmS.nth ns k = z at *
                obtain ⟨z1, z2⟩ := z
                have r2 : wr.rangeAt b2 (o2 + k * 2) (nmS.enc (z1, z2)) := hc
                clear hc hg hbi hany hbw
                by_cases hbig : (1000000000000000000 : Int) ≤ z1
                · have HV := hid (HBAD.out (by simp only [Bool.and_eq_false_iff]; left; right; rw [Bool.not_eq_false']; exact List.any_eq_true.2 ⟨_, HIN.out, by simp [farB, hbig]⟩))
                  have hsm : ¬ z1 < 1000000000000000000 := by omega
                  go_upto_region 9 with (first
                    | (refine Sh.wp_sv nmS (x := (z1, z2)) rfl (.tmp 6) (.tmp 46) rfl rfl (by rfl) q6 ?_; intro w7 q7 b7 o7 s7; have d0 : w7.cell? ⟨wr.heap.size, 0, none⟩ = some (.int .i64 z1) := q7.cell (j := 0) rfl; have B7 := hid (B5.out.trans ((BI.out.trans ((B6.out.trans (b7.mono (Nat.le_refl _))).mono BI.out.size)).mono B5.out.size)); clear q7 b7 o7 s7 q6)
                    | (refine Sh.wp_al nmS rfl rfl ?_; intro w6 q6 b6 s6; have B6 := hid b6; clear b6 s6)
                    | (refine Sh.wp_ld nmS rfl (.tmp 45) rfl rfl r2 ?_))
                  go_wp2_with fail
                  go_ret
                  exact ⟨ret_bool HV.out.symm, B7.out⟩
                by_cases hsml : z1 ≤ (-1000000000000000000 : Int)
                · have HV := hid (HBAD.out (by simp only [Bool.and_eq_false_iff]; left; right; rw [Bool.not_eq_false']; exact List.any_eq_true.2 ⟨_, HIN.out, by simp [farB, hsml]⟩))
                  go_upto_region 9 with (first
                    | (refine Sh.wp_sv nmS (x := (z1, z2)) rfl (.tmp 6) (.tmp 46) rfl rfl (by rfl) q6 ?_; intro w7 q7 b7 o7 s7; have d0 : w7.cell? ⟨wr.heap.size, 0, none⟩ = some (.int .i64 z1) := q7.cell (j := 0) rfl; have B7 := hid (B5.out.trans ((BI.out.trans ((B6.out.trans (b7.mono (Nat.le_refl _))).mono BI.out.size)).mono B5.out.size)); clear q7 b7 o7 s7 q6)
                    | (refine Sh.wp_al nmS rfl rfl ?_; intro w6 q6 b6 s6; have B6 := hid b6; clear b6 s6)
                    | (refine Sh.wp_ld nmS rfl (.tmp 45) rfl rfl r2 ?_))
                  go_wp2_with fail
                  go_ret
                  exact ⟨ret_bool HV.out.symm, B7.out⟩
                have HN2 := hid (show (ns.take (k + 1)).any farB = false by rw [HT.out, List.any_append, HAN.out]; simp [farB]; omega)
                go_upto_region 9 with (first
                  | (refine Sh.wp_sv nmS (x := (z1, z2)) rfl (.tmp 6) (.tmp 46) rfl rfl (by rfl) q6 ?_; intro w7 q7 b7 o7 s7; have d0 : w7.cell? ⟨wr.heap.size, 0, none⟩ = some (.int .i64 z1) := q7.cell (j := 0) rfl; have B7 := hid (BI.out.trans ((B6.out.trans (b7.mono (Nat.le_refl _))).mono BI.out.size)); clear q7 b7 o7 s7 q6)
                  | (refine Sh.wp_al nmS rfl rfl ?_; intro w6 q6 b6 s6; have B6 := hid b6; clear b6 s6)
                  | (refine Sh.wp_ld nmS rfl (.tmp 45) rfl rfl r2 ?_))
                go_wp2_with fail
                go_roundw
                case rel => exact ⟨k + 1, by go_num, by omega, HN2.out, B7.out⟩
                case measure => simp [intOf]; omega
              · obtain rfl : k = xn := by omega
                rw [List.take_of_length_le (by rw [NS.out.1]; exact Nat.le_refl _)] at hany
                have HG := hid (HGOOD.out hany)
                clear hbi hany HAN
                go_wp2
                exact ⟨⟨i + 1, nx, by go_num, by omega, HG.out, HNX.out.1, HNX.out.2.1, HNX.out.2.2.1, HNX.out.2.2.2, B5.out.trans (BI.out.mono B5.out.size)⟩, by simp [intOf]; omega⟩
      | false =>
          by_cases hw : wordB xw = false
          · rw [hw] at HW
            have HV := hid (show false = R from (HBAD.out (by simp [hw])).symm)
            clear hw
            go_upto_region 4 with (first
              | (refine Sh.wp_sv smS (x := ⟨xw, xA, xn, xc, false, xB, xm, xk⟩) rfl (.tmp 4) (.tmp 12) rfl rfl (by rfl) q2 ?_; intro w3 q3 b3 o3 s3; have c0 : w3.cell? ⟨wr.heap.size, 0, none⟩ = some (.string (strB xw)) := q3.cell (j := 0) rfl; have c1 : w3.cell? ⟨wr.heap.size, 1, none⟩ = some (.slice xA xn xc) := q3.cell (j := 1) rfl; have c2 : w3.cell? ⟨wr.heap.size, 2, none⟩ = some (.bool false) := q3.cell (j := 2) rfl; have c3 : w3.cell? ⟨wr.heap.size, 3, none⟩ = some (.slice xB xm xk) := q3.cell (j := 3) rfl; have V3 := hid q3; have B3 := hid (BW.out.trans ((B2.out.trans (b3.mono (Nat.le_refl _))).mono BW.out.size)); clear q3 b3 o3 s3 q2)
              | (refine Sh.wp_al smS rfl rfl ?_; intro w2 q2 b2 s2; have B2 := hid b2; clear b2 s2)
              | (refine Sh.wp_ld smS rfl (.tmp 11) rfl rfl r1 ?_))
            go_wp2_with (first
              | (go_at_call 70; refine (HW.out w3).mono ?_; rintro e w4 ⟨rfl, e4⟩; have B4 := hid (B3.out.trans (e4.mono B3.out.size)); have V4 := hid (V3.out.keep e4); have c1 : w4.cell? ⟨wr.heap.size, 1, none⟩ = some (.slice xA xn xc) := V4.out.cell (j := 1) rfl; have c2 : w4.cell? ⟨wr.heap.size, 2, none⟩ = some (.bool false) := V4.out.cell (j := 2) rfl; have c3 : w4.cell? ⟨wr.heap.size, 3, none⟩ = some (.slice xB xm xk) := V4.out.cell (j := 3) rfl; clear e4))
            go_ret
            exact ⟨ret_bool HV.out, B4.out⟩
          have hw : wordB xw = true := by simpa using hw
          rw [hw] at HW
          by_cases hxn8 : (8 : Int) < xn
          · have HV := hid (show false = R from (HBAD.out (by have : ¬ ns.length ≤ 8 := by rw [NS.out.1]; omega
                                                              simp [this])).symm)
            go_upto_region 4 with (first
              | (refine Sh.wp_sv smS (x := ⟨xw, xA, xn, xc, false, xB, xm, xk⟩) rfl (.tmp 4) (.tmp 12) rfl rfl (by rfl) q2 ?_; intro w3 q3 b3 o3 s3; have c0 : w3.cell? ⟨wr.heap.size, 0, none⟩ = some (.string (strB xw)) := q3.cell (j := 0) rfl; have c1 : w3.cell? ⟨wr.heap.size, 1, none⟩ = some (.slice xA xn xc) := q3.cell (j := 1) rfl; have c2 : w3.cell? ⟨wr.heap.size, 2, none⟩ = some (.bool false) := q3.cell (j := 2) rfl; have c3 : w3.cell? ⟨wr.heap.size, 3, none⟩ = some (.slice xB xm xk) := q3.cell (j := 3) rfl; have V3 := hid q3; have B3 := hid (BW.out.trans ((B2.out.trans (b3.mono (Nat.le_refl _))).mono BW.out.size)); clear q3 b3 o3 s3 q2)
              | (refine Sh.wp_al smS rfl rfl ?_; intro w2 q2 b2 s2; have B2 := hid b2; clear b2 s2)
              | (refine Sh.wp_ld smS rfl (.tmp 11) rfl rfl r1 ?_))
            go_wp2_with (first
              | (go_at_call 70; refine (HW.out w3).mono ?_; rintro e w4 ⟨rfl, e4⟩; have B4 := hid (B3.out.trans (e4.mono B3.out.size)); have V4 := hid (V3.out.keep e4); have c1 : w4.cell? ⟨wr.heap.size, 1, none⟩ = some (.slice xA xn xc) := V4.out.cell (j := 1) rfl; have c2 : w4.cell? ⟨wr.heap.size, 2, none⟩ = some (.bool false) := V4.out.cell (j := 2) rfl; have c3 : w4.cell? ⟨wr.heap.size, 3, none⟩ = some (.slice xB xm xk) := V4.out.cell (j := 3) rfl; clear e4))
            go_ret
            exact ⟨ret_bool HV.out, B4.out⟩
          by_cases hxm : (0 : Int) < xm
          · have HV := hid (show false = R from (HBAD.out (by have : ¬ y.len = 0 := by rw [← YT.out.len]; omega
                                                              simp [this])).symm)
            go_upto_region 4 with (first
              | (refine Sh.wp_sv smS (x := ⟨xw, xA, xn, xc, false, xB, xm, xk⟩) rfl (.tmp 4) (.tmp 12) rfl rfl (by rfl) q2 ?_; intro w3 q3 b3 o3 s3; have c0 : w3.cell? ⟨wr.heap.size, 0, none⟩ = some (.string (strB xw)) := q3.cell (j := 0) rfl; have c1 : w3.cell? ⟨wr.heap.size, 1, none⟩ = some (.slice xA xn xc) := q3.cell (j := 1) rfl; have c2 : w3.cell? ⟨wr.heap.size, 2, none⟩ = some (.bool false) := q3.cell (j := 2) rfl; have c3 : w3.cell? ⟨wr.heap.size, 3, none⟩ = some (.slice xB xm xk) := q3.cell (j := 3) rfl; have V3 := hid q3; have B3 := hid (BW.out.trans ((B2.out.trans (b3.mono (Nat.le_refl _))).mono BW.out.size)); clear q3 b3 o3 s3 q2)
              | (refine Sh.wp_al smS rfl rfl ?_; intro w2 q2 b2 s2; have B2 := hid b2; clear b2 s2)
              | (refine Sh.wp_ld smS rfl (.tmp 11) rfl rfl r1 ?_))
            go_wp2_with (first
              | (go_at_call 70; refine (HW.out w3).mono ?_; rintro e w4 ⟨rfl, e4⟩; have B4 := hid (B3.out.trans (e4.mono B3.out.size)); have V4 := hid (V3.out.keep e4); have c1 : w4.cell? ⟨wr.heap.size, 1, none⟩ = some (.slice xA xn xc) := V4.out.cell (j := 1) rfl; have c2 : w4.cell? ⟨wr.heap.size, 2, none⟩ = some (.bool false) := V4.out.cell (j := 2) rfl; have c3 : w4.cell? ⟨wr.heap.size, 3, none⟩ = some (.slice xB xm xk) := V4.out.cell (j := 3) rfl; clear e4))
            go_ret
            exact ⟨ret_bool HV.out, B4.out⟩
          obtain rfl : xm = 0 := by omega
          obtain ⟨b4, hb4⟩ : ∃ b4, y.eachB = b4 := ⟨_, rfl⟩
          cases b4 with
          | false =>
            have HV := hid (show false = R from (HBAD.out (by simp [hb4])).symm)
            go_upto_region 4 with (first
              | (refine Sh.wp_sv smS (x := ⟨xw, xA, xn, xc, false, xB, 0, xk⟩) rfl (.tmp 4) (.tmp 12) rfl rfl (by rfl) q2 ?_; intro w3 q3 b3 o3 s3; have c0 : w3.cell? ⟨wr.heap.size, 0, none⟩ = some (.string (strB xw)) := q3.cell (j := 0) rfl; have c1 : w3.cell? ⟨wr.heap.size, 1, none⟩ = some (.slice xA xn xc) := q3.cell (j := 1) rfl; have c2 : w3.cell? ⟨wr.heap.size, 2, none⟩ = some (.bool false) := q3.cell (j := 2) rfl; have c3 : w3.cell? ⟨wr.heap.size, 3, none⟩ = some (.slice xB 0 xk) := q3.cell (j := 3) rfl; have V3 := hid q3; have B3 := hid (BW.out.trans ((B2.out.trans (b3.mono (Nat.le_refl _))).mono BW.out.size)); clear q3 b3 o3 s3 q2)
              | (refine Sh.wp_al smS rfl rfl ?_; intro w2 q2 b2 s2; have B2 := hid b2; clear b2 s2)
              | (refine Sh.wp_ld smS rfl (.tmp 11) rfl rfl r1 ?_))
            go_wp2_with (first
              | (go_at_call 45; have h9 := HY.out w4 K xB 0 xk (YT.out.below B4.out) HOK.out.1 HOK.out.2; rw [hb4] at h9; (with_reducible refine h9.mono ?_); rintro e w5 ⟨rfl, b5⟩; have B5 := hid (B4.out.trans (b5.mono B4.out.size)); have V5 := hid (V4.out.keep b5); have c1 : w5.cell? ⟨wr.heap.size, 1, none⟩ = some (.slice xA xn xc) := V5.out.cell (j := 1) rfl; clear b5)
              | (go_at_call 70; refine (HW.out w3).mono ?_; rintro e w4 ⟨rfl, e4⟩; have B4 := hid (B3.out.trans (e4.mono B3.out.size)); have V4 := hid (V3.out.keep e4); have c1 : w4.cell? ⟨wr.heap.size, 1, none⟩ = some (.slice xA xn xc) := V4.out.cell (j := 1) rfl; have c2 : w4.cell? ⟨wr.heap.size, 2, none⟩ = some (.bool false) := V4.out.cell (j := 2) rfl; have c3 : w4.cell? ⟨wr.heap.size, 3, none⟩ = some (.slice xB 0 xk) := V4.out.cell (j := 3) rfl; clear e4))
            go_ret
            exact ⟨ret_bool HV.out, B5.out⟩
          | true =>
            have HGOOD := hid (fun (ha : ns.any farB = false) => HGD.out (by rw [hw, hb4, ha, decide_eq_true (show ns.length ≤ 8 by rw [NS.out.1]; omega)]; rw [decide_eq_true (show y.len = 0 from YT.out.len.symm)] <;> rfl))
            go_upto_region 4 with (first
              | (refine Sh.wp_sv smS (x := ⟨xw, xA, xn, xc, false, xB, 0, xk⟩) rfl (.tmp 4) (.tmp 12) rfl rfl (by rfl) q2 ?_; intro w3 q3 b3 o3 s3; have c0 : w3.cell? ⟨wr.heap.size, 0, none⟩ = some (.string (strB xw)) := q3.cell (j := 0) rfl; have c1 : w3.cell? ⟨wr.heap.size, 1, none⟩ = some (.slice xA xn xc) := q3.cell (j := 1) rfl; have c2 : w3.cell? ⟨wr.heap.size, 2, none⟩ = some (.bool false) := q3.cell (j := 2) rfl; have c3 : w3.cell? ⟨wr.heap.size, 3, none⟩ = some (.slice xB 0 xk) := q3.cell (j := 3) rfl; have V3 := hid q3; have B3 := hid (BW.out.trans ((B2.out.trans (b3.mono (Nat.le_refl _))).mono BW.out.size)); clear q3 b3 o3 s3 q2)
              | (refine Sh.wp_al smS rfl rfl ?_; intro w2 q2 b2 s2; have B2 := hid b2; clear b2 s2)
              | (refine Sh.wp_ld smS rfl (.tmp 11) rfl rfl r1 ?_))
            go_wp2_with (first
              | (go_at_call 45; have h9 := HY.out w4 K xB 0 xk (YT.out.below B4.out) HOK.out.1 HOK.out.2; rw [hb4] at h9; (with_reducible refine h9.mono ?_); rintro e w5 ⟨rfl, b5⟩; have B5 := hid (B4.out.trans (b5.mono B4.out.size)); have V5 := hid (V4.out.keep b5); have c1 : w5.cell? ⟨wr.heap.size, 1, none⟩ = some (.slice xA xn xc) := V5.out.cell (j := 1) rfl; clear b5)
              | (go_at_call 70; refine (HW.out w3).mono ?_; rintro e w4 ⟨rfl, e4⟩; have B4 := hid (B3.out.trans (e4.mono B3.out.size)); have V4 := hid (V3.out.keep e4); have c1 : w4.cell? ⟨wr.heap.size, 1, none⟩ = some (.slice xA xn xc) := V4.out.cell (j := 1) rfl; have c2 : w4.cell? ⟨wr.heap.size, 2, none⟩ = some (.bool false) := V4.out.cell (j := 2) rfl; have c3 : w4.cell? ⟨wr.heap.size, 3, none⟩ = some (.slice xB 0 xk) := V4.out.cell (j := 3) rfl; clear e4))
            have HXN := hid hxn8
            go_loopw [43] (fun v43 wi => ∃ k : Nat, v43 = .int .i64 (k : Int) ∧ k ≤ xn ∧ (ns.take k).any farB = false ∧ Below w5.heap.size w5 wi) (fun v43 _ => xn - (intOf v43).toNat)
            case atStart => exact ⟨0, rfl, Nat.zero_le _, rfl, Below.refl _ _⟩
            case round =>
              obtain ⟨k, rfl, hk, hany, hbi⟩ := hrel
              have BI := hid hbi
              have HAN := hid hany
              by_cases hkl : k < xn
              · have hbw : Below w.heap.size w wr := B5.out.trans (hbi.mono B5.out.size)
                obtain ⟨b2, o2, rfl, _, hc⟩ := (NS.out.below hbw).size.at_ hkl
                have hg : ns[k]? = some (nmS.nth ns k) := Sh.nth_get nmS (by rw [NS.out.1]; exact hkl)
                have HT := hid (show ns.take (k + 1) = ns.take k ++ [nmS.nth ns k] by rw [List.take_add_one, hg]; rfl)
                have HIN := hid (List.mem_of_getElem? hg)
                generalize nmS.nth ns k = z at *
                obtain ⟨z1, z2⟩ := z
                have r2 : wr.rangeAt b2 (o2 + k * 2) (nmS.enc (z1, z2)) := hc
                clear hc hg hbi hany hbw
                by_cases hbig : (1000000000000000000 : Int) ≤ z1
                · have HV := hid (HBAD.out (by simp only [Bool.and_eq_false_iff]; left; right; rw [Bool.not_eq_false']; exact List.any_eq_true.2 ⟨_, HIN.out, by simp [farB, hbig]⟩))
                  have hsm : ¬ z1 < 1000000000000000000 := by omega
                  go_upto_region 9 with (first
                    | (refine Sh.wp_sv nmS (x := (z1, z2)) rfl (.tmp 6) (.tmp 46) rfl rfl (by rfl) q6 ?_; intro w7 q7 b7 o7 s7; have d0 : w7.cell? ⟨wr.heap.size, 0, none⟩ = some (.int .i64 z1) := q7.cell (j := 0) rfl; have B7 := hid (B5.out.trans ((BI.out.trans ((B6.out.trans (b7.mono (Nat.le_refl _))).mono BI.out.size)).mono B5.out.size)); clear q7 b7 o7 s7 q6)
                    | (refine Sh.wp_al nmS rfl rfl ?_; intro w6 q6 b6 s6; have B6 := hid b6; clear b6 s6)
                    | (refine Sh.wp_ld nmS rfl (.tmp 45) rfl rfl r2 ?_))
                  go_wp2_with fail
                  go_ret
                  exact ⟨ret_bool HV.out.symm, B7.out⟩
                by_cases hsml : z1 ≤ (-1000000000000000000 : Int)
                · have HV := hid (HBAD.out (by simp only [Bool.and_eq_false_iff]; left; right; rw [Bool.not_eq_false']; exact List.any_eq_true.2 ⟨_, HIN.out, by simp [farB, hsml]⟩))
                  go_upto_region 9 with (first
                    | (refine Sh.wp_sv nmS (x := (z1, z2)) rfl (.tmp 6) (.tmp 46) rfl rfl (by rfl) q6 ?_; intro w7 q7 b7 o7 s7; have d0 : w7.cell? ⟨wr.heap.size, 0, none⟩ = some (.int .i64 z1) := q7.cell (j := 0) rfl; have B7 := hid (B5.out.trans ((BI.out.trans ((B6.out.trans (b7.mono (Nat.le_refl _))).mono BI.out.size)).mono B5.out.size)); clear q7 b7 o7 s7 q6)
                    | (refine Sh.wp_al nmS rfl rfl ?_; intro w6 q6 b6 s6; have B6 := hid b6; clear b6 s6)
                    | (refine Sh.wp_ld nmS rfl (.tmp 45) rfl rfl r2 ?_))
                  go_wp2_with fail
                  go_ret
                  exact ⟨ret_bool HV.out.symm, B7.out⟩
                have HN2 := hid (show (ns.take (k + 1)).any farB = false by rw [HT.out, List.any_append, HAN.out]; simp [farB]; omega)
                go_upto_region 9 with (first
                  | (refine Sh.wp_sv nmS (x := (z1, z2)) rfl (.tmp 6) (.tmp 46) rfl rfl (by rfl) q6 ?_; intro w7 q7 b7 o7 s7; have d0 : w7.cell? ⟨wr.heap.size, 0, none⟩ = some (.int .i64 z1) := q7.cell (j := 0) rfl; have B7 := hid (BI.out.trans ((B6.out.trans (b7.mono (Nat.le_refl _))).mono BI.out.size)); clear q7 b7 o7 s7 q6)
                  | (refine Sh.wp_al nmS rfl rfl ?_; intro w6 q6 b6 s6; have B6 := hid b6; clear b6 s6)
                  | (refine Sh.wp_ld nmS rfl (.tmp 45) rfl rfl r2 ?_))
                go_wp2_with fail
                go_roundw
                case rel => exact ⟨k + 1, by go_num, by omega, HN2.out, B7.out⟩
                case measure => simp [intOf]; omega
              · obtain rfl : k = xn := by omega
                rw [List.take_of_length_le (by rw [NS.out.1]; exact Nat.le_refl _)] at hany
                have HG := hid (HGOOD.out hany)
                clear hbi hany HAN
                go_wp2
                exact ⟨⟨i + 1, nx, by go_num, by omega, HG.out, HNX.out.1, HNX.out.2.1, HNX.out.2.2.1, HNX.out.2.2.2, B5.out.trans (BI.out.mono B5.out.size)⟩, by simp [intOf]; omega⟩
    · obtain rfl : i = n := by omega
      have hq := htr.done (by rw [HX.out.1]; exact Nat.le_refl _)
      subst hq
      have HV := hid (show true = R from hr)
      clear hr hbo htr hob hos hbel
      go_wp2
      go_ret
      exact ⟨ret_bool HV.out, BW.out⟩
theorem each_any (f : Fo) : EachSaid f := (Fo.ind each_step f).1
end Go.Proofs.YtkfnkieljcipnaaGreatDoor
