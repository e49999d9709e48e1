/-
  XA: Contract of the document's own each (whether each statement may be by itself), at forests each level of which has at most a million statements, of words and numbers of at most a million.
  SA: Contract of the document's own Count.
  SB: Contract of the document's own Depth.
  DG: Contracts of the document's own digits (palletref01.digits) and Digits (palletref14.Digits): a number's text.
  MT: The contract of the document's own Text (palletref14.Text), given those of its Digits and of palletref01.Text.
-/
import Derived.Test.YtpkoboohnbkpoaaGreatDoorK9
import Derived.Test.YtpkoboohnbkpoaaGreatDoorK6
import Derived.Test.YtpkoboohnbkpoaaGreatDoorK8
import Derived.Deep.RegionHeld3
import Derived.Deep.RegionWith
import Derived.IntWalk
/-! XA -/
namespace Go.Proofs.YtpkoboohnbkpoaaGreatDoor
open Go Go.RowKit Go.Joins

def Fo.eachB : Fo → Bool
  | nil => true
  | cons wd ns bl y n => ((((wordB wd && decide (ns.length ≤ 8)) && (bl || decide (y.len = 0))) && y.eachB) && !(ns.any farB)) && n.eachB
def EachSaid (f : Fo) : Prop := ∀ (w : World) (K : Nat → Prop) (A : Option Addr) (n c : Nat), TrS w K A n f → f.okL → f.okS → Calls Tryz.prog 108 #[.slice A n c] w fun e w' => e = .returned (.bool f.eachB) ∧ Below w.heap.size w w'
set_option maxHeartbeats 8000000 in
set_option maxRecDepth 100000 in
theorem each_step (f : Fo) (hf : f.Bodies EachSaid) : EachSaid f := by
  intro w K A n c ht hL hS
  obtain ⟨xs, hx, htr⟩ := ht
  have HX := hid hx
  have L1 : f.len = n := by rw [← htr.len, hx.1]
  have hn : (n : Int) ≤ 1000000 := by have := hL.1; omega
  have S0 := hid (And.intro hf (And.intro htr (And.intro hL.2 hS)))
  obtain ⟨R, hR⟩ : ∃ R, f.eachB = R := ⟨_, rfl⟩
  rw [hR]
  have HR := hid hR
  clear hR hx hf htr hL hS L1
  go_enter Tryz.func108, Tryz.ntmps108
  go_wp2
  go_loopw [9] (fun v9 wr => ∃ (i : Nat) (r : Fo), v9 = .int .i64 (i : Nat) ∧ i ≤ n ∧ r.eachB = R ∧ r.Bodies EachSaid ∧ Tr w K r (xs.drop i) ∧ r.okB ∧ r.okS ∧ Below w.heap.size w wr) (fun v9 _ => n - (intOf v9).toNat)
  case atStart => exact ⟨0, f, rfl, Nat.zero_le _, HR.out, S0.out.1, by simpa using S0.out.2.1, S0.out.2.2.1, S0.out.2.2.2, Below.refl _ _⟩
  case round =>
    obtain ⟨i, r, rfl, hi, hr, hbo, htr, hob, hos, hbel⟩ := hrel
    have BW := hid hbel
    by_cases hlt : i < n
    · obtain ⟨wd, ns, bl, y, nx, rfl, e1, e2, hns, hyb, hnx⟩ := htr.step (by rw [HX.out.1]; exact hlt)
      obtain ⟨b, o, rfl, hb, hcell⟩ := (HX.out.size.below hbel).at_ hlt
      generalize smS.nth xs i = x at *
      obtain ⟨xw, xA, xn, xc, xb, xB, xm, xk⟩ := x
      simp only at e1 e2 hns hyb
      subst e1 e2
      have r1 : wr.rangeAt b (o + i * 4) (smS.enc ⟨xw, xA, xn, xc, xb, xB, xm, xk⟩) := hcell
      have HW := hid (fun w1 => by have := rword_any (strB xw) w1 (by show xw.length ≤ _; have := hos.1; omega); unfold WordPost at this; rwa [show (strB xw).data.toList = xw from rfl] at this)
      have HY := hid hbo.1
      have YT := hid hyb
      have NS := hid hns
      have HOK := hid (show y.okL ∧ y.okS from ⟨hob.1, hos.2.2.1⟩)
      have HNX := hid (show nx.Bodies EachSaid ∧ Tr w K nx (xs.drop (i + 1)) ∧ nx.okB ∧ nx.okS from ⟨hbo.2, hnx, hob.2, hos.2.2.2⟩)
      have HRR := hid hr
      have HBAD := hid (fun (h : (((((wordB xw && decide (ns.length ≤ 8)) && (xb || decide (y.len = 0))) && y.eachB) && !(ns.any farB)) && nx.eachB) = false) => show R = false by rw [← HRR.out]; exact h)
      have HGD := hid (fun (h : ((((wordB xw && decide (ns.length ≤ 8)) && (xb || decide (y.len = 0))) && y.eachB) && !(ns.any farB)) = true) => show nx.eachB = R by rw [← HRR.out]; simp only [Fo.eachB]; rw [h, Bool.true_and])
      have hxn : (xn : Int) ≤ 1000000 := by have := hos.2.1; have := hns.1; omega
      have hxm : (xm : Int) ≤ 1000000 := by have := hob.1.1; have := hyb.len; omega
      clear hcell hbel hr hbo htr hob hos hns hyb hnx hb
      cases xb with
      | true =>
          by_cases hw : wordB xw = false
          · rw [hw] at HW
            have HV := hid (show false = R from (HBAD.out (by simp [hw])).symm)
            clear hw
            go_upto_region 4 with (first
              | (refine Sh.wp_sv smS (x := ⟨xw, xA, xn, xc, true, xB, xm, xk⟩) rfl (.tmp 4) (.tmp 12) rfl rfl (by rfl) q2 ?_; intro w3 q3 b3 o3 s3; have c0 : w3.cell? ⟨wr.heap.size, 0, none⟩ = some (.string (strB xw)) := q3.cell (j := 0) rfl; have c1 : w3.cell? ⟨wr.heap.size, 1, none⟩ = some (.slice xA xn xc) := q3.cell (j := 1) rfl; have c2 : w3.cell? ⟨wr.heap.size, 2, none⟩ = some (.bool true) := q3.cell (j := 2) rfl; have c3 : w3.cell? ⟨wr.heap.size, 3, none⟩ = some (.slice xB xm xk) := q3.cell (j := 3) rfl; have V3 := hid q3; have B3 := hid (BW.out.trans ((B2.out.trans (b3.mono (Nat.le_refl _))).mono BW.out.size)); clear q3 b3 o3 s3 q2)
              | (refine Sh.wp_al smS rfl rfl ?_; intro w2 q2 b2 s2; have B2 := hid b2; clear b2 s2)
              | (refine Sh.wp_ld smS rfl (.tmp 11) rfl rfl r1 ?_))
            go_wp2_with (first
              | (go_at_call 141; refine (HW.out w3).mono ?_; rintro e w4 ⟨rfl, e4⟩; have B4 := hid (B3.out.trans (e4.mono B3.out.size)); have V4 := hid (V3.out.keep e4); have c1 : w4.cell? ⟨wr.heap.size, 1, none⟩ = some (.slice xA xn xc) := V4.out.cell (j := 1) rfl; have c2 : w4.cell? ⟨wr.heap.size, 2, none⟩ = some (.bool true) := V4.out.cell (j := 2) rfl; have c3 : w4.cell? ⟨wr.heap.size, 3, none⟩ = some (.slice xB xm xk) := V4.out.cell (j := 3) rfl; clear e4))
            go_ret
            exact ⟨ret_bool HV.out, B4.out⟩
          have hw : wordB xw = true := by simpa using hw
          rw [hw] at HW
          by_cases hxn8 : (8 : Int) < xn
          · have HV := hid (show false = R from (HBAD.out (by have : ¬ ns.length ≤ 8 := by rw [NS.out.1]; omega
                                                              simp [this])).symm)
            go_upto_region 4 with (first
              | (refine Sh.wp_sv smS (x := ⟨xw, xA, xn, xc, true, xB, xm, xk⟩) rfl (.tmp 4) (.tmp 12) rfl rfl (by rfl) q2 ?_; intro w3 q3 b3 o3 s3; have c0 : w3.cell? ⟨wr.heap.size, 0, none⟩ = some (.string (strB xw)) := q3.cell (j := 0) rfl; have c1 : w3.cell? ⟨wr.heap.size, 1, none⟩ = some (.slice xA xn xc) := q3.cell (j := 1) rfl; have c2 : w3.cell? ⟨wr.heap.size, 2, none⟩ = some (.bool true) := q3.cell (j := 2) rfl; have c3 : w3.cell? ⟨wr.heap.size, 3, none⟩ = some (.slice xB xm xk) := q3.cell (j := 3) rfl; have V3 := hid q3; have B3 := hid (BW.out.trans ((B2.out.trans (b3.mono (Nat.le_refl _))).mono BW.out.size)); clear q3 b3 o3 s3 q2)
              | (refine Sh.wp_al smS rfl rfl ?_; intro w2 q2 b2 s2; have B2 := hid b2; clear b2 s2)
              | (refine Sh.wp_ld smS rfl (.tmp 11) rfl rfl r1 ?_))
            go_wp2_with (first
              | (go_at_call 141; refine (HW.out w3).mono ?_; rintro e w4 ⟨rfl, e4⟩; have B4 := hid (B3.out.trans (e4.mono B3.out.size)); have V4 := hid (V3.out.keep e4); have c1 : w4.cell? ⟨wr.heap.size, 1, none⟩ = some (.slice xA xn xc) := V4.out.cell (j := 1) rfl; have c2 : w4.cell? ⟨wr.heap.size, 2, none⟩ = some (.bool true) := V4.out.cell (j := 2) rfl; have c3 : w4.cell? ⟨wr.heap.size, 3, none⟩ = some (.slice xB xm xk) := V4.out.cell (j := 3) rfl; clear e4))
            go_ret
            exact ⟨ret_bool HV.out, B4.out⟩
          obtain ⟨b4, hb4⟩ : ∃ b4, y.eachB = b4 := ⟨_, rfl⟩
          cases b4 with
          | false =>
            have HV := hid (show false = R from (HBAD.out (by simp [hb4])).symm)
            go_upto_region 4 with (first
              | (refine Sh.wp_sv smS (x := ⟨xw, xA, xn, xc, true, xB, xm, xk⟩) rfl (.tmp 4) (.tmp 12) rfl rfl (by rfl) q2 ?_; intro w3 q3 b3 o3 s3; have c0 : w3.cell? ⟨wr.heap.size, 0, none⟩ = some (.string (strB xw)) := q3.cell (j := 0) rfl; have c1 : w3.cell? ⟨wr.heap.size, 1, none⟩ = some (.slice xA xn xc) := q3.cell (j := 1) rfl; have c2 : w3.cell? ⟨wr.heap.size, 2, none⟩ = some (.bool true) := q3.cell (j := 2) rfl; have c3 : w3.cell? ⟨wr.heap.size, 3, none⟩ = some (.slice xB xm xk) := q3.cell (j := 3) rfl; have V3 := hid q3; have B3 := hid (BW.out.trans ((B2.out.trans (b3.mono (Nat.le_refl _))).mono BW.out.size)); clear q3 b3 o3 s3 q2)
              | (refine Sh.wp_al smS rfl rfl ?_; intro w2 q2 b2 s2; have B2 := hid b2; clear b2 s2)
              | (refine Sh.wp_ld smS rfl (.tmp 11) rfl rfl r1 ?_))
            go_wp2_with (first
              | (go_at_call 108; have h9 := HY.out w4 K xB xm xk (YT.out.below B4.out) HOK.out.1 HOK.out.2; rw [hb4] at h9; (with_reducible refine h9.mono ?_); rintro e w5 ⟨rfl, b5⟩; have B5 := hid (B4.out.trans (b5.mono B4.out.size)); have V5 := hid (V4.out.keep b5); have c1 : w5.cell? ⟨wr.heap.size, 1, none⟩ = some (.slice xA xn xc) := V5.out.cell (j := 1) rfl; clear b5)
              | (go_at_call 141; refine (HW.out w3).mono ?_; rintro e w4 ⟨rfl, e4⟩; have B4 := hid (B3.out.trans (e4.mono B3.out.size)); have V4 := hid (V3.out.keep e4); have c1 : w4.cell? ⟨wr.heap.size, 1, none⟩ = some (.slice xA xn xc) := V4.out.cell (j := 1) rfl; have c2 : w4.cell? ⟨wr.heap.size, 2, none⟩ = some (.bool true) := V4.out.cell (j := 2) rfl; have c3 : w4.cell? ⟨wr.heap.size, 3, none⟩ = some (.slice xB xm xk) := V4.out.cell (j := 3) rfl; clear e4))
            go_ret
            exact ⟨ret_bool HV.out, B5.out⟩
          | true =>
            have HGOOD := hid (fun (ha : ns.any farB = false) => HGD.out (by rw [hw, hb4, ha, decide_eq_true (show ns.length ≤ 8 by rw [NS.out.1]; omega)]; simp))
            go_upto_region 4 with (first
              | (refine Sh.wp_sv smS (x := ⟨xw, xA, xn, xc, true, xB, xm, xk⟩) rfl (.tmp 4) (.tmp 12) rfl rfl (by rfl) q2 ?_; intro w3 q3 b3 o3 s3; have c0 : w3.cell? ⟨wr.heap.size, 0, none⟩ = some (.string (strB xw)) := q3.cell (j := 0) rfl; have c1 : w3.cell? ⟨wr.heap.size, 1, none⟩ = some (.slice xA xn xc) := q3.cell (j := 1) rfl; have c2 : w3.cell? ⟨wr.heap.size, 2, none⟩ = some (.bool true) := q3.cell (j := 2) rfl; have c3 : w3.cell? ⟨wr.heap.size, 3, none⟩ = some (.slice xB xm xk) := q3.cell (j := 3) rfl; have V3 := hid q3; have B3 := hid (BW.out.trans ((B2.out.trans (b3.mono (Nat.le_refl _))).mono BW.out.size)); clear q3 b3 o3 s3 q2)
              | (refine Sh.wp_al smS rfl rfl ?_; intro w2 q2 b2 s2; have B2 := hid b2; clear b2 s2)
              | (refine Sh.wp_ld smS rfl (.tmp 11) rfl rfl r1 ?_))
            go_wp2_with (first
              | (go_at_call 108; have h9 := HY.out w4 K xB xm xk (YT.out.below B4.out) HOK.out.1 HOK.out.2; rw [hb4] at h9; (with_reducible refine h9.mono ?_); rintro e w5 ⟨rfl, b5⟩; have B5 := hid (B4.out.trans (b5.mono B4.out.size)); have V5 := hid (V4.out.keep b5); have c1 : w5.cell? ⟨wr.heap.size, 1, none⟩ = some (.slice xA xn xc) := V5.out.cell (j := 1) rfl; clear b5)
              | (go_at_call 141; refine (HW.out w3).mono ?_; rintro e w4 ⟨rfl, e4⟩; have B4 := hid (B3.out.trans (e4.mono B3.out.size)); have V4 := hid (V3.out.keep e4); have c1 : w4.cell? ⟨wr.heap.size, 1, none⟩ = some (.slice xA xn xc) := V4.out.cell (j := 1) rfl; have c2 : w4.cell? ⟨wr.heap.size, 2, none⟩ = some (.bool true) := V4.out.cell (j := 2) rfl; have c3 : w4.cell? ⟨wr.heap.size, 3, none⟩ = some (.slice xB xm xk) := V4.out.cell (j := 3) rfl; clear e4))
            have HXN := hid hxn8
            go_loopw [43] (fun v43 wi => ∃ k : Nat, v43 = .int .i64 (k : Int) ∧ k ≤ xn ∧ (ns.take k).any farB = false ∧ Below w5.heap.size w5 wi) (fun v43 _ => xn - (intOf v43).toNat)
            case atStart => exact ⟨0, rfl, Nat.zero_le _, rfl, Below.refl _ _⟩
            case round =>
              obtain ⟨k, rfl, hk, hany, hbi⟩ := hrel
              have BI := hid hbi
              have HAN := hid hany
              by_cases hkl : k < xn
              · have hbw : Below w.heap.size w wr := B5.out.trans (hbi.mono B5.out.size)
                obtain ⟨b2, o2, rfl, _, hc⟩ := (NS.out.below hbw).size.at_ hkl
                have hg : ns[k]? = some (nmS.nth ns k) := Sh.nth_get nmS (by rw [NS.out.1]; exact hkl)
                have HT := hid (show ns.take (k + 1) = ns.take k ++ [nmS.nth ns k] by rw [List.take_add_one, hg]; rfl)
                have HIN := hid (List.mem_of_getElem? hg)
                generalize nmS.nth ns k = z at *
                obtain ⟨z1, z2⟩ := z
                have r2 : wr.rangeAt b2 (o2 + k * 2) (nmS.enc (z1, z2)) := hc
                clear hc hg hbi hany hbw
                by_cases hbig : (1000000000000000000 : Int) ≤ z1
                · have HV := hid (HBAD.out (by simp only [Bool.and_eq_false_iff]; left; right; rw [Bool.not_eq_false']; exact List.any_eq_true.2 ⟨_, HIN.out, by simp [farB, hbig]⟩))
                  have hsm : ¬ z1 < 1000000000000000000 := by omega
                  go_upto_region 9 with (first
                    | (refine Sh.wp_sv nmS (x := (z1, z2)) rfl (.tmp 6) (.tmp 46) rfl rfl (by rfl) q6 ?_; intro w7 q7 b7 o7 s7; have d0 : w7.cell? ⟨wr.heap.size, 0, none⟩ = some (.int .i64 z1) := q7.cell (j := 0) rfl; have B7 := hid (B5.out.trans ((BI.out.trans ((B6.out.trans (b7.mono (Nat.le_refl _))).mono BI.out.size)).mono B5.out.size)); clear q7 b7 o7 s7 q6)
                    | (refine Sh.wp_al nmS rfl rfl ?_; intro w6 q6 b6 s6; have B6 := hid b6; clear b6 s6)
                    | (refine Sh.wp_ld nmS rfl (.tmp 45) rfl rfl r2 ?_))
                  go_wp2_with fail
                  go_ret
                  exact ⟨ret_bool HV.out.symm, B7.out⟩
                by_cases hsml : z1 ≤ (-1000000000000000000 : Int)
                · have HV := hid (HBAD.out (by simp only [Bool.and_eq_false_iff]; left; right; rw [Bool.not_eq_false']; exact List.any_eq_true.2 ⟨_, HIN.out, by simp [farB, hsml]⟩))
                  go_upto_region 9 with (first
                    | (refine Sh.wp_sv nmS (x := (z1, z2)) rfl (.tmp 6) (.tmp 46) rfl rfl (by rfl) q6 ?_; intro w7 q7 b7 o7 s7; have d0 : w7.cell? ⟨wr.heap.size, 0, none⟩ = some (.int .i64 z1) := q7.cell (j := 0) rfl; have B7 := hid (B5.out.trans ((BI.out.trans ((B6.out.trans (b7.mono (Nat.le_refl _))).mono BI.out.size)).mono B5.out.size)); clear q7 b7 o7 s7 q6)
                    | (refine Sh.wp_al nmS rfl rfl ?_; intro w6 q6 b6 s6; have B6 := hid b6; clear b6 s6)
                    | (refine Sh.wp_ld nmS rfl (.tmp 45) rfl rfl r2 ?_))
                  go_wp2_with fail
                  go_ret
                  exact ⟨ret_bool HV.out.symm, B7.out⟩
                have HN2 := hid (show (ns.take (k + 1)).any farB = false by rw [HT.out, List.any_append, HAN.out]; simp [farB]; omega)
                go_upto_region 9 with (first
                  | (refine Sh.wp_sv nmS (x := (z1, z2)) rfl (.tmp 6) (.tmp 46) rfl rfl (by rfl) q6 ?_; intro w7 q7 b7 o7 s7; have d0 : w7.cell? ⟨wr.heap.size, 0, none⟩ = some (.int .i64 z1) := q7.cell (j := 0) rfl; have B7 := hid (BI.out.trans ((B6.out.trans (b7.mono (Nat.le_refl _))).mono BI.out.size)); clear q7 b7 o7 s7 q6)
                  | (refine Sh.wp_al nmS rfl rfl ?_; intro w6 q6 b6 s6; have B6 := hid b6; clear b6 s6)
                  | (refine Sh.wp_ld nmS rfl (.tmp 45) rfl rfl r2 ?_))
                go_wp2_with fail
                go_roundw
                case rel => exact ⟨k + 1, by go_num, by omega, HN2.out, B7.out⟩
                case measure => simp [intOf]; omega
              · obtain rfl : k = xn := by omega
                rw [List.take_of_length_le (by rw [NS.out.1]; exact Nat.le_refl _)] at hany
                have HG := hid (HGOOD.out hany)
                clear hbi hany HAN
                go_wp2
                exact ⟨⟨i + 1, nx, by go_num, by omega, HG.out, HNX.out.1, HNX.out.2.1, HNX.out.2.2.1, HNX.out.2.2.2, B5.out.trans (BI.out.mono B5.out.size)⟩, by simp [intOf]; omega⟩
      | false =>
          by_cases hw : wordB xw = false
          · rw [hw] at HW
            have HV := hid (show false = R from (HBAD.out (by simp [hw])).symm)
            clear hw
            go_upto_region 4 with (first
              | (refine Sh.wp_sv smS (x := ⟨xw, xA, xn, xc, false, xB, xm, xk⟩) rfl (.tmp 4) (.tmp 12) rfl rfl (by rfl) q2 ?_; intro w3 q3 b3 o3 s3; have c0 : w3.cell? ⟨wr.heap.size, 0, none⟩ = some (.string (strB xw)) := q3.cell (j := 0) rfl; have c1 : w3.cell? ⟨wr.heap.size, 1, none⟩ = some (.slice xA xn xc) := q3.cell (j := 1) rfl; have c2 : w3.cell? ⟨wr.heap.size, 2, none⟩ = some (.bool false) := q3.cell (j := 2) rfl; have c3 : w3.cell? ⟨wr.heap.size, 3, none⟩ = some (.slice xB xm xk) := q3.cell (j := 3) rfl; have V3 := hid q3; have B3 := hid (BW.out.trans ((B2.out.trans (b3.mono (Nat.le_refl _))).mono BW.out.size)); clear q3 b3 o3 s3 q2)
              | (refine Sh.wp_al smS rfl rfl ?_; intro w2 q2 b2 s2; have B2 := hid b2; clear b2 s2)
              | (refine Sh.wp_ld smS rfl (.tmp 11) rfl rfl r1 ?_))
            go_wp2_with (first
              | (go_at_call 141; refine (HW.out w3).mono ?_; rintro e w4 ⟨rfl, e4⟩; have B4 := hid (B3.out.trans (e4.mono B3.out.size)); have V4 := hid (V3.out.keep e4); have c1 : w4.cell? ⟨wr.heap.size, 1, none⟩ = some (.slice xA xn xc) := V4.out.cell (j := 1) rfl; have c2 : w4.cell? ⟨wr.heap.size, 2, none⟩ = some (.bool false) := V4.out.cell (j := 2) rfl; have c3 : w4.cell? ⟨wr.heap.size, 3, none⟩ = some (.slice xB xm xk) := V4.out.cell (j := 3) rfl; clear e4))
            go_ret
            exact ⟨ret_bool HV.out, B4.out⟩
          have hw : wordB xw = true := by simpa using hw
          rw [hw] at HW
          by_cases hxn8 : (8 : Int) < xn
          · have HV := hid (show false = R from (HBAD.out (by have : ¬ ns.length ≤ 8 := by rw [NS.out.1]; omega
                                                              simp [this])).symm)
            go_upto_region 4 with (first
              | (refine Sh.wp_sv smS (x := ⟨xw, xA, xn, xc, false, xB, xm, xk⟩) rfl (.tmp 4) (.tmp 12) rfl rfl (by rfl) q2 ?_; intro w3 q3 b3 o3 s3; have c0 : w3.cell? ⟨wr.heap.size, 0, none⟩ = some (.string (strB xw)) := q3.cell (j := 0) rfl; have c1 : w3.cell? ⟨wr.heap.size, 1, none⟩ = some (.slice xA xn xc) := q3.cell (j := 1) rfl; have c2 : w3.cell? ⟨wr.heap.size, 2, none⟩ = some (.bool false) := q3.cell (j := 2) rfl; have c3 : w3.cell? ⟨wr.heap.size, 3, none⟩ = some (.slice xB xm xk) := q3.cell (j := 3) rfl; have V3 := hid q3; have B3 := hid (BW.out.trans ((B2.out.trans (b3.mono (Nat.le_refl _))).mono BW.out.size)); clear q3 b3 o3 s3 q2)
              | (refine Sh.wp_al smS rfl rfl ?_; intro w2 q2 b2 s2; have B2 := hid b2; clear b2 s2)
              | (refine Sh.wp_ld smS rfl (.tmp 11) rfl rfl r1 ?_))
            go_wp2_with (first
              | (go_at_call 141; refine (HW.out w3).mono ?_; rintro e w4 ⟨rfl, e4⟩; have B4 := hid (B3.out.trans (e4.mono B3.out.size)); have V4 := hid (V3.out.keep e4); have c1 : w4.cell? ⟨wr.heap.size, 1, none⟩ = some (.slice xA xn xc) := V4.out.cell (j := 1) rfl; have c2 : w4.cell? ⟨wr.heap.size, 2, none⟩ = some (.bool false) := V4.out.cell (j := 2) rfl; have c3 : w4.cell? ⟨wr.heap.size, 3, none⟩ = some (.slice xB xm xk) := V4.out.cell (j := 3) rfl; clear e4))
            go_ret
            exact ⟨ret_bool HV.out, B4.out⟩
          by_cases hxm : (0 : Int) < xm
          · have HV := hid (show false = R from (HBAD.out (by have : ¬ y.len = 0 := by rw [← YT.out.len]; omega
                                                              simp [this])).symm)
            go_upto_region 4 with (first
              | (refine Sh.wp_sv smS (x := ⟨xw, xA, xn, xc, false, xB, xm, xk⟩) rfl (.tmp 4) (.tmp 12) rfl rfl (by rfl) q2 ?_; intro w3 q3 b3 o3 s3; have c0 : w3.cell? ⟨wr.heap.size, 0, none⟩ = some (.string (strB xw)) := q3.cell (j := 0) rfl; have c1 : w3.cell? ⟨wr.heap.size, 1, none⟩ = some (.slice xA xn xc) := q3.cell (j := 1) rfl; have c2 : w3.cell? ⟨wr.heap.size, 2, none⟩ = some (.bool false) := q3.cell (j := 2) rfl; have c3 : w3.cell? ⟨wr.heap.size, 3, none⟩ = some (.slice xB xm xk) := q3.cell (j := 3) rfl; have V3 := hid q3; have B3 := hid (BW.out.trans ((B2.out.trans (b3.mono (Nat.le_refl _))).mono BW.out.size)); clear q3 b3 o3 s3 q2)
              | (refine Sh.wp_al smS rfl rfl ?_; intro w2 q2 b2 s2; have B2 := hid b2; clear b2 s2)
              | (refine Sh.wp_ld smS rfl (.tmp 11) rfl rfl r1 ?_))
            go_wp2_with (first
              | (go_at_call 141; refine (HW.out w3).mono ?_; rintro e w4 ⟨rfl, e4⟩; have B4 := hid (B3.out.trans (e4.mono B3.out.size)); have V4 := hid (V3.out.keep e4); have c1 : w4.cell? ⟨wr.heap.size, 1, none⟩ = some (.slice xA xn xc) := V4.out.cell (j := 1) rfl; have c2 : w4.cell? ⟨wr.heap.size, 2, none⟩ = some (.bool false) := V4.out.cell (j := 2) rfl; have c3 : w4.cell? ⟨wr.heap.size, 3, none⟩ = some (.slice xB xm xk) := V4.out.cell (j := 3) rfl; clear e4))
            go_ret
            exact ⟨ret_bool HV.out, B4.out⟩
          obtain rfl : xm = 0 := by omega
          obtain ⟨b4, hb4⟩ : ∃ b4, y.eachB = b4 := ⟨_, rfl⟩
          cases b4 with
          | false =>
            have HV := hid (show false = R from (HBAD.out (by simp [hb4])).symm)
            go_upto_region 4 with (first
              | (refine Sh.wp_sv smS (x := ⟨xw, xA, xn, xc, false, xB, 0, xk⟩) rfl (.tmp 4) (.tmp 12) rfl rfl (by rfl) q2 ?_; intro w3 q3 b3 o3 s3; have c0 : w3.cell? ⟨wr.heap.size, 0, none⟩ = some (.string (strB xw)) := q3.cell (j := 0) rfl; have c1 : w3.cell? ⟨wr.heap.size, 1, none⟩ = some (.slice xA xn xc) := q3.cell (j := 1) rfl; have c2 : w3.cell? ⟨wr.heap.size, 2, none⟩ = some (.bool false) := q3.cell (j := 2) rfl; have c3 : w3.cell? ⟨wr.heap.size, 3, none⟩ = some (.slice xB 0 xk) := q3.cell (j := 3) rfl; have V3 := hid q3; have B3 := hid (BW.out.trans ((B2.out.trans (b3.mono (Nat.le_refl _))).mono BW.out.size)); clear q3 b3 o3 s3 q2)
              | (refine Sh.wp_al smS rfl rfl ?_; intro w2 q2 b2 s2; have B2 := hid b2; clear b2 s2)
              | (refine Sh.wp_ld smS rfl (.tmp 11) rfl rfl r1 ?_))
            go_wp2_with (first
              | (go_at_call 108; have h9 := HY.out w4 K xB 0 xk (YT.out.below B4.out) HOK.out.1 HOK.out.2; rw [hb4] at h9; (with_reducible refine h9.mono ?_); rintro e w5 ⟨rfl, b5⟩; have B5 := hid (B4.out.trans (b5.mono B4.out.size)); have V5 := hid (V4.out.keep b5); have c1 : w5.cell? ⟨wr.heap.size, 1, none⟩ = some (.slice xA xn xc) := V5.out.cell (j := 1) rfl; clear b5)
              | (go_at_call 141; refine (HW.out w3).mono ?_; rintro e w4 ⟨rfl, e4⟩; have B4 := hid (B3.out.trans (e4.mono B3.out.size)); have V4 := hid (V3.out.keep e4); have c1 : w4.cell? ⟨wr.heap.size, 1, none⟩ = some (.slice xA xn xc) := V4.out.cell (j := 1) rfl; have c2 : w4.cell? ⟨wr.heap.size, 2, none⟩ = some (.bool false) := V4.out.cell (j := 2) rfl; have c3 : w4.cell? ⟨wr.heap.size, 3, none⟩ = some (.slice xB 0 xk) := V4.out.cell (j := 3) rfl; clear e4))
            go_ret
            exact ⟨ret_bool HV.out, B5.out⟩
          | true =>
            have HGOOD := hid (fun (ha : ns.any farB = false) => HGD.out (by rw [hw, hb4, ha, decide_eq_true (show ns.length ≤ 8 by rw [NS.out.1]; omega)]; rw [decide_eq_true (show y.len = 0 from YT.out.len.symm)] <;> rfl))
            go_upto_region 4 with (first
              | (refine Sh.wp_sv smS (x := ⟨xw, xA, xn, xc, false, xB, 0, xk⟩) rfl (.tmp 4) (.tmp 12) rfl rfl (by rfl) q2 ?_; intro w3 q3 b3 o3 s3; have c0 : w3.cell? ⟨wr.heap.size, 0, none⟩ = some (.string (strB xw)) := q3.cell (j := 0) rfl; have c1 : w3.cell? ⟨wr.heap.size, 1, none⟩ = some (.slice xA xn xc) := q3.cell (j := 1) rfl; have c2 : w3.cell? ⟨wr.heap.size, 2, none⟩ = some (.bool false) := q3.cell (j := 2) rfl; have c3 : w3.cell? ⟨wr.heap.size, 3, none⟩ = some (.slice xB 0 xk) := q3.cell (j := 3) rfl; have V3 := hid q3; have B3 := hid (BW.out.trans ((B2.out.trans (b3.mono (Nat.le_refl _))).mono BW.out.size)); clear q3 b3 o3 s3 q2)
              | (refine Sh.wp_al smS rfl rfl ?_; intro w2 q2 b2 s2; have B2 := hid b2; clear b2 s2)
              | (refine Sh.wp_ld smS rfl (.tmp 11) rfl rfl r1 ?_))
            go_wp2_with (first
              | (go_at_call 108; have h9 := HY.out w4 K xB 0 xk (YT.out.below B4.out) HOK.out.1 HOK.out.2; rw [hb4] at h9; (with_reducible refine h9.mono ?_); rintro e w5 ⟨rfl, b5⟩; have B5 := hid (B4.out.trans (b5.mono B4.out.size)); have V5 := hid (V4.out.keep b5); have c1 : w5.cell? ⟨wr.heap.size, 1, none⟩ = some (.slice xA xn xc) := V5.out.cell (j := 1) rfl; clear b5)
              | (go_at_call 141; refine (HW.out w3).mono ?_; rintro e w4 ⟨rfl, e4⟩; have B4 := hid (B3.out.trans (e4.mono B3.out.size)); have V4 := hid (V3.out.keep e4); have c1 : w4.cell? ⟨wr.heap.size, 1, none⟩ = some (.slice xA xn xc) := V4.out.cell (j := 1) rfl; have c2 : w4.cell? ⟨wr.heap.size, 2, none⟩ = some (.bool false) := V4.out.cell (j := 2) rfl; have c3 : w4.cell? ⟨wr.heap.size, 3, none⟩ = some (.slice xB 0 xk) := V4.out.cell (j := 3) rfl; clear e4))
            have HXN := hid hxn8
            go_loopw [43] (fun v43 wi => ∃ k : Nat, v43 = .int .i64 (k : Int) ∧ k ≤ xn ∧ (ns.take k).any farB = false ∧ Below w5.heap.size w5 wi) (fun v43 _ => xn - (intOf v43).toNat)
            case atStart => exact ⟨0, rfl, Nat.zero_le _, rfl, Below.refl _ _⟩
            case round =>
              obtain ⟨k, rfl, hk, hany, hbi⟩ := hrel
              have BI := hid hbi
              have HAN := hid hany
              by_cases hkl : k < xn
              · have hbw : Below w.heap.size w wr := B5.out.trans (hbi.mono B5.out.size)
                obtain ⟨b2, o2, rfl, _, hc⟩ := (NS.out.below hbw).size.at_ hkl
                have hg : ns[k]? = some (nmS.nth ns k) := Sh.nth_get nmS (by rw [NS.out.1]; exact hkl)
                have HT := hid (show ns.take (k + 1) = ns.take k ++ [nmS.nth ns k] by rw [List.take_add_one, hg]; rfl)
                have HIN := hid (List.mem_of_getElem? hg)
                generalize nmS.nth ns k = z at *
                obtain ⟨z1, z2⟩ := z
                have r2 : wr.rangeAt b2 (o2 + k * 2) (nmS.enc (z1, z2)) := hc
                clear hc hg hbi hany hbw
                by_cases hbig : (1000000000000000000 : Int) ≤ z1
                · have HV := hid (HBAD.out (by simp only [Bool.and_eq_false_iff]; left; right; rw [Bool.not_eq_false']; exact List.any_eq_true.2 ⟨_, HIN.out, by simp [farB, hbig]⟩))
                  have hsm : ¬ z1 < 1000000000000000000 := by omega
                  go_upto_region 9 with (first
                    | (refine Sh.wp_sv nmS (x := (z1, z2)) rfl (.tmp 6) (.tmp 46) rfl rfl (by rfl) q6 ?_; intro w7 q7 b7 o7 s7; have d0 : w7.cell? ⟨wr.heap.size, 0, none⟩ = some (.int .i64 z1) := q7.cell (j := 0) rfl; have B7 := hid (B5.out.trans ((BI.out.trans ((B6.out.trans (b7.mono (Nat.le_refl _))).mono BI.out.size)).mono B5.out.size)); clear q7 b7 o7 s7 q6)
                    | (refine Sh.wp_al nmS rfl rfl ?_; intro w6 q6 b6 s6; have B6 := hid b6; clear b6 s6)
                    | (refine Sh.wp_ld nmS rfl (.tmp 45) rfl rfl r2 ?_))
                  go_wp2_with fail
                  go_ret
                  exact ⟨ret_bool HV.out.symm, B7.out⟩
                by_cases hsml : z1 ≤ (-1000000000000000000 : Int)
                · have HV := hid (HBAD.out (by simp only [Bool.and_eq_false_iff]; left; right; rw [Bool.not_eq_false']; exact List.any_eq_true.2 ⟨_, HIN.out, by simp [farB, hsml]⟩))
                  go_upto_region 9 with (first
                    | (refine Sh.wp_sv nmS (x := (z1, z2)) rfl (.tmp 6) (.tmp 46) rfl rfl (by rfl) q6 ?_; intro w7 q7 b7 o7 s7; have d0 : w7.cell? ⟨wr.heap.size, 0, none⟩ = some (.int .i64 z1) := q7.cell (j := 0) rfl; have B7 := hid (B5.out.trans ((BI.out.trans ((B6.out.trans (b7.mono (Nat.le_refl _))).mono BI.out.size)).mono B5.out.size)); clear q7 b7 o7 s7 q6)
                    | (refine Sh.wp_al nmS rfl rfl ?_; intro w6 q6 b6 s6; have B6 := hid b6; clear b6 s6)
                    | (refine Sh.wp_ld nmS rfl (.tmp 45) rfl rfl r2 ?_))
                  go_wp2_with fail
                  go_ret
                  exact ⟨ret_bool HV.out.symm, B7.out⟩
                have HN2 := hid (show (ns.take (k + 1)).any farB = false by rw [HT.out, List.any_append, HAN.out]; simp [farB]; omega)
                go_upto_region 9 with (first
                  | (refine Sh.wp_sv nmS (x := (z1, z2)) rfl (.tmp 6) (.tmp 46) rfl rfl (by rfl) q6 ?_; intro w7 q7 b7 o7 s7; have d0 : w7.cell? ⟨wr.heap.size, 0, none⟩ = some (.int .i64 z1) := q7.cell (j := 0) rfl; have B7 := hid (BI.out.trans ((B6.out.trans (b7.mono (Nat.le_refl _))).mono BI.out.size)); clear q7 b7 o7 s7 q6)
                  | (refine Sh.wp_al nmS rfl rfl ?_; intro w6 q6 b6 s6; have B6 := hid b6; clear b6 s6)
                  | (refine Sh.wp_ld nmS rfl (.tmp 45) rfl rfl r2 ?_))
                go_wp2_with fail
                go_roundw
                case rel => exact ⟨k + 1, by go_num, by omega, HN2.out, B7.out⟩
                case measure => simp [intOf]; omega
              · obtain rfl : k = xn := by omega
                rw [List.take_of_length_le (by rw [NS.out.1]; exact Nat.le_refl _)] at hany
                have HG := hid (HGOOD.out hany)
                clear hbi hany HAN
                go_wp2
                exact ⟨⟨i + 1, nx, by go_num, by omega, HG.out, HNX.out.1, HNX.out.2.1, HNX.out.2.2.1, HNX.out.2.2.2, B5.out.trans (BI.out.mono B5.out.size)⟩, by simp [intOf]; omega⟩
    · obtain rfl : i = n := by omega
      have hq := htr.done (by rw [HX.out.1]; exact Nat.le_refl _)
      subst hq
      have HV := hid (show true = R from hr)
      clear hr hbo htr hob hos hbel
      go_wp2
      go_ret
      exact ⟨ret_bool HV.out, BW.out⟩
theorem each_any (f : Fo) : EachSaid f := (Fo.ind each_step f).1
end Go.Proofs.YtpkoboohnbkpoaaGreatDoor

/-! SA -/
namespace Go.Proofs.YtpkoboohnbkpoaaGreatDoor
open Go Go.RowKit Go.Joins

set_option maxRecDepth 100000 in
theorem rcount_step (f : Fo) (hf : f.Bodies (CountSaid 50)) : CountSaid 50 f := by
  intro w K A n c ht hc
  obtain ⟨xs, hx, htr⟩ := ht
  have HX := hid hx
  have HL := hid (show f.len = n by rw [← htr.len, hx.1])
  have HC := hid hc
  have HB := hid hf
  have HT := hid htr
  have hn : (n : Int) ≤ 4611686018427387904 := by have := f.len_le; have := HL.out; omega
  clear hx hc hf htr
  go_enter Tryz.func50, Tryz.ntmps50
  go_wp2
  go_loopw [3, 10] (fun v3 v10 wr => ∃ (i m : Nat) (r : Fo), v3 = .int .i64 (m : Nat) ∧ v10 = .int .i64 (i : Nat) ∧ i ≤ n ∧ m + r.nest = f.count ∧ r.Bodies (CountSaid 50) ∧ Tr w K r (xs.drop i) ∧ Below w.heap.size w wr) (fun _ v10 _ => n - (intOf v10).toNat)
  case atStart => exact ⟨0, n, f, rfl, rfl, Nat.zero_le _, by rw [f.count_nest, HL.out], HB.out, by simpa using HT.out, Below.refl _ _⟩
  case round =>
    obtain ⟨i, m, r, rfl, rfl, hi, hm, hbo, htr, hbel⟩ := hrel
    have BW := hid hbel
    have HM := hid hm
    by_cases hlt : i < n
    · obtain ⟨wd, ns, bl, y, nx, rfl, _, _, _, hy, hnx⟩ := htr.step (by rw [HX.out.1]; exact hlt)
      obtain ⟨b, o, rfl, hb, hcell⟩ := (HX.out.size.below hbel).at_ hlt
      generalize hxe : smS.nth xs i = x at *
      clear hxe
      have r1 : wr.rangeAt b (o + i * 4) (smS.enc x) := hcell
      have HY := hid hbo.1
      have HN := hid (And.intro hbo.2 hnx)
      have HYT := hid hy
      have hyc : (y.count : Int) ≤ 4611686018427387904 := by have := HC.out; simp only [Fo.nest] at hm; omega
      have hmy : (m : Int) + y.count ≤ 4611686018427387904 := by have := HC.out; simp only [Fo.nest] at hm; omega
      have hmc : (m : Int) ≤ 4611686018427387904 := by have := HC.out; omega
      clear hcell hbel hm hbo htr hy hnx hb
      go_wp2_with (first
        | (go_at_call 50; have h9 := HY.out w3 K x.bA x.bn x.bc (HYT.out.below B3.out) (by omega); (with_reducible refine h9.mono ?_); rintro e w4 ⟨rfl, b4⟩; have B4 := hid (B3.out.trans (b4.mono B3.out.size)); clear b4)
        | (refine Sh.wp_sv smS (x := x) rfl (.tmp 5) (.tmp 13) rfl rfl (by rfl) q2 ?_; intro w3 q3 b3 o3 s3; have c3 : w3.cell? ⟨wr.heap.size, 3, none⟩ = some (.slice x.bA x.bn x.bc) := q3.cell (j := 3) rfl; have B3 := hid (BW.out.trans ((B2.out.trans (b3.mono (Nat.le_refl _))).mono BW.out.size)); clear q3 b3 o3 s3)
        | (refine Sh.wp_al smS rfl rfl ?_; intro w2 q2 b2 s2; have B2 := hid b2; clear b2 s2)
        | (refine Sh.wp_ld smS rfl (.tmp 12) rfl rfl r1 ?_))
      go_roundw
      case rel => exact ⟨i + 1, m + y.count, nx, by go_num, by go_num, by omega, by have := HM.out; simp only [Fo.nest] at this; omega, HN.out.1, HN.out.2, B4.out⟩
      case measure => simp [intOf]; omega
    · obtain rfl : i = n := by omega
      have hr := htr.done (by rw [HX.out.1]; exact Nat.le_refl _)
      subst hr
      have hm2 : m = f.count := by simpa [Fo.nest] using hm
      clear hm hbo htr hbel
      have HM2 := hid hm2
      clear hm2
      go_wp2
      go_ret
      exact ⟨by rw [← HM2.out]; rfl, BW.out⟩
theorem rcount_any (f : Fo) : CountSaid 50 f := (Fo.ind rcount_step f).1
end Go.Proofs.YtpkoboohnbkpoaaGreatDoor

/-! SB -/
namespace Go.Proofs.YtpkoboohnbkpoaaGreatDoor
open Go Go.RowKit Go.Joins

set_option maxRecDepth 100000 in
theorem rdepth_step (f : Fo) (hf : f.Bodies (DepthSaid 107)) : DepthSaid 107 f := by
  intro w K A n c ht hc
  obtain ⟨xs, hx, htr⟩ := ht
  have HX := hid hx
  have HL := hid (show f.len = n by rw [← htr.len, hx.1])
  have HC := hid hc
  have HB := hid hf
  have HT := hid htr
  have hn : (n : Int) ≤ 4611686018427387904 := by have := f.len_le; have := HL.out; omega
  clear hx hc hf htr
  go_enter Tryz.func107, Tryz.ntmps107
  go_wp2
  go_loopw [3, 9] (fun v3 v9 wr => ∃ (i m : Nat) (r : Fo), v3 = .int .i64 (m : Nat) ∧ v9 = .int .i64 (i : Nat) ∧ i ≤ n ∧ max m r.depth = f.depth ∧ r.count ≤ f.count ∧ r.Bodies (DepthSaid 107) ∧ Tr w K r (xs.drop i) ∧ Below w.heap.size w wr) (fun _ v9 _ => n - (intOf v9).toNat)
  case atStart => exact ⟨0, 0, f, rfl, rfl, Nat.zero_le _, by omega, Nat.le_refl _, HB.out, by simpa using HT.out, Below.refl _ _⟩
  case round =>
    obtain ⟨i, m, r, rfl, rfl, hi, hm, hrc, hbo, htr, hbel⟩ := hrel
    have BW := hid hbel
    have HM := hid (And.intro hm hrc)
    by_cases hlt : i < n
    · obtain ⟨wd, ns, bl, y, nx, rfl, _, hbl, _, hy, hnx⟩ := htr.step (by rw [HX.out.1]; exact hlt)
      obtain ⟨b, o, rfl, hb, hcell⟩ := (HX.out.size.below hbel).at_ hlt
      generalize hxe : smS.nth xs i = x at *
      clear hxe
      have r1 : wr.rangeAt b (o + i * 4) (smS.enc x) := hcell
      have HY := hid hbo.1
      have HN := hid (And.intro hbo.2 hnx)
      have HYT := hid hy
      have hyc := hid (show y.count ≤ 4611686018427387904 by have := HC.out; simp only [Fo.count] at hrc; omega)
      have hyd : (y.depth : Int) ≤ 4611686018427387905 := by have := y.depth_le; have := hyc.out; omega
      have hmc : (m : Int) ≤ 4611686018427387905 := by have := f.depth_le; have := HC.out; omega
      clear hcell hbel hm hbo htr hy hnx hb hrc
      obtain ⟨xw, xA, xn, xc, xb, xB, xm, xk⟩ := x
      have hbl : xb = bl := hbl
      subst hbl
      cases xb
      · go_wp2_with (first
          | (go_at_call 107; have h9 := HY.out w3 K xB xm xk (HYT.out.below B3.out) hyc.out; (with_reducible refine h9.mono ?_); rintro e w4 ⟨rfl, b4⟩; have c2 : w4.cell? ⟨wr.heap.size, 2, none⟩ = _ := (b4.cell (p := ⟨wr.heap.size, 2, none⟩) L3.out).trans c2; have B4 := hid (B3.out.trans (b4.mono B3.out.size)); clear b4)
          | (refine Sh.wp_sv smS (x := ⟨xw, xA, xn, xc, false, xB, xm, xk⟩) rfl (.tmp 5) (.tmp 12) rfl rfl (by rfl) q2 ?_; intro w3 q3 b3 o3 s3; have c3 : w3.cell? ⟨wr.heap.size, 3, none⟩ = some (.slice xB xm xk) := q3.cell (j := 3) rfl; have c2 := q3.cell (j := 2) rfl; have L3 := hid q3.lt; have B3 := hid (BW.out.trans ((B2.out.trans (b3.mono (Nat.le_refl _))).mono BW.out.size)); clear q3 b3 o3 s3)
          | (refine Sh.wp_al smS rfl rfl ?_; intro w2 q2 b2 s2; have B2 := hid b2; clear b2 s2)
          | (refine Sh.wp_ld smS rfl (.tmp 11) rfl rfl r1 ?_))
        go_roundw
        case rel =>
          refine ⟨i + 1, max m (1 + max y.depth 0), nx, ?_, by go_num, by omega, ?_, by have := HM.out.2; simp only [Fo.count] at this; omega, HN.out.1, HN.out.2, B4.out⟩
          · congr 1
            first | omega | (rw [wrap64_of (by omega) (by omega)]; omega)
          · have h1 := HM.out.1
            simp only [Fo.depth] at h1
            simp at h1
            omega
        case measure => simp [intOf]; omega
      · rcases Nat.eq_zero_or_pos y.depth with hz | hz
        · have hzz := hid hz
          clear hz
          go_wp2_with (first
            | (go_at_call 107; have h9 := HY.out w3 K xB xm xk (HYT.out.below B3.out) hyc.out; rw [hzz.out] at h9; (with_reducible refine h9.mono ?_); rintro e w4 ⟨rfl, b4⟩; have c2 : w4.cell? ⟨wr.heap.size, 2, none⟩ = _ := (b4.cell (p := ⟨wr.heap.size, 2, none⟩) L3.out).trans c2; have B4 := hid (B3.out.trans (b4.mono B3.out.size)); clear b4)
            | (refine Sh.wp_sv smS (x := ⟨xw, xA, xn, xc, true, xB, xm, xk⟩) rfl (.tmp 5) (.tmp 12) rfl rfl (by rfl) q2 ?_; intro w3 q3 b3 o3 s3; have c3 : w3.cell? ⟨wr.heap.size, 3, none⟩ = some (.slice xB xm xk) := q3.cell (j := 3) rfl; have c2 := q3.cell (j := 2) rfl; have L3 := hid q3.lt; have B3 := hid (BW.out.trans ((B2.out.trans (b3.mono (Nat.le_refl _))).mono BW.out.size)); clear q3 b3 o3 s3)
            | (refine Sh.wp_al smS rfl rfl ?_; intro w2 q2 b2 s2; have B2 := hid b2; clear b2 s2)
            | (refine Sh.wp_ld smS rfl (.tmp 11) rfl rfl r1 ?_))
          go_roundw
          case rel =>
            refine ⟨i + 1, max m (1 + max y.depth 1), nx, ?_, by go_num, by omega, ?_, by have := HM.out.2; simp only [Fo.count] at this; omega, HN.out.1, HN.out.2, B4.out⟩
            · congr 1
              have := hzz.out; omega
            · have h1 := HM.out.1
              simp only [Fo.depth] at h1
              simp at h1
              have := hzz.out; omega
          case measure => simp [intOf]; omega
        · have hz1 : ¬ y.depth = 0 := by omega
          have hz2 : decide ((y.depth : Int) = 0) = false := by simp; omega
          have hz3 : ((y.depth : Int) == 0) = false := by simp; omega
          go_wp2_with (first
            | (go_at_call 107; have h9 := HY.out w3 K xB xm xk (HYT.out.below B3.out) hyc.out; (with_reducible refine h9.mono ?_); rintro e w4 ⟨rfl, b4⟩; have c2 : w4.cell? ⟨wr.heap.size, 2, none⟩ = _ := (b4.cell (p := ⟨wr.heap.size, 2, none⟩) L3.out).trans c2; have B4 := hid (B3.out.trans (b4.mono B3.out.size)); clear b4)
            | (refine Sh.wp_sv smS (x := ⟨xw, xA, xn, xc, true, xB, xm, xk⟩) rfl (.tmp 5) (.tmp 12) rfl rfl (by rfl) q2 ?_; intro w3 q3 b3 o3 s3; have c3 : w3.cell? ⟨wr.heap.size, 3, none⟩ = some (.slice xB xm xk) := q3.cell (j := 3) rfl; have c2 := q3.cell (j := 2) rfl; have L3 := hid q3.lt; have B3 := hid (BW.out.trans ((B2.out.trans (b3.mono (Nat.le_refl _))).mono BW.out.size)); clear q3 b3 o3 s3)
            | (refine Sh.wp_al smS rfl rfl ?_; intro w2 q2 b2 s2; have B2 := hid b2; clear b2 s2)
            | (refine Sh.wp_ld smS rfl (.tmp 11) rfl rfl r1 ?_))
          go_roundw
          case rel =>
            refine ⟨i + 1, max m (1 + max y.depth 1), nx, ?_, by go_num, by omega, ?_, by have := HM.out.2; simp only [Fo.count] at this; omega, HN.out.1, HN.out.2, B4.out⟩
            · congr 1
              first | omega | (rw [wrap64_of (by omega) (by omega)]; omega)
            · have h1 := HM.out.1
              simp only [Fo.depth] at h1
              simp at h1
              omega
          case measure => simp [intOf]; omega
    · obtain rfl : i = n := by omega
      have hr := htr.done (by rw [HX.out.1]; exact Nat.le_refl _)
      subst hr
      have hm2 : m = f.depth := by simpa [Fo.depth] using hm
      clear hm hbo htr hbel
      have HM2 := hid hm2
      clear hm2
      go_wp2
      go_ret
      exact ⟨by rw [← HM2.out]; rfl, BW.out⟩
theorem rdepth_any (f : Fo) : DepthSaid 107 f := (Fo.ind rdepth_step f).1
end Go.Proofs.YtpkoboohnbkpoaaGreatDoor

/-! DG -/
namespace Go.Proofs.YtpkoboohnbkpoaaGreatDoor
open Go Go.RowKit Go.Joins

theorem conv1 (w : World) (x : Nat) (g : Nat) (hc : w.cell? ⟨g, 0, none⟩ = some (.int .u8 (x : Nat))) : (convert 122 9 (.slice (some ⟨g, 0, none⟩) 1 1)).run Tryz.prog w = .ok (.string (bA [UInt8.ofNat x])) w := by
  have h := run_convert_bytes_arg (P := Tryz.prog) w 122 5 Tryz.underlying122 Tryz.underlying5 g 0 1 1 [(x : Int)] rfl (fun i hi => by
    obtain rfl : i = 0 := by omega
    exact hc) 9 Tryz.underlying9
  rw [h]
  simp [strOfNums, bA]
theorem cell_new1 (w : World) (v : Value) (t : TypeId) : (w.alloc (.cells #[v] t)).cell? ⟨w.heap.size, 0, none⟩ = some v := range_new w [v] t 0 v rfl
theorem conv_drew {w : World} {r : Nat} {T : ByteArray} (hT : bA [UInt8.ofNat (48 + r)] = T) : (convert 122 9 (.slice (some ⟨w.heap.size, 0, none⟩) 1 1)).run Tryz.prog (w.alloc (.cells #[.int .u8 (48 + (r : Int))] 5)).drew = .ok (.string T) (w.alloc (.cells #[.int .u8 (48 + (r : Int))] 5)).drew := by
  rw [← hT]
  exact conv1 _ (48 + r) w.heap.size (by rw [World.cell?_drew]; exact cell_new1 w _ _)
theorem conv_between {w w1 : World} {r : Nat} {T : ByteArray} (hT : bA [UInt8.ofNat (48 + r)] = T) (g1 : Below (w.alloc (.cells #[.int .u8 (48 + (r : Int))] 5)).drew.heap.size (w.alloc (.cells #[.int .u8 (48 + (r : Int))] 5)).drew w1) : (convert 122 9 (.slice (some ⟨w.heap.size, 0, none⟩) 1 1)).run Tryz.prog w1 = .ok (.string T) w1 := by
  rw [← hT]
  exact conv1 w1 (48 + r) w.heap.size ((g1.cell (p := ⟨w.heap.size, 0, none⟩) (by simp)).trans (by rw [World.cell?_drew]; exact cell_new1 w _ _))
theorem step_cv {w : World} {ops : Array Oper} {o : Oper} {a : Act} {Q : Exit → Act → World → Prop} {K : Act → World → Prop} {E : Prop} (hgd : o.guard = none) (s : Operand) (ho : o.op = .convert 122 9 s) {g x : Nat} (hs : a.eval s = .slice (some ⟨g, 0, none⟩) 1 1) (hc : w.cell? ⟨g, 0, none⟩ = some (.int .u8 (x : Nat)))
    (h : K (a.put o.dst (.string (bA [UInt8.ofNat x]))) w) : if Region.wanted o (yielded ops a.tmps) = true then Oper.wp Tryz.prog o a w K Q else E := by
  have hw : Region.wanted o (yielded ops a.tmps) = true := by simp [Region.wanted, hgd]
  rw [if_pos hw]
  have := conv1 w x g hc
  unfold Oper.wp execOp
  simp only [ho, hs, this, Sem.run_bind, Sem.run_pure, Result.andThen_ok]
  exact h

set_option maxHeartbeats 1000000 in
set_option maxRecDepth 100000 in
theorem dig1_nat : ∀ (n : Nat) (w : World), n ≤ 9223372036854775807 → Calls Tryz.prog 187 #[.int .i64 (n : Int)] w fun e w' => e = .returned (.string (bA (Lib.decDigits n))) ∧ Below w.heap.size w w' := by
  intro n
  induction n using Nat.strongRecOn with
  | _ n ih =>
    intro w hn
    by_cases h10 : n < 10
    · have h10' : (n : Int) < 10 := by omega
      have h0 : ¬ (n : Int) < 0 := by omega
      have hd : Lib.decDigits n = [UInt8.ofNat (48 + n)] := Lib.decDigits_one h10
      have hcv := conv1 (w.alloc (.cells #[.int .u8 (48 + (n : Int))] 5)) (48 + n) w.heap.size (cell_new1 w _ _)
      rw [hd]
      go_enter Tryz.func187, Tryz.ntmps187
      go_wp2
      go_ret
      exact ⟨rfl, (Below.refl _ _).alloc (Nat.le_refl _) _⟩
    · have h10' : ¬ (n : Int) < 10 := by omega
      have h0 : ¬ (n : Int) < 0 := by omega
      have hq : (n : Int).tdiv 10 = ((n / 10 : Nat) : Int) := by rw [Int.tdiv_eq_ediv_of_nonneg (by omega)]; omega
      have hr : (n : Int).tmod 10 = ((n % 10 : Nat) : Int) := by rw [Int.tmod_eq_emod_of_nonneg (by omega)]; omega
      have IH := hid (fun w => ih (n / 10) (by omega) w (by omega))
      have hd : Lib.decDigits n = Lib.decDigits (n / 10) ++ [UInt8.ofNat (48 + n % 10)] := by rw [Lib.decDigits, dif_neg h10]
      have hsz : (bA (Lib.decDigits (n / 10))).size ≤ 19 := by
        rw [bA_size, Lib.decDigits_length]
        exact nDigits_le 19 _ (by omega) (by omega)
      rw [hd, bA_app]
      have hm : n / 10 ≤ 9223372036854775807 := by omega
      have hr10 : n % 10 < 10 := by omega
      clear hd ih h10
      generalize bA (Lib.decDigits (n / 10)) = S at *
      generalize n / 10 = m at *
      generalize n % 10 = r at *
      have f1 : IntKind.i64.wrap (m : Int) = (m : Int) := IntWalk.i64_in _ (by omega)
      have f2 : IntKind.i64.wrap (r : Int) = (r : Int) := IntWalk.i64_in _ (by omega)
      have f3 : IntKind.u8.wrap (r : Int) = (r : Int) := by rw [IntKind.wrap_u8]; omega
      go_enter Tryz.func187, Tryz.ntmps187
      go_wp2_with fail
      have hcw : IntKind.u8.wrap ((48 : Int) + (r : Int)) = 48 + (r : Int) := by rw [IntKind.wrap_u8]; omega
      have hcv : ∀ w' : World, (convert 122 9 (.slice (some ⟨w'.heap.size, 0, none⟩) 1 1)).run Tryz.prog (w'.alloc (.cells #[.int .u8 (48 + (r : Int))] 5)) = .ok (.string (bA [UInt8.ofNat (48 + r)])) (w'.alloc (.cells #[.int .u8 (48 + (r : Int))] 5)) := fun w' => conv1 _ (48 + r) w'.heap.size (cell_new1 w' _ _)
      have hTs : (bA [UInt8.ofNat (48 + r)]).size = 1 := by rw [bA_size]; rfl
      generalize hT : bA [UInt8.ofNat (48 + r)] = T at *
      have hcv2 := fun w' : World => conv_drew (w := w') hT
      go_region_with (first | (go_at_call 187; with_reducible refine (IH.out _).mono ?_; rintro e w1 ⟨rfl, g1⟩; (try have hcv1 := conv_between hT g1)))
      all_goals
        go_wp2_with fail
        go_ret
        refine ⟨by rw [hT]; rfl, ?_⟩
        first
          | exact (((Below.refl w.heap.size w).drew).trans (g1.mono (by simp))).alloc (by have := g1.size; simpa using this) _
          | exact ((((Below.refl w.heap.size w).alloc (Nat.le_refl _) _).drew).trans (g1.mono (by simp)))
set_option maxRecDepth 100000 in
theorem dig1_any (n : Int) (w : World) (hs : smallI n = true) : Calls Tryz.prog 187 #[.int .i64 n] w fun e w' => e = .returned (.string (bA (Lib.itoa n))) ∧ Below w.heap.size w w' := by
  have hs' : -1000000000000000000 < n ∧ n < 1000000000000000000 := by simpa [smallI] using hs
  by_cases h0 : n < 0
  · obtain ⟨m, hm⟩ : ∃ m : Nat, -n = m := ⟨(-n).toNat, by omega⟩
    have H := hid (fun w => by have := dig1_nat m w (by omega); rwa [← hm] at this)
    have hd : Lib.itoa n = 45 :: Lib.decDigits m := by
      unfold Lib.itoa
      rw [if_pos h0, show n.natAbs = m by omega]
    have hsz : (bA (Lib.decDigits m)).size ≤ 19 := by
      rw [bA_size, Lib.decDigits_length]
      exact nDigits_le 19 _ (by omega) (by omega)
    have he : bA (Lib.itoa n) = (⟨#[45]⟩ : ByteArray) ++ bA (Lib.decDigits m) := by
      rw [hd, show (45 :: Lib.decDigits m) = [45] ++ Lib.decDigits m from rfl, bA_app]; rfl
    rw [he]
    clear he hd hs hm
    generalize bA (Lib.decDigits m) = S at *
    go_enter Tryz.func187, Tryz.ntmps187
    go_wp2_with (first | (go_at_call 187; (with_reducible refine (H.out w).mono ?_); rintro e w1 ⟨rfl, g1⟩))
    go_ret
    exact ⟨rfl, g1⟩
  · obtain ⟨m, rfl⟩ := Int.eq_ofNat_of_zero_le (show 0 ≤ n by omega)
    have he : Lib.itoa (m : Int) = Lib.decDigits m := by
      unfold Lib.itoa
      rw [if_neg h0]; rfl
    rw [he]
    exact dig1_nat m w (by omega)

set_option maxHeartbeats 1000000 in
set_option maxRecDepth 100000 in
theorem dig14_nat : ∀ (n : Nat) (w : World), n ≤ 9223372036854775807 → Calls Tryz.prog 172 #[.int .i64 (n : Int)] w fun e w' => e = .returned (.string (bA (Lib.decDigits n))) ∧ Below w.heap.size w w' := by
  intro n
  induction n using Nat.strongRecOn with
  | _ n ih =>
    intro w hn
    by_cases h10 : n < 10
    · have h10' : (n : Int) < 10 := by omega
      have h0 : ¬ (n : Int) < 0 := by omega
      have hd : Lib.decDigits n = [UInt8.ofNat (48 + n)] := Lib.decDigits_one h10
      have hcv := conv1 (w.alloc (.cells #[.int .u8 (48 + (n : Int))] 5)) (48 + n) w.heap.size (cell_new1 w _ _)
      rw [hd]
      go_enter Tryz.func172, Tryz.ntmps172
      go_wp2
      go_ret
      exact ⟨rfl, (Below.refl _ _).alloc (Nat.le_refl _) _⟩
    · have h10' : ¬ (n : Int) < 10 := by omega
      have h0 : ¬ (n : Int) < 0 := by omega
      have hq : (n : Int).tdiv 10 = ((n / 10 : Nat) : Int) := by rw [Int.tdiv_eq_ediv_of_nonneg (by omega)]; omega
      have hr : (n : Int).tmod 10 = ((n % 10 : Nat) : Int) := by rw [Int.tmod_eq_emod_of_nonneg (by omega)]; omega
      have IH := hid (fun w => ih (n / 10) (by omega) w (by omega))
      have hd : Lib.decDigits n = Lib.decDigits (n / 10) ++ [UInt8.ofNat (48 + n % 10)] := by rw [Lib.decDigits, dif_neg h10]
      have hsz : (bA (Lib.decDigits (n / 10))).size ≤ 19 := by
        rw [bA_size, Lib.decDigits_length]
        exact nDigits_le 19 _ (by omega) (by omega)
      rw [hd, bA_app]
      have hm : n / 10 ≤ 9223372036854775807 := by omega
      have hr10 : n % 10 < 10 := by omega
      clear hd ih h10
      generalize bA (Lib.decDigits (n / 10)) = S at *
      generalize n / 10 = m at *
      generalize n % 10 = r at *
      have f1 : IntKind.i64.wrap (m : Int) = (m : Int) := IntWalk.i64_in _ (by omega)
      have f2 : IntKind.i64.wrap (r : Int) = (r : Int) := IntWalk.i64_in _ (by omega)
      have f3 : IntKind.u8.wrap (r : Int) = (r : Int) := by rw [IntKind.wrap_u8]; omega
      go_enter Tryz.func172, Tryz.ntmps172
      go_wp2_with fail
      have hcw : IntKind.u8.wrap ((48 : Int) + (r : Int)) = 48 + (r : Int) := by rw [IntKind.wrap_u8]; omega
      have hcv : ∀ w' : World, (convert 122 9 (.slice (some ⟨w'.heap.size, 0, none⟩) 1 1)).run Tryz.prog (w'.alloc (.cells #[.int .u8 (48 + (r : Int))] 5)) = .ok (.string (bA [UInt8.ofNat (48 + r)])) (w'.alloc (.cells #[.int .u8 (48 + (r : Int))] 5)) := fun w' => conv1 _ (48 + r) w'.heap.size (cell_new1 w' _ _)
      have hTs : (bA [UInt8.ofNat (48 + r)]).size = 1 := by rw [bA_size]; rfl
      generalize hT : bA [UInt8.ofNat (48 + r)] = T at *
      have hcv2 := fun w' : World => conv_drew (w := w') hT
      go_region_with (first | (go_at_call 172; with_reducible refine (IH.out _).mono ?_; rintro e w1 ⟨rfl, g1⟩; (try have hcv1 := conv_between hT g1)))
      all_goals
        go_wp2_with fail
        go_ret
        refine ⟨by rw [hT]; rfl, ?_⟩
        first
          | exact (((Below.refl w.heap.size w).drew).trans (g1.mono (by simp))).alloc (by have := g1.size; simpa using this) _
          | exact ((((Below.refl w.heap.size w).alloc (Nat.le_refl _) _).drew).trans (g1.mono (by simp)))
set_option maxRecDepth 100000 in
theorem dig14_any (n : Int) (w : World) (hs : smallI n = true) : Calls Tryz.prog 172 #[.int .i64 n] w fun e w' => e = .returned (.string (bA (Lib.itoa n))) ∧ Below w.heap.size w w' := by
  have hs' : -1000000000000000000 < n ∧ n < 1000000000000000000 := by simpa [smallI] using hs
  by_cases h0 : n < 0
  · obtain ⟨m, hm⟩ : ∃ m : Nat, -n = m := ⟨(-n).toNat, by omega⟩
    have H := hid (fun w => by have := dig14_nat m w (by omega); rwa [← hm] at this)
    have hd : Lib.itoa n = 45 :: Lib.decDigits m := by
      unfold Lib.itoa
      rw [if_pos h0, show n.natAbs = m by omega]
    have hsz : (bA (Lib.decDigits m)).size ≤ 19 := by
      rw [bA_size, Lib.decDigits_length]
      exact nDigits_le 19 _ (by omega) (by omega)
    have he : bA (Lib.itoa n) = (⟨#[45]⟩ : ByteArray) ++ bA (Lib.decDigits m) := by
      rw [hd, show (45 :: Lib.decDigits m) = [45] ++ Lib.decDigits m from rfl, bA_app]; rfl
    rw [he]
    clear he hd hs hm
    generalize bA (Lib.decDigits m) = S at *
    go_enter Tryz.func172, Tryz.ntmps172
    go_wp2_with (first | (go_at_call 172; (with_reducible refine (H.out w).mono ?_); rintro e w1 ⟨rfl, g1⟩))
    go_ret
    exact ⟨rfl, g1⟩
  · obtain ⟨m, rfl⟩ := Int.eq_ofNat_of_zero_le (show 0 ≤ n by omega)
    have he : Lib.itoa (m : Int) = Lib.decDigits m := by
      unfold Lib.itoa
      rw [if_neg h0]; rfl
    rw [he]
    exact dig14_nat m w (by omega)
end Go.Proofs.YtpkoboohnbkpoaaGreatDoor

/-! MT -/
namespace Go.Proofs.YtpkoboohnbkpoaaGreatDoor
open Go Go.RowKit Go.Joins

set_option maxHeartbeats 1000000 in
set_option maxRecDepth 100000 in
theorem rtext_n_true_z (s : List UInt8) (w : World) (HX : ∀ w : World, Calls Tryz.prog 171 #[.int .i64 0] w fun e w' => e = .returned (.tuple #[.string (bA (numX 0 true)), .int .i64 0]) ∧ Below w.heap.size w w') : Calls Tryz.prog 158 #[tkV ⟨2, s, 0, true⟩] w fun e w' => e = .returned (textR ⟨2, s, 0, true⟩) ∧ Below w.heap.size w w' := by
  have hb : strB s = bA s := rfl
  have HX := hid HX
  have HR : Hid (textF ⟨2, s, 0, true⟩ = some (numX 0 true)) := hid (by unfold textF; rw [if_pos ⟨rfl, rfl⟩])
  go_enter Tryz.func158, Tryz.ntmps158
  go_upto_region 2 with (first
    | (refine Sh.wp_box tkS (x := ⟨2, s, 0, true⟩) rfl (.tmp 0) rfl rfl ?_; intro w1 v1 b1 s1; have c0 : w1.cell? ⟨w.heap.size, 0, none⟩ = some (.int .i64 2) := v1.cell (j := 0) rfl; have c1 : w1.cell? ⟨w.heap.size, 1, none⟩ = some (.string (bA s)) := v1.cell (j := 1) rfl; have c2 : w1.cell? ⟨w.heap.size, 2, none⟩ = some (.int .i64 0) := v1.cell (j := 2) rfl; have c3 : w1.cell? ⟨w.heap.size, 3, none⟩ = some (.bool true) := v1.cell (j := 3) rfl; have B1 := hid b1; have V1 := hid v1; clear v1 b1 s1))
  go_wp2_with (first
    | (go_at_call 171; refine (HX.out w1).mono ?_; rintro e w2 ⟨rfl, g2⟩; have B2 := hid (B1.out.trans (g2.mono B1.out.size)); clear g2))
  go_ret2
  exact ⟨by unfold textR; rw [HR.out]; rfl, B2.out⟩
set_option maxHeartbeats 1000000 in
set_option maxRecDepth 100000 in
theorem rtext_n_true_x (s : List UInt8) (n : Int) (w : World) (hs : smallI n = true) (h0 : n ≠ 0) (HX : ∀ w : World, Calls Tryz.prog 171 #[.int .i64 n] w fun e w' => e = .returned (.tuple #[.string (bA (numX n true)), .int .i64 0]) ∧ Below w.heap.size w w') : Calls Tryz.prog 158 #[tkV ⟨2, s, n, true⟩] w fun e w' => e = .returned (textR ⟨2, s, n, true⟩) ∧ Below w.heap.size w w' := by
  have hb : strB s = bA s := rfl
  have HX := hid HX
  have hs' : -1000000000000000000 < n ∧ n < 1000000000000000000 := by simpa [smallI] using hs
  have HR : Hid (textF ⟨2, s, n, true⟩ = some (numX n true)) := hid (by unfold textF; rw [if_pos ⟨rfl, hs⟩])
  have hn1 : (n == 0) = false := beq_eq_false_iff_ne.2 h0
  have q1 : ¬ 1000000000000000000 ≤ n := by omega
  have q2 : ¬ n ≤ -1000000000000000000 := by omega
  clear hs h0 hs'
  go_enter Tryz.func158, Tryz.ntmps158
  go_upto_region 2 with (first
    | (refine Sh.wp_box tkS (x := ⟨2, s, n, true⟩) rfl (.tmp 0) rfl rfl ?_; intro w1 v1 b1 s1; have c0 : w1.cell? ⟨w.heap.size, 0, none⟩ = some (.int .i64 2) := v1.cell (j := 0) rfl; have c1 : w1.cell? ⟨w.heap.size, 1, none⟩ = some (.string (bA s)) := v1.cell (j := 1) rfl; have c2 : w1.cell? ⟨w.heap.size, 2, none⟩ = some (.int .i64 n) := v1.cell (j := 2) rfl; have c3 : w1.cell? ⟨w.heap.size, 3, none⟩ = some (.bool true) := v1.cell (j := 3) rfl; have B1 := hid b1; have V1 := hid v1; clear v1 b1 s1))
  go_wp2_with (first
    | (go_at_call 171; refine (HX.out w1).mono ?_; rintro e w2 ⟨rfl, g2⟩; have B2 := hid (B1.out.trans (g2.mono B1.out.size)); clear g2))
  go_ret2
  exact ⟨by unfold textR; rw [HR.out]; rfl, B2.out⟩
set_option maxHeartbeats 1000000 in
set_option maxRecDepth 100000 in
theorem rtext_n_false_z (s : List UInt8) (w : World) (HD : ∀ w : World, Calls Tryz.prog 172 #[.int .i64 0] w fun e w' => e = .returned (.string (bA (numX 0 false))) ∧ Below w.heap.size w w') : Calls Tryz.prog 158 #[tkV ⟨2, s, 0, false⟩] w fun e w' => e = .returned (textR ⟨2, s, 0, false⟩) ∧ Below w.heap.size w w' := by
  have hb : strB s = bA s := rfl
  have HD := hid HD
  have HR : Hid (textF ⟨2, s, 0, false⟩ = some (numX 0 false)) := hid (by unfold textF; rw [if_pos ⟨rfl, rfl⟩])
  go_enter Tryz.func158, Tryz.ntmps158
  go_upto_region 2 with (first
    | (refine Sh.wp_box tkS (x := ⟨2, s, 0, false⟩) rfl (.tmp 0) rfl rfl ?_; intro w1 v1 b1 s1; have c0 : w1.cell? ⟨w.heap.size, 0, none⟩ = some (.int .i64 2) := v1.cell (j := 0) rfl; have c1 : w1.cell? ⟨w.heap.size, 1, none⟩ = some (.string (bA s)) := v1.cell (j := 1) rfl; have c2 : w1.cell? ⟨w.heap.size, 2, none⟩ = some (.int .i64 0) := v1.cell (j := 2) rfl; have c3 : w1.cell? ⟨w.heap.size, 3, none⟩ = some (.bool false) := v1.cell (j := 3) rfl; have B1 := hid b1; have V1 := hid v1; clear v1 b1 s1))
  go_wp2_with (first
    | (go_at_call 172; refine (HD.out w1).mono ?_; rintro e w2 ⟨rfl, g2⟩; have B2 := hid (B1.out.trans (g2.mono B1.out.size)); clear g2))
  go_ret2
  exact ⟨by unfold textR; rw [HR.out]; rfl, B2.out⟩
set_option maxHeartbeats 1000000 in
set_option maxRecDepth 100000 in
theorem rtext_n_false_x (s : List UInt8) (n : Int) (w : World) (hs : smallI n = true) (h0 : n ≠ 0) (HD : ∀ w : World, Calls Tryz.prog 172 #[.int .i64 n] w fun e w' => e = .returned (.string (bA (numX n false))) ∧ Below w.heap.size w w') : Calls Tryz.prog 158 #[tkV ⟨2, s, n, false⟩] w fun e w' => e = .returned (textR ⟨2, s, n, false⟩) ∧ Below w.heap.size w w' := by
  have hb : strB s = bA s := rfl
  have HD := hid HD
  have hs' : -1000000000000000000 < n ∧ n < 1000000000000000000 := by simpa [smallI] using hs
  have HR : Hid (textF ⟨2, s, n, false⟩ = some (numX n false)) := hid (by unfold textF; rw [if_pos ⟨rfl, hs⟩])
  have hn1 : (n == 0) = false := beq_eq_false_iff_ne.2 h0
  have q1 : ¬ 1000000000000000000 ≤ n := by omega
  have q2 : ¬ n ≤ -1000000000000000000 := by omega
  clear hs h0 hs'
  go_enter Tryz.func158, Tryz.ntmps158
  go_upto_region 2 with (first
    | (refine Sh.wp_box tkS (x := ⟨2, s, n, false⟩) rfl (.tmp 0) rfl rfl ?_; intro w1 v1 b1 s1; have c0 : w1.cell? ⟨w.heap.size, 0, none⟩ = some (.int .i64 2) := v1.cell (j := 0) rfl; have c1 : w1.cell? ⟨w.heap.size, 1, none⟩ = some (.string (bA s)) := v1.cell (j := 1) rfl; have c2 : w1.cell? ⟨w.heap.size, 2, none⟩ = some (.int .i64 n) := v1.cell (j := 2) rfl; have c3 : w1.cell? ⟨w.heap.size, 3, none⟩ = some (.bool false) := v1.cell (j := 3) rfl; have B1 := hid b1; have V1 := hid v1; clear v1 b1 s1))
  go_wp2_with (first
    | (go_at_call 172; refine (HD.out w1).mono ?_; rintro e w2 ⟨rfl, g2⟩; have B2 := hid (B1.out.trans (g2.mono B1.out.size)); clear g2))
  go_ret2
  exact ⟨by unfold textR; rw [HR.out]; rfl, B2.out⟩
set_option maxHeartbeats 1000000 in
set_option maxRecDepth 100000 in
theorem rtext_big_hi (s : List UInt8) (n : Int) (tm : Bool) (w : World) (hq : 1000000000000000000 ≤ n) : Calls Tryz.prog 158 #[tkV ⟨2, s, n, tm⟩] w fun e w' => e = .returned (textR ⟨2, s, n, tm⟩) ∧ Below w.heap.size w w' := by
  have hn1 : (n == 0) = false := beq_eq_false_iff_ne.2 (by omega)
  have HR : Hid (textF ⟨2, s, n, tm⟩ = none) := hid (by unfold textF; rw [if_neg (by rintro ⟨_, h⟩; simp [smallI] at h; omega), if_pos (.inl (by show n ≠ 0; omega))])
  go_enter Tryz.func158, Tryz.ntmps158
  go_upto_region 2 with (first
    | (refine Sh.wp_box tkS (x := ⟨2, s, n, tm⟩) rfl (.tmp 0) rfl rfl ?_; intro w1 v1 b1 s1; have c0 : w1.cell? ⟨w.heap.size, 0, none⟩ = some (.int .i64 2) := v1.cell (j := 0) rfl; have c1 : w1.cell? ⟨w.heap.size, 1, none⟩ = some (.string (bA s)) := v1.cell (j := 1) rfl; have c2 : w1.cell? ⟨w.heap.size, 2, none⟩ = some (.int .i64 n) := v1.cell (j := 2) rfl; have c3 : w1.cell? ⟨w.heap.size, 3, none⟩ = some (.bool tm) := v1.cell (j := 3) rfl; have B1 := hid b1; have V1 := hid v1; clear v1 b1 s1))
  go_wp2_with fail
  go_ret2
  exact ⟨by unfold textR; rw [HR.out]; rfl, B1.out⟩
set_option maxHeartbeats 1000000 in
set_option maxRecDepth 100000 in
theorem rtext_big_lo (s : List UInt8) (n : Int) (tm : Bool) (w : World) (hq : n ≤ -1000000000000000000) : Calls Tryz.prog 158 #[tkV ⟨2, s, n, tm⟩] w fun e w' => e = .returned (textR ⟨2, s, n, tm⟩) ∧ Below w.heap.size w w' := by
  have hn1 : (n == 0) = false := beq_eq_false_iff_ne.2 (by omega)
  have HR : Hid (textF ⟨2, s, n, tm⟩ = none) := hid (by unfold textF; rw [if_neg (by rintro ⟨_, h⟩; simp [smallI] at h; omega), if_pos (.inl (by show n ≠ 0; omega))])
  have q0 : ¬ 1000000000000000000 ≤ n := by omega
  go_enter Tryz.func158, Tryz.ntmps158
  go_upto_region 2 with (first
    | (refine Sh.wp_box tkS (x := ⟨2, s, n, tm⟩) rfl (.tmp 0) rfl rfl ?_; intro w1 v1 b1 s1; have c0 : w1.cell? ⟨w.heap.size, 0, none⟩ = some (.int .i64 2) := v1.cell (j := 0) rfl; have c1 : w1.cell? ⟨w.heap.size, 1, none⟩ = some (.string (bA s)) := v1.cell (j := 1) rfl; have c2 : w1.cell? ⟨w.heap.size, 2, none⟩ = some (.int .i64 n) := v1.cell (j := 2) rfl; have c3 : w1.cell? ⟨w.heap.size, 3, none⟩ = some (.bool tm) := v1.cell (j := 3) rfl; have B1 := hid b1; have V1 := hid v1; clear v1 b1 s1))
  go_wp2_with fail
  go_ret2
  exact ⟨by unfold textR; rw [HR.out]; rfl, B1.out⟩
set_option maxHeartbeats 1000000 in
set_option maxRecDepth 100000 in
theorem rtext_on_1 (s : List UInt8) (n : Int) (tm : Bool) (w : World) (h0 : n ≠ 0) : Calls Tryz.prog 158 #[tkV ⟨1, s, n, tm⟩] w fun e w' => e = .returned (textR ⟨1, s, n, tm⟩) ∧ Below w.heap.size w w' := by
  have h2 : ¬ (1 : Int) = 2 := by decide
  have hn1 : (n == 0) = false := beq_eq_false_iff_ne.2 h0
  have HR : Hid (textF ⟨1, s, n, tm⟩ = none) := hid (by unfold textF; rw [if_neg (fun h => h2 h.1), if_pos (.inl h0)])
  go_enter Tryz.func158, Tryz.ntmps158
  go_upto_region 2 with (first
    | (refine Sh.wp_box tkS (x := ⟨1, s, n, tm⟩) rfl (.tmp 0) rfl rfl ?_; intro w1 v1 b1 s1; have c0 : w1.cell? ⟨w.heap.size, 0, none⟩ = some (.int .i64 1) := v1.cell (j := 0) rfl; have c1 : w1.cell? ⟨w.heap.size, 1, none⟩ = some (.string (bA s)) := v1.cell (j := 1) rfl; have c2 : w1.cell? ⟨w.heap.size, 2, none⟩ = some (.int .i64 n) := v1.cell (j := 2) rfl; have c3 : w1.cell? ⟨w.heap.size, 3, none⟩ = some (.bool tm) := v1.cell (j := 3) rfl; have B1 := hid b1; have V1 := hid v1; clear v1 b1 s1))
  go_wp2_with fail
  go_ret2
  exact ⟨by unfold textR; rw [HR.out]; rfl, B1.out⟩
set_option maxHeartbeats 1000000 in
set_option maxRecDepth 100000 in
theorem rtext_on_3 (s : List UInt8) (n : Int) (tm : Bool) (w : World) (h0 : n ≠ 0) : Calls Tryz.prog 158 #[tkV ⟨3, s, n, tm⟩] w fun e w' => e = .returned (textR ⟨3, s, n, tm⟩) ∧ Below w.heap.size w w' := by
  have h2 : ¬ (3 : Int) = 2 := by decide
  have hn1 : (n == 0) = false := beq_eq_false_iff_ne.2 h0
  have HR : Hid (textF ⟨3, s, n, tm⟩ = none) := hid (by unfold textF; rw [if_neg (fun h => h2 h.1), if_pos (.inl h0)])
  go_enter Tryz.func158, Tryz.ntmps158
  go_upto_region 2 with (first
    | (refine Sh.wp_box tkS (x := ⟨3, s, n, tm⟩) rfl (.tmp 0) rfl rfl ?_; intro w1 v1 b1 s1; have c0 : w1.cell? ⟨w.heap.size, 0, none⟩ = some (.int .i64 3) := v1.cell (j := 0) rfl; have c1 : w1.cell? ⟨w.heap.size, 1, none⟩ = some (.string (bA s)) := v1.cell (j := 1) rfl; have c2 : w1.cell? ⟨w.heap.size, 2, none⟩ = some (.int .i64 n) := v1.cell (j := 2) rfl; have c3 : w1.cell? ⟨w.heap.size, 3, none⟩ = some (.bool tm) := v1.cell (j := 3) rfl; have B1 := hid b1; have V1 := hid v1; clear v1 b1 s1))
  go_wp2_with fail
  go_ret2
  exact ⟨by unfold textR; rw [HR.out]; rfl, B1.out⟩
set_option maxHeartbeats 1000000 in
set_option maxRecDepth 100000 in
theorem rtext_on_x (k : Int) (s : List UInt8) (n : Int) (tm : Bool) (w : World) (h2 : k ≠ 2) (h1 : (k == 1) = false) (h3 : (k == 3) = false) (h0 : n ≠ 0) : Calls Tryz.prog 158 #[tkV ⟨k, s, n, tm⟩] w fun e w' => e = .returned (textR ⟨k, s, n, tm⟩) ∧ Below w.heap.size w w' := by
  have hk2 : (k != 2) = true := by simp [h2]
  have hn1 : (n == 0) = false := beq_eq_false_iff_ne.2 h0
  have HR : Hid (textF ⟨k, s, n, tm⟩ = none) := hid (by unfold textF; rw [if_neg (fun h => h2 h.1), if_pos (.inl h0)])
  go_enter Tryz.func158, Tryz.ntmps158
  go_upto_region 2 with (first
    | (refine Sh.wp_box tkS (x := ⟨k, s, n, tm⟩) rfl (.tmp 0) rfl rfl ?_; intro w1 v1 b1 s1; have c0 : w1.cell? ⟨w.heap.size, 0, none⟩ = some (.int .i64 k) := v1.cell (j := 0) rfl; have c1 : w1.cell? ⟨w.heap.size, 1, none⟩ = some (.string (bA s)) := v1.cell (j := 1) rfl; have c2 : w1.cell? ⟨w.heap.size, 2, none⟩ = some (.int .i64 n) := v1.cell (j := 2) rfl; have c3 : w1.cell? ⟨w.heap.size, 3, none⟩ = some (.bool tm) := v1.cell (j := 3) rfl; have B1 := hid b1; have V1 := hid v1; clear v1 b1 s1))
  go_wp2_with fail
  go_ret2
  exact ⟨by unfold textR; rw [HR.out]; rfl, B1.out⟩
set_option maxHeartbeats 1000000 in
set_option maxRecDepth 100000 in
theorem rtext_ot_1 (s : List UInt8)  (w : World) : Calls Tryz.prog 158 #[tkV ⟨1, s, 0, true⟩] w fun e w' => e = .returned (textR ⟨1, s, 0, true⟩) ∧ Below w.heap.size w w' := by
  have h2 : ¬ (1 : Int) = 2 := by decide
  have HR : Hid (textF ⟨1, s, 0, true⟩ = none) := hid (by unfold textF; rw [if_neg (fun h => h2 h.1), if_pos (.inr rfl)])
  go_enter Tryz.func158, Tryz.ntmps158
  go_upto_region 2 with (first
    | (refine Sh.wp_box tkS (x := ⟨1, s, 0, true⟩) rfl (.tmp 0) rfl rfl ?_; intro w1 v1 b1 s1; have c0 : w1.cell? ⟨w.heap.size, 0, none⟩ = some (.int .i64 1) := v1.cell (j := 0) rfl; have c1 : w1.cell? ⟨w.heap.size, 1, none⟩ = some (.string (bA s)) := v1.cell (j := 1) rfl; have c2 : w1.cell? ⟨w.heap.size, 2, none⟩ = some (.int .i64 0) := v1.cell (j := 2) rfl; have c3 : w1.cell? ⟨w.heap.size, 3, none⟩ = some (.bool true) := v1.cell (j := 3) rfl; have B1 := hid b1; have V1 := hid v1; clear v1 b1 s1))
  go_wp2_with fail
  go_ret2
  exact ⟨by unfold textR; rw [HR.out]; rfl, B1.out⟩
set_option maxHeartbeats 1000000 in
set_option maxRecDepth 100000 in
theorem rtext_ot_3 (s : List UInt8)  (w : World) : Calls Tryz.prog 158 #[tkV ⟨3, s, 0, true⟩] w fun e w' => e = .returned (textR ⟨3, s, 0, true⟩) ∧ Below w.heap.size w w' := by
  have h2 : ¬ (3 : Int) = 2 := by decide
  have HR : Hid (textF ⟨3, s, 0, true⟩ = none) := hid (by unfold textF; rw [if_neg (fun h => h2 h.1), if_pos (.inr rfl)])
  go_enter Tryz.func158, Tryz.ntmps158
  go_upto_region 2 with (first
    | (refine Sh.wp_box tkS (x := ⟨3, s, 0, true⟩) rfl (.tmp 0) rfl rfl ?_; intro w1 v1 b1 s1; have c0 : w1.cell? ⟨w.heap.size, 0, none⟩ = some (.int .i64 3) := v1.cell (j := 0) rfl; have c1 : w1.cell? ⟨w.heap.size, 1, none⟩ = some (.string (bA s)) := v1.cell (j := 1) rfl; have c2 : w1.cell? ⟨w.heap.size, 2, none⟩ = some (.int .i64 0) := v1.cell (j := 2) rfl; have c3 : w1.cell? ⟨w.heap.size, 3, none⟩ = some (.bool true) := v1.cell (j := 3) rfl; have B1 := hid b1; have V1 := hid v1; clear v1 b1 s1))
  go_wp2_with fail
  go_ret2
  exact ⟨by unfold textR; rw [HR.out]; rfl, B1.out⟩
set_option maxHeartbeats 1000000 in
set_option maxRecDepth 100000 in
theorem rtext_ot_x (k : Int) (s : List UInt8)  (w : World) (h2 : k ≠ 2) (h1 : (k == 1) = false) (h3 : (k == 3) = false) : Calls Tryz.prog 158 #[tkV ⟨k, s, 0, true⟩] w fun e w' => e = .returned (textR ⟨k, s, 0, true⟩) ∧ Below w.heap.size w w' := by
  have hk2 : (k != 2) = true := by simp [h2]
  have HR : Hid (textF ⟨k, s, 0, true⟩ = none) := hid (by unfold textF; rw [if_neg (fun h => h2 h.1), if_pos (.inr rfl)])
  go_enter Tryz.func158, Tryz.ntmps158
  go_upto_region 2 with (first
    | (refine Sh.wp_box tkS (x := ⟨k, s, 0, true⟩) rfl (.tmp 0) rfl rfl ?_; intro w1 v1 b1 s1; have c0 : w1.cell? ⟨w.heap.size, 0, none⟩ = some (.int .i64 k) := v1.cell (j := 0) rfl; have c1 : w1.cell? ⟨w.heap.size, 1, none⟩ = some (.string (bA s)) := v1.cell (j := 1) rfl; have c2 : w1.cell? ⟨w.heap.size, 2, none⟩ = some (.int .i64 0) := v1.cell (j := 2) rfl; have c3 : w1.cell? ⟨w.heap.size, 3, none⟩ = some (.bool true) := v1.cell (j := 3) rfl; have B1 := hid b1; have V1 := hid v1; clear v1 b1 s1))
  go_wp2_with fail
  go_ret2
  exact ⟨by unfold textR; rw [HR.out]; rfl, B1.out⟩
set_option maxHeartbeats 1000000 in
set_option maxRecDepth 100000 in
theorem rtext_o0_x (k : Int) (s : List UInt8) (w : World) (h2 : k ≠ 2) (h1 : k ≠ 1) (h3 : k ≠ 3) : Calls Tryz.prog 158 #[tkV ⟨k, s, 0, false⟩] w fun e w' => e = .returned (textR ⟨k, s, 0, false⟩) ∧ Below w.heap.size w w' := by
  have hk2 : (k != 2) = true := by simp [h2]
  have hk1 : (k == 1) = false := beq_eq_false_iff_ne.2 h1
  have hk3 : (k == 3) = false := beq_eq_false_iff_ne.2 h3
  have HR : Hid (textF ⟨k, s, 0, false⟩ = none) := hid (by unfold textF; rw [if_neg (fun h => h2 h.1), if_neg (by simp), if_neg (fun h => h1 h.1), if_neg (fun h => h3 h.1)])
  go_enter Tryz.func158, Tryz.ntmps158
  go_upto_region 2 with (first
    | (refine Sh.wp_box tkS (x := ⟨k, s, 0, false⟩) rfl (.tmp 0) rfl rfl ?_; intro w1 v1 b1 s1; have c0 : w1.cell? ⟨w.heap.size, 0, none⟩ = some (.int .i64 k) := v1.cell (j := 0) rfl; have c1 : w1.cell? ⟨w.heap.size, 1, none⟩ = some (.string (bA s)) := v1.cell (j := 1) rfl; have c2 : w1.cell? ⟨w.heap.size, 2, none⟩ = some (.int .i64 0) := v1.cell (j := 2) rfl; have c3 : w1.cell? ⟨w.heap.size, 3, none⟩ = some (.bool false) := v1.cell (j := 3) rfl; have B1 := hid b1; have V1 := hid v1; clear v1 b1 s1))
  go_wp2_with fail
  go_ret2
  exact ⟨by unfold textR; rw [HR.out]; rfl, B1.out⟩
set_option maxHeartbeats 1000000 in
set_option maxRecDepth 100000 in
theorem rtext_w_true (s : List UInt8) (w : World) (hsz : s.length ≤ 1099511627776) (hw : wordB s = true) : Calls Tryz.prog 158 #[tkV ⟨1, s, 0, false⟩] w fun e w' => e = .returned (textR ⟨1, s, 0, false⟩) ∧ Below w.heap.size w w' := by
  have HW := hid (fun w => by have := rword_any (bA s) w (by rw [bA_size]; omega); unfold WordPost at this; rwa [bA_list, hw] at this)
  have HR : Hid (textF ⟨1, s, 0, false⟩ = some s) := hid (by unfold textF; rw [if_neg (fun h => by have : (1 : Int) = 2 := h.1; omega), if_neg (by simp), if_pos ⟨rfl, hw⟩])
  clear hw hsz
  go_enter Tryz.func158, Tryz.ntmps158
  go_upto_region 2 with (first
    | (refine Sh.wp_box tkS (x := ⟨1, s, 0, false⟩) rfl (.tmp 0) rfl rfl ?_; intro w1 v1 b1 s1; have c0 : w1.cell? ⟨w.heap.size, 0, none⟩ = some (.int .i64 1) := v1.cell (j := 0) rfl; have c1 : w1.cell? ⟨w.heap.size, 1, none⟩ = some (.string (bA s)) := v1.cell (j := 1) rfl; have c2 : w1.cell? ⟨w.heap.size, 2, none⟩ = some (.int .i64 0) := v1.cell (j := 2) rfl; have c3 : w1.cell? ⟨w.heap.size, 3, none⟩ = some (.bool false) := v1.cell (j := 3) rfl; have B1 := hid b1; have V1 := hid v1; clear v1 b1 s1))
  go_wp2_with (first
    | (go_at_call 141; refine (HW.out w1).mono ?_; rintro e w2 ⟨rfl, g2⟩; have V2 := hid (V1.out.keep g2); have d0 : w2.cell? ⟨w.heap.size, 0, none⟩ = some (.int .i64 1) := V2.out.cell (j := 0) rfl; have d1 : w2.cell? ⟨w.heap.size, 1, none⟩ = some (.string (bA s)) := V2.out.cell (j := 1) rfl; have B2 := hid (B1.out.trans (g2.mono B1.out.size)); clear g2))
  go_ret2
  exact ⟨by unfold textR; rw [HR.out]; rfl, B2.out⟩
set_option maxHeartbeats 1000000 in
set_option maxRecDepth 100000 in
theorem rtext_w_false (s : List UInt8) (w : World) (hsz : s.length ≤ 1099511627776) (hw : wordB s = false) : Calls Tryz.prog 158 #[tkV ⟨1, s, 0, false⟩] w fun e w' => e = .returned (textR ⟨1, s, 0, false⟩) ∧ Below w.heap.size w w' := by
  have HW := hid (fun w => by have := rword_any (bA s) w (by rw [bA_size]; omega); unfold WordPost at this; rwa [bA_list, hw] at this)
  have HR : Hid (textF ⟨1, s, 0, false⟩ = none) := hid (by unfold textF; rw [if_neg (fun h => by have : (1 : Int) = 2 := h.1; omega), if_neg (by simp), if_neg (by rintro ⟨_, h⟩; rw [hw] at h; cases h), if_neg (fun h => by have : (1 : Int) = 3 := h.1; omega)])
  clear hw hsz
  go_enter Tryz.func158, Tryz.ntmps158
  go_upto_region 2 with (first
    | (refine Sh.wp_box tkS (x := ⟨1, s, 0, false⟩) rfl (.tmp 0) rfl rfl ?_; intro w1 v1 b1 s1; have c0 : w1.cell? ⟨w.heap.size, 0, none⟩ = some (.int .i64 1) := v1.cell (j := 0) rfl; have c1 : w1.cell? ⟨w.heap.size, 1, none⟩ = some (.string (bA s)) := v1.cell (j := 1) rfl; have c2 : w1.cell? ⟨w.heap.size, 2, none⟩ = some (.int .i64 0) := v1.cell (j := 2) rfl; have c3 : w1.cell? ⟨w.heap.size, 3, none⟩ = some (.bool false) := v1.cell (j := 3) rfl; have B1 := hid b1; have V1 := hid v1; clear v1 b1 s1))
  go_wp2_with (first
    | (go_at_call 141; refine (HW.out w1).mono ?_; rintro e w2 ⟨rfl, g2⟩; have V2 := hid (V1.out.keep g2); have d0 : w2.cell? ⟨w.heap.size, 0, none⟩ = some (.int .i64 1) := V2.out.cell (j := 0) rfl; have d1 : w2.cell? ⟨w.heap.size, 1, none⟩ = some (.string (bA s)) := V2.out.cell (j := 1) rfl; have B2 := hid (B1.out.trans (g2.mono B1.out.size)); clear g2))
  go_ret2
  exact ⟨by unfold textR; rw [HR.out]; rfl, B2.out⟩
set_option maxHeartbeats 1000000 in
set_option maxRecDepth 100000 in
theorem rtext_s_59  (w : World) : Calls Tryz.prog 158 #[tkV ⟨3, [59], 0, false⟩] w fun e w' => e = .returned (textR ⟨3, [59], 0, false⟩) ∧ Below w.heap.size w w' := by
  have HR : Hid (textF ⟨3, [59], 0, false⟩ = some [59]) := hid (by decide)
  have e59 : ((bA [59]).toList == [59]) = true := by rw [ByteArray.toList_eq]; decide
  have e123 : ((bA [59]).toList == [123]) = false := by rw [ByteArray.toList_eq]; decide
  have e125 : ((bA [59]).toList == [125]) = false := by rw [ByteArray.toList_eq]; decide
  go_enter Tryz.func158, Tryz.ntmps158
  go_upto_region 2 with (first
    | (refine Sh.wp_box tkS (x := ⟨3, [59], 0, false⟩) rfl (.tmp 0) rfl rfl ?_; intro w1 v1 b1 s1; have c0 : w1.cell? ⟨w.heap.size, 0, none⟩ = some (.int .i64 3) := v1.cell (j := 0) rfl; have c1 : w1.cell? ⟨w.heap.size, 1, none⟩ = some (.string (bA [59])) := v1.cell (j := 1) rfl; have c2 : w1.cell? ⟨w.heap.size, 2, none⟩ = some (.int .i64 0) := v1.cell (j := 2) rfl; have c3 : w1.cell? ⟨w.heap.size, 3, none⟩ = some (.bool false) := v1.cell (j := 3) rfl; have B1 := hid b1; have V1 := hid v1; clear v1 b1 s1))
  go_wp2_with fail
  go_ret2
  exact ⟨by unfold textR; rw [HR.out]; rfl, B1.out⟩
set_option maxHeartbeats 1000000 in
set_option maxRecDepth 100000 in
theorem rtext_s_123  (w : World) : Calls Tryz.prog 158 #[tkV ⟨3, [123], 0, false⟩] w fun e w' => e = .returned (textR ⟨3, [123], 0, false⟩) ∧ Below w.heap.size w w' := by
  have HR : Hid (textF ⟨3, [123], 0, false⟩ = some [123]) := hid (by decide)
  have e59 : ((bA [123]).toList == [59]) = false := by rw [ByteArray.toList_eq]; decide
  have e123 : ((bA [123]).toList == [123]) = true := by rw [ByteArray.toList_eq]; decide
  have e125 : ((bA [123]).toList == [125]) = false := by rw [ByteArray.toList_eq]; decide
  go_enter Tryz.func158, Tryz.ntmps158
  go_upto_region 2 with (first
    | (refine Sh.wp_box tkS (x := ⟨3, [123], 0, false⟩) rfl (.tmp 0) rfl rfl ?_; intro w1 v1 b1 s1; have c0 : w1.cell? ⟨w.heap.size, 0, none⟩ = some (.int .i64 3) := v1.cell (j := 0) rfl; have c1 : w1.cell? ⟨w.heap.size, 1, none⟩ = some (.string (bA [123])) := v1.cell (j := 1) rfl; have c2 : w1.cell? ⟨w.heap.size, 2, none⟩ = some (.int .i64 0) := v1.cell (j := 2) rfl; have c3 : w1.cell? ⟨w.heap.size, 3, none⟩ = some (.bool false) := v1.cell (j := 3) rfl; have B1 := hid b1; have V1 := hid v1; clear v1 b1 s1))
  go_wp2_with fail
  go_ret2
  exact ⟨by unfold textR; rw [HR.out]; rfl, B1.out⟩
set_option maxHeartbeats 1000000 in
set_option maxRecDepth 100000 in
theorem rtext_s_125  (w : World) : Calls Tryz.prog 158 #[tkV ⟨3, [125], 0, false⟩] w fun e w' => e = .returned (textR ⟨3, [125], 0, false⟩) ∧ Below w.heap.size w w' := by
  have HR : Hid (textF ⟨3, [125], 0, false⟩ = some [125]) := hid (by decide)
  have e59 : ((bA [125]).toList == [59]) = false := by rw [ByteArray.toList_eq]; decide
  have e123 : ((bA [125]).toList == [123]) = false := by rw [ByteArray.toList_eq]; decide
  have e125 : ((bA [125]).toList == [125]) = true := by rw [ByteArray.toList_eq]; decide
  go_enter Tryz.func158, Tryz.ntmps158
  go_upto_region 2 with (first
    | (refine Sh.wp_box tkS (x := ⟨3, [125], 0, false⟩) rfl (.tmp 0) rfl rfl ?_; intro w1 v1 b1 s1; have c0 : w1.cell? ⟨w.heap.size, 0, none⟩ = some (.int .i64 3) := v1.cell (j := 0) rfl; have c1 : w1.cell? ⟨w.heap.size, 1, none⟩ = some (.string (bA [125])) := v1.cell (j := 1) rfl; have c2 : w1.cell? ⟨w.heap.size, 2, none⟩ = some (.int .i64 0) := v1.cell (j := 2) rfl; have c3 : w1.cell? ⟨w.heap.size, 3, none⟩ = some (.bool false) := v1.cell (j := 3) rfl; have B1 := hid b1; have V1 := hid v1; clear v1 b1 s1))
  go_wp2_with fail
  go_ret2
  exact ⟨by unfold textR; rw [HR.out]; rfl, B1.out⟩
set_option maxHeartbeats 1000000 in
set_option maxRecDepth 100000 in
theorem rtext_s_no (s : List UInt8) (w : World) (hw : signL s = false) : Calls Tryz.prog 158 #[tkV ⟨3, s, 0, false⟩] w fun e w' => e = .returned (textR ⟨3, s, 0, false⟩) ∧ Below w.heap.size w w' := by
  have HR : Hid (textF ⟨3, s, 0, false⟩ = none) := hid (by unfold textF; rw [if_neg (fun h => by have : (3 : Int) = 2 := h.1; omega), if_neg (by simp), if_neg (fun h => by have : (3 : Int) = 1 := h.1; omega), if_neg (by rintro ⟨_, h⟩; rw [hw] at h; cases h)])
  have hne : ∀ c, sgB c = true → ((bA s).toList == [c]) = false := fun c hc => by
    rw [ByteArray.toList_eq, beq_eq_false_iff_ne]
    rintro h
    have h : s = [c] := h
    subst h
    rw [show signL [c] = sgB c from rfl, hc] at hw
    cases hw
  have e59 := hne 59 (by decide)
  have e123 := hne 123 (by decide)
  have e125 := hne 125 (by decide)
  clear hne hw
  go_enter Tryz.func158, Tryz.ntmps158
  go_upto_region 2 with (first
    | (refine Sh.wp_box tkS (x := ⟨3, s, 0, false⟩) rfl (.tmp 0) rfl rfl ?_; intro w1 v1 b1 s1; have c0 : w1.cell? ⟨w.heap.size, 0, none⟩ = some (.int .i64 3) := v1.cell (j := 0) rfl; have c1 : w1.cell? ⟨w.heap.size, 1, none⟩ = some (.string (bA s)) := v1.cell (j := 1) rfl; have c2 : w1.cell? ⟨w.heap.size, 2, none⟩ = some (.int .i64 0) := v1.cell (j := 2) rfl; have c3 : w1.cell? ⟨w.heap.size, 3, none⟩ = some (.bool false) := v1.cell (j := 3) rfl; have B1 := hid b1; have V1 := hid v1; clear v1 b1 s1))
  go_wp2_with fail
  go_ret2
  exact ⟨by unfold textR; rw [HR.out]; rfl, B1.out⟩
end Go.Proofs.YtpkoboohnbkpoaaGreatDoor
