/-
  The contract of parse.room and parse.Check at forests of any size, each level of which has at most a million statements; how deep and how large such are that Few lets pass. Texts of at most a million bytes a word.
-/
import Derived.Test.YtkfnkieljcipnaaGreatDoorZWB
import Derived.Test.YtkfnkieljcipnaaGreatDoorK8
import Derived.Test.YtkfnkieljcipnaaGreatDoorK7
namespace Go.Proofs.YtkfnkieljcipnaaGreatDoor
open Go Go.RowKit Go.Joins

/-- no level has more than a million statements -/
def Fo.okB : Fo → Prop
  | nil => True
  | cons _ _ _ y n => (y.len ≤ 1000000 ∧ y.okB) ∧ n.okB
def Fo.okL (f : Fo) : Prop := f.len ≤ 1000000 ∧ f.okB
theorem okB_app {f g : Fo} (h : f.okB) (h2 : g.okB) : (f.app g).okB := by
  induction f with
  | nil => exact h2
  | cons w ns b y n _ ih => exact ⟨h.1, ih h.2⟩
theorem okS_app {f g : Fo} (h : f.okS) (h2 : g.okS) : (f.app g).okS := by
  induction f with
  | nil => exact h2
  | cons w ns b y n _ ih => exact ⟨h.1, h.2.1, h.2.2.1, ih h.2.2.2⟩
theorem few_parts : ∀ (f : Fo) (d : Int), 0 ≤ d → f.len = 0 ∨ 0 < d → f.fewE d = true → f.okB ∧ f.okS ∧ f.okN ∧ (f.depth : Int) ≤ d + 1
  | .nil, d, h0, _, _ => ⟨trivial, trivial, trivial, by simp [Fo.depth]; omega⟩
  | .cons wd ns bl y n, d, h0, hd, h => by
    have hd : 0 < d := by rcases hd with h | h; simp [Fo.len] at h; exact h
    simp only [Fo.fewE, Bool.and_eq_true, decide_eq_true_eq] at h
    obtain ⟨⟨h1, h2, h3, h4⟩, h5⟩ := h
    have hy : y.len ≤ 2100 ∧ (y.len = 0 ∨ 0 < d - 1) := by
      simp only [fewH, Bool.and_eq_true, decide_eq_true_eq, Bool.not_eq_true', Bool.and_eq_false_iff, decide_eq_false_iff_not] at h3
      omega
    obtain ⟨a1, a2, a3, a4⟩ := few_parts y (d - 1) (by omega) hy.2 h4
    obtain ⟨b1, b2, b3, b4⟩ := few_parts n d h0 (.inr hd) h5
    refine ⟨⟨⟨by omega, a1⟩, b1⟩, ⟨by omega, by omega, a2, b2⟩, ⟨by omega, a3, b3⟩, ?_⟩
    simp only [Fo.depth]
    cases bl <;> simp <;> omega
theorem few_ok {f : Fo} (h : (fewH f.len 12 && f.fewE 12) = true) : f.okL ∧ f.okS ∧ f.okN ∧ f.depth ≤ 13 := by
  simp only [Bool.and_eq_true] at h
  have h1 : f.len ≤ 2100 := by
    have := h.1
    simp only [fewH, Bool.and_eq_true, decide_eq_true_eq] at this
    exact this.2
  obtain ⟨a1, a2, a3, a4⟩ := few_parts f 12 (by decide) (.inr (by decide)) h.2
  exact ⟨⟨by omega, a1⟩, a2, a3, by omega⟩
theorem roomF_ge : ∀ (f : Fo) (m d : Int), (f.len = 0 → -1 ≤ m) → -1 ≤ f.roomF m d := by
  intro f
  induction f with
  | nil => intro m d h; simp only [Fo.roomF]; exact h rfl
  | cons wd ns bl y n ih1 ih2 =>
    intro m d _
    rw [Fo.roomF]
    split
    · omega
    · rename_i h0
      have hm : ¬ m < 0 := fun h => h0 (.inl h)
      refine ih2 _ d fun _ => ih1 _ _ fun hy => by omega

def Room2Said (f : Fo) : Prop := ∀ (w : World) (K : Nat → Prop) (A : Option Addr) (n c : Nat) (many deep : Int), TrS w K A n f → f.okS → f.okL → 0 ≤ many → many ≤ 2305843009213693952 → -2305843009213693952 ≤ deep - f.depth → deep ≤ 2305843009213693952 →
  Calls Tryz.prog 44 #[.slice A n c, .int .i64 many, .int .i64 deep] w fun e w' => e = .returned (.int .i64 (f.roomF (many - f.len) deep)) ∧ Below w.heap.size w w'
set_option maxHeartbeats 2000000 in
set_option maxRecDepth 100000 in
theorem room2_step (f : Fo) (hf : f.Bodies Room2Said) : Room2Said f := by
  intro w K A n c many deep ht hok hc hm1 hm2 hd1 hd2
  have HL := hid (show f.len = n from ht.len.symm)
  obtain ⟨xs, hx, htr⟩ := ht
  have HX := hid hx
  have HC := hid hc
  have HS0 := hid (And.intro hf (And.intro htr hok))
  have hn : (n : Int) ≤ 1000000 := by have := HC.out.1; have := HL.out; omega
  obtain ⟨R, hR⟩ : ∃ R, f.roomF (many - f.len) deep = R := ⟨_, rfl⟩
  rw [hR]
  have HR := hid (show f.roomF (many - n) deep = R by rw [← HL.out]; exact hR)
  have HD := hid hd1
  have hdl : -2305843009213693952 ≤ deep := by have := f.depth; omega
  clear hx hc hf htr hR hok hd1
  go_enter Tryz.func44, Tryz.ntmps44
  go_wp2
  go_loopw [1, 15] (fun v1 v15 wr => ∃ (i : Nat) (m : Int) (r : Fo), v1 = .int .i64 m ∧ v15 = .int .i64 (i : Int) ∧ i ≤ n ∧ r.roomF m deep = R ∧ -1000000 ≤ m ∧ m ≤ 2305843009213693952 ∧ r.okB ∧ r.depth ≤ f.depth ∧ r.Bodies Room2Said ∧ Tr w K r (xs.drop i) ∧ r.okS ∧ Below w.heap.size w wr) (fun _ v15 _ => n - (intOf v15).toNat)
  case atStart => exact ⟨0, many - n, f, rfl, rfl, Nat.zero_le _, HR.out, by omega, by omega, HC.out.2, Nat.le_refl _, HS0.out.1, by simpa using HS0.out.2.1, HS0.out.2.2, Below.refl _ _⟩
  case round =>
    obtain ⟨i, m, r, rfl, rfl, hi, hrm, hml, hmu, hrc, hrd, hbo, htr, hok, hbel⟩ := hrel
    have BW := hid hbel
    by_cases hlt : i < n
    · obtain ⟨wd, ns, bl, y, nx, rfl, e1, e2, hns, hy, hnx⟩ := htr.step (by rw [HX.out.1]; exact hlt)
      obtain ⟨b, o, rfl, hb, hcell⟩ := (HX.out.size.below hbel).at_ hlt
      generalize smS.nth xs i = x at *
      obtain ⟨xw, xA, xn, xc, xb, xB, xm, xk⟩ := x
      simp only at e1 e2 hns hy
      subst e1 e2
      have r1 : wr.rangeAt b (o + i * 4) (smS.enc ⟨xw, xA, xn, xc, xb, xB, xm, xk⟩) := hcell
      have HF := hid (fun w3 (b3 : Below w.heap.size w w3) => show Calls Tryz.prog 69 #[.agg #[.string (strB xw), .slice xA xn xc, .bool xb, .slice xB xm xk]] w3 fun e w' => e = .returned (.bool (fitB xw ns xb xm)) ∧ Below w3.heap.size w3 w' from
        fits_any ⟨xw, xA, xn, xc, xb, xB, xm, xk⟩ ns w3 (hns.below b3).size (by have := hns.1; have := hok.2.1; simp only; omega) hok.1 (by have := hy.len; have := hrc.1.1; simp only; omega))
      have hyl : y.len = xm := hy.len.symm
      have YL := hid hyl
      have HY := hid hbo.1
      have YT := hid hy
      have HQ := hid (show y.okS ∧ y.okL ∧ -2305843009213693952 ≤ deep - 1 - (y.depth : Int) from ⟨hok.2.2.1, hrc.1, by have := HD.out; simp only [Fo.depth] at hrd; omega⟩)
      have NX := hid (show nx.okB ∧ nx.depth ≤ f.depth ∧ nx.Bodies Room2Said ∧ Tr w K nx (xs.drop (i + 1)) ∧ nx.okS from ⟨hrc.2, by simp only [Fo.depth] at hrd; omega, hbo.2, hnx, hok.2.2.2⟩)
      rw [Fo.roomF, hyl] at hrm
      have HRM := hid hrm
      have LOW := hid (fun (h : ¬ m < 0) => roomF_ge y (m - xm) (deep - 1) (fun hy => by rw [hyl] at hy; omega))
      have TOP := hid (roomF_top y (m - xm) (deep - 1))
      clear hcell hbel hrm hrc hrd hbo htr hok hns hy hnx hb hyl
      by_cases hneg : m < 0
      · have HV := hid (show -1 = R by rw [← HRM.out, if_pos (.inl hneg)])
        clear hml hmu
        go_upto_region 5 with (first
          | (refine Sh.wp_sv smS (x := ⟨xw, xA, xn, xc, xb, xB, xm, xk⟩) rfl (.tmp 8) (.tmp 18) rfl rfl (by rfl) q2 ?_; intro w3 q3 b3 o3 s3; have c0 : w3.cell? ⟨wr.heap.size, 0, none⟩ = some (.string (strB xw)) := q3.cell (j := 0) rfl; have c1 : w3.cell? ⟨wr.heap.size, 1, none⟩ = some (.slice xA xn xc) := q3.cell (j := 1) rfl; have c2 : w3.cell? ⟨wr.heap.size, 2, none⟩ = some (.bool xb) := q3.cell (j := 2) rfl; have c3 : w3.cell? ⟨wr.heap.size, 3, none⟩ = some (.slice xB xm xk) := q3.cell (j := 3) rfl; have V3 := hid q3; have B3 := hid (BW.out.trans ((B2.out.trans (b3.mono (Nat.le_refl _))).mono BW.out.size)); clear q3 b3 o3 s3)
          | (refine Sh.wp_al smS rfl rfl ?_; intro w2 q2 b2 s2; have B2 := hid b2; clear b2 s2)
          | (refine Sh.wp_ld smS rfl (.tmp 17) rfl rfl r1 ?_))
        go_wp2_with fail
        go_ret
        exact ⟨ret_int HV.out, B3.out⟩
      obtain ⟨fb, hfb⟩ : ∃ fb, fitB xw ns xb xm = fb := ⟨_, rfl⟩
      rw [hfb] at HF
      have HFB := hid hfb
      clear hfb
      cases fb with
      | false =>
        have HV := hid (show -1 = R by rw [← HRM.out, if_pos (.inr (.inl HFB.out))])
        go_upto_region 5 with (first
          | (refine Sh.wp_sv smS (x := ⟨xw, xA, xn, xc, xb, xB, xm, xk⟩) rfl (.tmp 8) (.tmp 18) rfl rfl (by rfl) q2 ?_; intro w3 q3 b3 o3 s3; have c0 : w3.cell? ⟨wr.heap.size, 0, none⟩ = some (.string (strB xw)) := q3.cell (j := 0) rfl; have c1 : w3.cell? ⟨wr.heap.size, 1, none⟩ = some (.slice xA xn xc) := q3.cell (j := 1) rfl; have c2 : w3.cell? ⟨wr.heap.size, 2, none⟩ = some (.bool xb) := q3.cell (j := 2) rfl; have c3 : w3.cell? ⟨wr.heap.size, 3, none⟩ = some (.slice xB xm xk) := q3.cell (j := 3) rfl; have V3 := hid q3; have B3 := hid (BW.out.trans ((B2.out.trans (b3.mono (Nat.le_refl _))).mono BW.out.size)); clear q3 b3 o3 s3)
          | (refine Sh.wp_al smS rfl rfl ?_; intro w2 q2 b2 s2; have B2 := hid b2; clear b2 s2)
          | (refine Sh.wp_ld smS rfl (.tmp 17) rfl rfl r1 ?_))
        go_wp2_with (first
          | (go_at_call 69; have h9 := HF.out w3 B3.out; (with_reducible refine h9.mono ?_); rintro e w4 ⟨rfl, b4⟩; have V4 := V3.out.keep b4; have c2 : w4.cell? ⟨wr.heap.size, 2, none⟩ = some (.bool xb) := V4.cell (j := 2) rfl; have c3 : w4.cell? ⟨wr.heap.size, 3, none⟩ = some (.slice xB xm xk) := V4.cell (j := 3) rfl; have B4 := hid (B3.out.trans (b4.mono B3.out.size)); clear b4 V4))
        go_ret
        exact ⟨ret_int HV.out, B4.out⟩
      | true =>
        cases xb with
        | true =>
          by_cases hd : deep = 1
          · have HV := hid (show -1 = R by rw [← HRM.out, if_pos (.inr (.inr ⟨rfl, hd⟩))])
            subst hd
            go_upto_region 5 with (first
              | (refine Sh.wp_sv smS (x := ⟨xw, xA, xn, xc, true, xB, xm, xk⟩) rfl (.tmp 8) (.tmp 18) rfl rfl (by rfl) q2 ?_; intro w3 q3 b3 o3 s3; have c0 : w3.cell? ⟨wr.heap.size, 0, none⟩ = some (.string (strB xw)) := q3.cell (j := 0) rfl; have c1 : w3.cell? ⟨wr.heap.size, 1, none⟩ = some (.slice xA xn xc) := q3.cell (j := 1) rfl; have c2 : w3.cell? ⟨wr.heap.size, 2, none⟩ = some (.bool true) := q3.cell (j := 2) rfl; have c3 : w3.cell? ⟨wr.heap.size, 3, none⟩ = some (.slice xB xm xk) := q3.cell (j := 3) rfl; have V3 := hid q3; have B3 := hid (BW.out.trans ((B2.out.trans (b3.mono (Nat.le_refl _))).mono BW.out.size)); clear q3 b3 o3 s3)
              | (refine Sh.wp_al smS rfl rfl ?_; intro w2 q2 b2 s2; have B2 := hid b2; clear b2 s2)
              | (refine Sh.wp_ld smS rfl (.tmp 17) rfl rfl r1 ?_))
            go_wp2_with (first
              | (go_at_call 69; have h9 := HF.out w3 B3.out; (with_reducible refine h9.mono ?_); rintro e w4 ⟨rfl, b4⟩; have V4 := V3.out.keep b4; have c2 : w4.cell? ⟨wr.heap.size, 2, none⟩ = some (.bool true) := V4.cell (j := 2) rfl; have c3 : w4.cell? ⟨wr.heap.size, 3, none⟩ = some (.slice xB xm xk) := V4.cell (j := 3) rfl; have B4 := hid (B3.out.trans (b4.mono B3.out.size)); clear b4 V4))
            go_ret
            exact ⟨ret_int HV.out, B4.out⟩
          · have hd' : (deep == 1) = false := beq_eq_false_iff_ne.2 hd
            have HV := hid (show nx.roomF (y.roomF (m - xm) (deep - 1)) deep = R by rw [← HRM.out, if_neg (by rintro (h | h | h) <;> first | exact hneg h | (rw [HFB.out] at h; cases h; done) | exact hd h.2)])
            go_upto_region 5 with (first
              | (refine Sh.wp_sv smS (x := ⟨xw, xA, xn, xc, true, xB, xm, xk⟩) rfl (.tmp 8) (.tmp 18) rfl rfl (by rfl) q2 ?_; intro w3 q3 b3 o3 s3; have c0 : w3.cell? ⟨wr.heap.size, 0, none⟩ = some (.string (strB xw)) := q3.cell (j := 0) rfl; have c1 : w3.cell? ⟨wr.heap.size, 1, none⟩ = some (.slice xA xn xc) := q3.cell (j := 1) rfl; have c2 : w3.cell? ⟨wr.heap.size, 2, none⟩ = some (.bool true) := q3.cell (j := 2) rfl; have c3 : w3.cell? ⟨wr.heap.size, 3, none⟩ = some (.slice xB xm xk) := q3.cell (j := 3) rfl; have V3 := hid q3; have B3 := hid (BW.out.trans ((B2.out.trans (b3.mono (Nat.le_refl _))).mono BW.out.size)); clear q3 b3 o3 s3)
              | (refine Sh.wp_al smS rfl rfl ?_; intro w2 q2 b2 s2; have B2 := hid b2; clear b2 s2)
              | (refine Sh.wp_ld smS rfl (.tmp 17) rfl rfl r1 ?_))
            go_wp2_with (first
              | (go_at_call 44; have h9 := HY.out w4 K xB xm xk m (deep - 1) (YT.out.below B4.out) HQ.out.1 HQ.out.2.1 (by omega) (by omega) (by have := HQ.out.2.2; omega) (by omega); (with_reducible refine h9.mono ?_); rintro e w5 ⟨rfl, b5⟩; have B5 := hid (B4.out.trans (b5.mono B4.out.size)); clear b5)
              | (go_at_call 69; have h9 := HF.out w3 B3.out; (with_reducible refine h9.mono ?_); rintro e w4 ⟨rfl, b4⟩; have V4 := V3.out.keep b4; have c2 : w4.cell? ⟨wr.heap.size, 2, none⟩ = some (.bool true) := V4.cell (j := 2) rfl; have c3 : w4.cell? ⟨wr.heap.size, 3, none⟩ = some (.slice xB xm xk) := V4.cell (j := 3) rfl; have B4 := hid (B3.out.trans (b4.mono B3.out.size)); clear b4 V4))
            go_roundw
            case rel => exact ⟨i + 1, y.roomF (m - y.len) (deep - 1), nx, rfl, by go_num, by omega, by rw [YL.out]; exact HV.out, by rw [YL.out]; have := LOW.out hneg; omega, by rw [YL.out]; have := TOP.out; omega, NX.out.1, NX.out.2.1, NX.out.2.2.1, NX.out.2.2.2.1, NX.out.2.2.2.2, B5.out⟩
            case measure => simp [intOf]; omega
        | false =>
          have HV := hid (show nx.roomF (y.roomF (m - xm) (deep - 1)) deep = R by rw [← HRM.out, if_neg (by rintro (h | h | h) <;> first | exact hneg h | (rw [HFB.out] at h; cases h; done) | exact absurd h.1 (by decide))])
          go_upto_region 5 with (first
            | (refine Sh.wp_sv smS (x := ⟨xw, xA, xn, xc, false, xB, xm, xk⟩) rfl (.tmp 8) (.tmp 18) rfl rfl (by rfl) q2 ?_; intro w3 q3 b3 o3 s3; have c0 : w3.cell? ⟨wr.heap.size, 0, none⟩ = some (.string (strB xw)) := q3.cell (j := 0) rfl; have c1 : w3.cell? ⟨wr.heap.size, 1, none⟩ = some (.slice xA xn xc) := q3.cell (j := 1) rfl; have c2 : w3.cell? ⟨wr.heap.size, 2, none⟩ = some (.bool false) := q3.cell (j := 2) rfl; have c3 : w3.cell? ⟨wr.heap.size, 3, none⟩ = some (.slice xB xm xk) := q3.cell (j := 3) rfl; have V3 := hid q3; have B3 := hid (BW.out.trans ((B2.out.trans (b3.mono (Nat.le_refl _))).mono BW.out.size)); clear q3 b3 o3 s3)
            | (refine Sh.wp_al smS rfl rfl ?_; intro w2 q2 b2 s2; have B2 := hid b2; clear b2 s2)
            | (refine Sh.wp_ld smS rfl (.tmp 17) rfl rfl r1 ?_))
          go_wp2_with (first
            | (go_at_call 44; have h9 := HY.out w4 K xB xm xk m (deep - 1) (YT.out.below B4.out) HQ.out.1 HQ.out.2.1 (by omega) (by omega) (by have := HQ.out.2.2; omega) (by omega); (with_reducible refine h9.mono ?_); rintro e w5 ⟨rfl, b5⟩; have B5 := hid (B4.out.trans (b5.mono B4.out.size)); clear b5)
            | (go_at_call 69; have h9 := HF.out w3 B3.out; (with_reducible refine h9.mono ?_); rintro e w4 ⟨rfl, b4⟩; have V4 := V3.out.keep b4; have c2 : w4.cell? ⟨wr.heap.size, 2, none⟩ = some (.bool false) := V4.cell (j := 2) rfl; have c3 : w4.cell? ⟨wr.heap.size, 3, none⟩ = some (.slice xB xm xk) := V4.cell (j := 3) rfl; have B4 := hid (B3.out.trans (b4.mono B3.out.size)); clear b4 V4))
          go_roundw
          case rel => exact ⟨i + 1, y.roomF (m - y.len) (deep - 1), nx, rfl, by go_num, by omega, by rw [YL.out]; exact HV.out, by rw [YL.out]; have := LOW.out hneg; omega, by rw [YL.out]; have := TOP.out; omega, NX.out.1, NX.out.2.1, NX.out.2.2.1, NX.out.2.2.2.1, NX.out.2.2.2.2, B5.out⟩
          case measure => simp [intOf]; omega
    · obtain rfl : i = n := by omega
      have hr := htr.done (by rw [HX.out.1]; exact Nat.le_refl _)
      subst hr
      have HV := hid (show m = R from hrm)
      clear hrm hbo htr hbel
      go_wp2
      go_ret
      exact ⟨ret_int HV.out, BW.out⟩
theorem room2_any (f : Fo) : Room2Said f := (Fo.ind room2_step f).1
set_option maxRecDepth 100000 in
theorem check2_any (f : Fo) (w : World) (K : Nat → Prop) (A : Option Addr) (n c : Nat) (ht : TrS w K A n f) (hok : f.okS) (hc : f.okL) (hd : f.depth ≤ 1000000) :
    Calls Tryz.prog 20 #[.slice A n c] w fun e w' => e = .returned (.int .i64 (chkE f : Nat)) ∧ Below w.heap.size w w' := by
  have HR := hid (room2_any f w K A n c 2000 6 ht hok hc (by omega) (by omega) (by omega) (by omega))
  clear ht hok hc
  unfold chkE
  generalize f.roomF (2000 - f.len) 6 = R at *
  by_cases hR : R < 0
  · rw [if_pos hR]
    go_enter Tryz.func20, Tryz.ntmps20
    go_wp2_with (first
      | (go_at_call 44; refine HR.out.mono ?_; rintro e w1 ⟨rfl, b1⟩; have B1 := hid b1; clear b1))
    go_ret
    exact ⟨rfl, B1.out⟩
  · rw [if_neg hR]
    go_enter Tryz.func20, Tryz.ntmps20
    go_wp2_with (first
      | (go_at_call 44; refine HR.out.mono ?_; rintro e w1 ⟨rfl, b1⟩; have B1 := hid b1; clear b1))
    go_ret
    exact ⟨rfl, B1.out⟩
end Go.Proofs.YtkfnkieljcipnaaGreatDoor
