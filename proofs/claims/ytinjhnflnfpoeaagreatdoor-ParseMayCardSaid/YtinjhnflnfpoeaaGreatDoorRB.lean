/-
  Contracts of parse.room and parse.Check, at every forest of at most 2^61 statements; and when Check answers OK.
-/
import Derived.Test.YtinjhnflnfpoeaaGreatDoorRA
namespace Go.Proofs.YtinjhnflnfpoeaaGreatDoor
open Go Go.RowKit Go.Joins

/-- words and numbers of statements are of some size -/
def Fo.okS : Fo → Prop
  | nil => True
  | cons wd ns _ y n => wd.length ≤ 1000000 ∧ ns.length ≤ 1000000 ∧ y.okS ∧ n.okS
def RoomSaid (f : Fo) : Prop := ∀ (w : World) (K : Nat → Prop) (A : Option Addr) (n c : Nat) (many deep : Int), TrS w K A n f → f.okS → f.count ≤ 2305843009213693952 → -2305843009213693952 ≤ many → many ≤ 2305843009213693952 → -2305843009213693952 ≤ deep - f.depth → deep ≤ 2305843009213693952 →
  Calls Tryz.prog 30 #[.slice A n c, .int .i64 many, .int .i64 deep] w fun e w' => e = .returned (.int .i64 (f.roomF (many - f.len) deep)) ∧ Below w.heap.size w w'
set_option maxHeartbeats 2000000 in
set_option maxRecDepth 100000 in
theorem room_step (f : Fo) (hf : f.Bodies RoomSaid) : RoomSaid f := by
  intro w K A n c many deep ht hok hc hm1 hm2 hd1 hd2
  have HL := hid (show f.len = n from ht.len.symm)
  obtain ⟨xs, hx, htr⟩ := ht
  have HX := hid hx
  have HC := hid hc
  have HS0 := hid (And.intro hf (And.intro htr hok))
  have hn : (n : Int) ≤ 2305843009213693952 := by have := f.len_le; have := HL.out; omega
  obtain ⟨R, hR⟩ : ∃ R, f.roomF (many - f.len) deep = R := ⟨_, rfl⟩
  rw [hR]
  have HR := hid (show f.roomF (many - n) deep = R by rw [← HL.out]; exact hR)
  have HD := hid hd1
  have hdl : -2305843009213693952 ≤ deep := by have := f.depth; omega
  clear hx hc hf htr hR hok hd1
  go_enter Tryz.func30, Tryz.ntmps30
  go_wp2
  go_loopw [1, 15] (fun v1 v15 wr => ∃ (i : Nat) (m : Int) (r : Fo), v1 = .int .i64 m ∧ v15 = .int .i64 (i : Int) ∧ i ≤ n ∧ r.roomF m deep = R ∧ -4611686018427387904 ≤ m ∧ m ≤ 2305843009213693952 ∧ r.count ≤ f.count ∧ r.depth ≤ f.depth ∧ r.Bodies RoomSaid ∧ Tr w K r (xs.drop i) ∧ r.okS ∧ Below w.heap.size w wr) (fun _ v15 _ => n - (intOf v15).toNat)
  case atStart => exact ⟨0, many - n, f, rfl, rfl, Nat.zero_le _, HR.out, by omega, by omega, Nat.le_refl _, Nat.le_refl _, HS0.out.1, by simpa using HS0.out.2.1, HS0.out.2.2, Below.refl _ _⟩
  case round =>
    obtain ⟨i, m, r, rfl, rfl, hi, hrm, hml, hmu, hrc, hrd, hbo, htr, hok, hbel⟩ := hrel
    have BW := hid hbel
    by_cases hlt : i < n
    · obtain ⟨wd, ns, bl, y, nx, rfl, e1, e2, hns, hy, hnx⟩ := htr.step (by rw [HX.out.1]; exact hlt)
      obtain ⟨b, o, rfl, hb, hcell⟩ := (HX.out.size.below hbel).at_ hlt
      generalize smS.nth xs i = x at *
      obtain ⟨xw, xA, xn, xc, xb, xB, xm, xk⟩ := x
      simp only at e1 e2 hns hy
      subst e1 e2
      have r1 : wr.rangeAt b (o + i * 4) (smS.enc ⟨xw, xA, xn, xc, xb, xB, xm, xk⟩) := hcell
      have HF := hid (fun w3 (b3 : Below w.heap.size w w3) => show Calls Tryz.prog 49 #[.agg #[.string (strB xw), .slice xA xn xc, .bool xb, .slice xB xm xk]] w3 fun e w' => e = .returned (.bool (fitB xw ns xb xm)) ∧ Below w3.heap.size w3 w' from
        fits_any ⟨xw, xA, xn, xc, xb, xB, xm, xk⟩ ns w3 (hns.below b3).size (by have := hns.1; have := hok.2.1; simp only; omega) hok.1 (by have := hy.len; have := y.len_le; have := HC.out; simp only [Fo.count] at hrc; simp only; omega))
      have hyl : y.len = xm := hy.len.symm
      have YL := hid hyl
      have HY := hid hbo.1
      have YT := hid hy
      have HQ := hid (show y.okS ∧ y.count ≤ 2305843009213693952 ∧ -2305843009213693952 ≤ deep - 1 - (y.depth : Int) from ⟨hok.2.2.1, by have := HC.out; simp only [Fo.count] at hrc; omega, by have := HD.out; simp only [Fo.depth] at hrd; omega⟩)
      have NX := hid (show nx.count ≤ f.count ∧ nx.depth ≤ f.depth ∧ nx.Bodies RoomSaid ∧ Tr w K nx (xs.drop (i + 1)) ∧ nx.okS from ⟨by simp only [Fo.count] at hrc; omega, by simp only [Fo.depth] at hrd; omega, hbo.2, hnx, hok.2.2.2⟩)
      rw [Fo.roomF, hyl] at hrm
      have HRM := hid hrm
      have LOW := hid (roomF_low y (m - xm) (deep - 1))
      have TOP := hid (roomF_top y (m - xm) (deep - 1))
      have YC := hid (show (y.nest : Int) + xm ≤ 2305843009213693952 by have := y.count_nest; have := HQ.out.2.1; omega)
      clear hcell hbel hrm hrc hrd hbo htr hok hns hy hnx hb hyl
      by_cases hneg : m < 0
      · have HV := hid (show -1 = R by rw [← HRM.out, if_pos (.inl hneg)])
        clear hml hmu
        go_upto_region 5 with (first
          | (refine Sh.wp_sv smS (x := ⟨xw, xA, xn, xc, xb, xB, xm, xk⟩) rfl (.tmp 8) (.tmp 18) rfl rfl (by rfl) q2 ?_; intro w3 q3 b3 o3 s3; have c0 : w3.cell? ⟨wr.heap.size, 0, none⟩ = some (.string (strB xw)) := q3.cell (j := 0) rfl; have c1 : w3.cell? ⟨wr.heap.size, 1, none⟩ = some (.slice xA xn xc) := q3.cell (j := 1) rfl; have c2 : w3.cell? ⟨wr.heap.size, 2, none⟩ = some (.bool xb) := q3.cell (j := 2) rfl; have c3 : w3.cell? ⟨wr.heap.size, 3, none⟩ = some (.slice xB xm xk) := q3.cell (j := 3) rfl; have V3 := hid q3; have B3 := hid (BW.out.trans ((B2.out.trans (b3.mono (Nat.le_refl _))).mono BW.out.size)); clear q3 b3 o3 s3)
          | (refine Sh.wp_al smS rfl rfl ?_; intro w2 q2 b2 s2; have B2 := hid b2; clear b2 s2)
          | (refine Sh.wp_ld smS rfl (.tmp 17) rfl rfl r1 ?_))
        go_wp2_with fail
        go_ret
        exact ⟨ret_int HV.out, B3.out⟩
      obtain ⟨fb, hfb⟩ : ∃ fb, fitB xw ns xb xm = fb := ⟨_, rfl⟩
      rw [hfb] at HF
      have HFB := hid hfb
      clear hfb
      cases fb with
      | false =>
        have HV := hid (show -1 = R by rw [← HRM.out, if_pos (.inr (.inl HFB.out))])
        go_upto_region 5 with (first
          | (refine Sh.wp_sv smS (x := ⟨xw, xA, xn, xc, xb, xB, xm, xk⟩) rfl (.tmp 8) (.tmp 18) rfl rfl (by rfl) q2 ?_; intro w3 q3 b3 o3 s3; have c0 : w3.cell? ⟨wr.heap.size, 0, none⟩ = some (.string (strB xw)) := q3.cell (j := 0) rfl; have c1 : w3.cell? ⟨wr.heap.size, 1, none⟩ = some (.slice xA xn xc) := q3.cell (j := 1) rfl; have c2 : w3.cell? ⟨wr.heap.size, 2, none⟩ = some (.bool xb) := q3.cell (j := 2) rfl; have c3 : w3.cell? ⟨wr.heap.size, 3, none⟩ = some (.slice xB xm xk) := q3.cell (j := 3) rfl; have V3 := hid q3; have B3 := hid (BW.out.trans ((B2.out.trans (b3.mono (Nat.le_refl _))).mono BW.out.size)); clear q3 b3 o3 s3)
          | (refine Sh.wp_al smS rfl rfl ?_; intro w2 q2 b2 s2; have B2 := hid b2; clear b2 s2)
          | (refine Sh.wp_ld smS rfl (.tmp 17) rfl rfl r1 ?_))
        go_wp2_with (first
          | (go_at_call 49; have h9 := HF.out w3 B3.out; (with_reducible refine h9.mono ?_); rintro e w4 ⟨rfl, b4⟩; have V4 := V3.out.keep b4; have c2 : w4.cell? ⟨wr.heap.size, 2, none⟩ = some (.bool xb) := V4.cell (j := 2) rfl; have c3 : w4.cell? ⟨wr.heap.size, 3, none⟩ = some (.slice xB xm xk) := V4.cell (j := 3) rfl; have B4 := hid (B3.out.trans (b4.mono B3.out.size)); clear b4 V4))
        go_ret
        exact ⟨ret_int HV.out, B4.out⟩
      | true =>
        cases xb with
        | true =>
          by_cases hd : deep = 1
          · have HV := hid (show -1 = R by rw [← HRM.out, if_pos (.inr (.inr ⟨rfl, hd⟩))])
            subst hd
            go_upto_region 5 with (first
              | (refine Sh.wp_sv smS (x := ⟨xw, xA, xn, xc, true, xB, xm, xk⟩) rfl (.tmp 8) (.tmp 18) rfl rfl (by rfl) q2 ?_; intro w3 q3 b3 o3 s3; have c0 : w3.cell? ⟨wr.heap.size, 0, none⟩ = some (.string (strB xw)) := q3.cell (j := 0) rfl; have c1 : w3.cell? ⟨wr.heap.size, 1, none⟩ = some (.slice xA xn xc) := q3.cell (j := 1) rfl; have c2 : w3.cell? ⟨wr.heap.size, 2, none⟩ = some (.bool true) := q3.cell (j := 2) rfl; have c3 : w3.cell? ⟨wr.heap.size, 3, none⟩ = some (.slice xB xm xk) := q3.cell (j := 3) rfl; have V3 := hid q3; have B3 := hid (BW.out.trans ((B2.out.trans (b3.mono (Nat.le_refl _))).mono BW.out.size)); clear q3 b3 o3 s3)
              | (refine Sh.wp_al smS rfl rfl ?_; intro w2 q2 b2 s2; have B2 := hid b2; clear b2 s2)
              | (refine Sh.wp_ld smS rfl (.tmp 17) rfl rfl r1 ?_))
            go_wp2_with (first
              | (go_at_call 49; have h9 := HF.out w3 B3.out; (with_reducible refine h9.mono ?_); rintro e w4 ⟨rfl, b4⟩; have V4 := V3.out.keep b4; have c2 : w4.cell? ⟨wr.heap.size, 2, none⟩ = some (.bool true) := V4.cell (j := 2) rfl; have c3 : w4.cell? ⟨wr.heap.size, 3, none⟩ = some (.slice xB xm xk) := V4.cell (j := 3) rfl; have B4 := hid (B3.out.trans (b4.mono B3.out.size)); clear b4 V4))
            go_ret
            exact ⟨ret_int HV.out, B4.out⟩
          · have hd' : (deep == 1) = false := beq_eq_false_iff_ne.2 hd
            have HV := hid (show nx.roomF (y.roomF (m - xm) (deep - 1)) deep = R by rw [← HRM.out, if_neg (by rintro (h | h | h) <;> first | exact hneg h | (rw [HFB.out] at h; cases h; done) | exact hd h.2)])
            go_upto_region 5 with (first
              | (refine Sh.wp_sv smS (x := ⟨xw, xA, xn, xc, true, xB, xm, xk⟩) rfl (.tmp 8) (.tmp 18) rfl rfl (by rfl) q2 ?_; intro w3 q3 b3 o3 s3; have c0 : w3.cell? ⟨wr.heap.size, 0, none⟩ = some (.string (strB xw)) := q3.cell (j := 0) rfl; have c1 : w3.cell? ⟨wr.heap.size, 1, none⟩ = some (.slice xA xn xc) := q3.cell (j := 1) rfl; have c2 : w3.cell? ⟨wr.heap.size, 2, none⟩ = some (.bool true) := q3.cell (j := 2) rfl; have c3 : w3.cell? ⟨wr.heap.size, 3, none⟩ = some (.slice xB xm xk) := q3.cell (j := 3) rfl; have V3 := hid q3; have B3 := hid (BW.out.trans ((B2.out.trans (b3.mono (Nat.le_refl _))).mono BW.out.size)); clear q3 b3 o3 s3)
              | (refine Sh.wp_al smS rfl rfl ?_; intro w2 q2 b2 s2; have B2 := hid b2; clear b2 s2)
              | (refine Sh.wp_ld smS rfl (.tmp 17) rfl rfl r1 ?_))
            go_wp2_with (first
              | (go_at_call 30; have h9 := HY.out w4 K xB xm xk m (deep - 1) (YT.out.below B4.out) HQ.out.1 HQ.out.2.1 (by omega) (by omega) (by have := HQ.out.2.2; omega) (by omega); (with_reducible refine h9.mono ?_); rintro e w5 ⟨rfl, b5⟩; have B5 := hid (B4.out.trans (b5.mono B4.out.size)); clear b5)
              | (go_at_call 49; have h9 := HF.out w3 B3.out; (with_reducible refine h9.mono ?_); rintro e w4 ⟨rfl, b4⟩; have V4 := V3.out.keep b4; have c2 : w4.cell? ⟨wr.heap.size, 2, none⟩ = some (.bool true) := V4.cell (j := 2) rfl; have c3 : w4.cell? ⟨wr.heap.size, 3, none⟩ = some (.slice xB xm xk) := V4.cell (j := 3) rfl; have B4 := hid (B3.out.trans (b4.mono B3.out.size)); clear b4 V4))
            go_roundw
            case rel => exact ⟨i + 1, y.roomF (m - y.len) (deep - 1), nx, rfl, by go_num, by omega, by rw [YL.out]; exact HV.out, by rw [YL.out]; have := LOW.out; have := YC.out; omega, by rw [YL.out]; have := TOP.out; omega, NX.out.1, NX.out.2.1, NX.out.2.2.1, NX.out.2.2.2.1, NX.out.2.2.2.2, B5.out⟩
            case measure => simp [intOf]; omega
        | false =>
          have HV := hid (show nx.roomF (y.roomF (m - xm) (deep - 1)) deep = R by rw [← HRM.out, if_neg (by rintro (h | h | h) <;> first | exact hneg h | (rw [HFB.out] at h; cases h; done) | exact absurd h.1 (by decide))])
          go_upto_region 5 with (first
            | (refine Sh.wp_sv smS (x := ⟨xw, xA, xn, xc, false, xB, xm, xk⟩) rfl (.tmp 8) (.tmp 18) rfl rfl (by rfl) q2 ?_; intro w3 q3 b3 o3 s3; have c0 : w3.cell? ⟨wr.heap.size, 0, none⟩ = some (.string (strB xw)) := q3.cell (j := 0) rfl; have c1 : w3.cell? ⟨wr.heap.size, 1, none⟩ = some (.slice xA xn xc) := q3.cell (j := 1) rfl; have c2 : w3.cell? ⟨wr.heap.size, 2, none⟩ = some (.bool false) := q3.cell (j := 2) rfl; have c3 : w3.cell? ⟨wr.heap.size, 3, none⟩ = some (.slice xB xm xk) := q3.cell (j := 3) rfl; have V3 := hid q3; have B3 := hid (BW.out.trans ((B2.out.trans (b3.mono (Nat.le_refl _))).mono BW.out.size)); clear q3 b3 o3 s3)
            | (refine Sh.wp_al smS rfl rfl ?_; intro w2 q2 b2 s2; have B2 := hid b2; clear b2 s2)
            | (refine Sh.wp_ld smS rfl (.tmp 17) rfl rfl r1 ?_))
          go_wp2_with (first
            | (go_at_call 30; have h9 := HY.out w4 K xB xm xk m (deep - 1) (YT.out.below B4.out) HQ.out.1 HQ.out.2.1 (by omega) (by omega) (by have := HQ.out.2.2; omega) (by omega); (with_reducible refine h9.mono ?_); rintro e w5 ⟨rfl, b5⟩; have B5 := hid (B4.out.trans (b5.mono B4.out.size)); clear b5)
            | (go_at_call 49; have h9 := HF.out w3 B3.out; (with_reducible refine h9.mono ?_); rintro e w4 ⟨rfl, b4⟩; have V4 := V3.out.keep b4; have c2 : w4.cell? ⟨wr.heap.size, 2, none⟩ = some (.bool false) := V4.cell (j := 2) rfl; have c3 : w4.cell? ⟨wr.heap.size, 3, none⟩ = some (.slice xB xm xk) := V4.cell (j := 3) rfl; have B4 := hid (B3.out.trans (b4.mono B3.out.size)); clear b4 V4))
          go_roundw
          case rel => exact ⟨i + 1, y.roomF (m - y.len) (deep - 1), nx, rfl, by go_num, by omega, by rw [YL.out]; exact HV.out, by rw [YL.out]; have := LOW.out; have := YC.out; omega, by rw [YL.out]; have := TOP.out; omega, NX.out.1, NX.out.2.1, NX.out.2.2.1, NX.out.2.2.2.1, NX.out.2.2.2.2, B5.out⟩
          case measure => simp [intOf]; omega
    · obtain rfl : i = n := by omega
      have hr := htr.done (by rw [HX.out.1]; exact Nat.le_refl _)
      subst hr
      have HV := hid (show m = R from hrm)
      clear hrm hbo htr hbel
      go_wp2
      go_ret
      exact ⟨ret_int HV.out, BW.out⟩
theorem room_any (f : Fo) : RoomSaid f := (Fo.ind room_step f).1
end Go.Proofs.YtinjhnflnfpoeaaGreatDoor
