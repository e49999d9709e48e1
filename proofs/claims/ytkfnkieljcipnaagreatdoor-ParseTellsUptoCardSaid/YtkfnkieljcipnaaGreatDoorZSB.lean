/-
  Contract of the document's own Depth.
-/
import Derived.Test.YtkfnkieljcipnaaGreatDoorK6
namespace Go.Proofs.YtkfnkieljcipnaaGreatDoor
open Go Go.RowKit Go.Joins

set_option maxRecDepth 100000 in
theorem rdepth_step (f : Fo) (hf : f.Bodies (DepthSaid 24)) : DepthSaid 24 f := by
  intro w K A n c ht hc
  obtain ⟨xs, hx, htr⟩ := ht
  have HX := hid hx
  have HL := hid (show f.len = n by rw [← htr.len, hx.1])
  have HC := hid hc
  have HB := hid hf
  have HT := hid htr
  have hn : (n : Int) ≤ 4611686018427387904 := by have := f.len_le; have := HL.out; omega
  clear hx hc hf htr
  go_enter Tryz.func24, Tryz.ntmps24
  go_wp2
  go_loopw [3, 9] (fun v3 v9 wr => ∃ (i m : Nat) (r : Fo), v3 = .int .i64 (m : Nat) ∧ v9 = .int .i64 (i : Nat) ∧ i ≤ n ∧ max m r.depth = f.depth ∧ r.count ≤ f.count ∧ r.Bodies (DepthSaid 24) ∧ Tr w K r (xs.drop i) ∧ Below w.heap.size w wr) (fun _ v9 _ => n - (intOf v9).toNat)
  case atStart => exact ⟨0, 0, f, rfl, rfl, Nat.zero_le _, by omega, Nat.le_refl _, HB.out, by simpa using HT.out, Below.refl _ _⟩
  case round =>
    obtain ⟨i, m, r, rfl, rfl, hi, hm, hrc, hbo, htr, hbel⟩ := hrel
    have BW := hid hbel
    have HM := hid (And.intro hm hrc)
    by_cases hlt : i < n
    · obtain ⟨wd, ns, bl, y, nx, rfl, _, hbl, _, hy, hnx⟩ := htr.step (by rw [HX.out.1]; exact hlt)
      obtain ⟨b, o, rfl, hb, hcell⟩ := (HX.out.size.below hbel).at_ hlt
      generalize hxe : smS.nth xs i = x at *
      clear hxe
      have r1 : wr.rangeAt b (o + i * 4) (smS.enc x) := hcell
      have HY := hid hbo.1
      have HN := hid (And.intro hbo.2 hnx)
      have HYT := hid hy
      have hyc := hid (show y.count ≤ 4611686018427387904 by have := HC.out; simp only [Fo.count] at hrc; omega)
      have hyd : (y.depth : Int) ≤ 4611686018427387905 := by have := y.depth_le; have := hyc.out; omega
      have hmc : (m : Int) ≤ 4611686018427387905 := by have := f.depth_le; have := HC.out; omega
      clear hcell hbel hm hbo htr hy hnx hb hrc
      obtain ⟨xw, xA, xn, xc, xb, xB, xm, xk⟩ := x
      have hbl : xb = bl := hbl
      subst hbl
      cases xb
      · go_wp2_with (first
          | (go_at_call 24; have h9 := HY.out w3 K xB xm xk (HYT.out.below B3.out) hyc.out; (with_reducible refine h9.mono ?_); rintro e w4 ⟨rfl, b4⟩; have c2 : w4.cell? ⟨wr.heap.size, 2, none⟩ = _ := (b4.cell (p := ⟨wr.heap.size, 2, none⟩) L3.out).trans c2; have B4 := hid (B3.out.trans (b4.mono B3.out.size)); clear b4)
          | (refine Sh.wp_sv smS (x := ⟨xw, xA, xn, xc, false, xB, xm, xk⟩) rfl (.tmp 5) (.tmp 12) rfl rfl (by rfl) q2 ?_; intro w3 q3 b3 o3 s3; have c3 : w3.cell? ⟨wr.heap.size, 3, none⟩ = some (.slice xB xm xk) := q3.cell (j := 3) rfl; have c2 := q3.cell (j := 2) rfl; have L3 := hid q3.lt; have B3 := hid (BW.out.trans ((B2.out.trans (b3.mono (Nat.le_refl _))).mono BW.out.size)); clear q3 b3 o3 s3)
          | (refine Sh.wp_al smS rfl rfl ?_; intro w2 q2 b2 s2; have B2 := hid b2; clear b2 s2)
          | (refine Sh.wp_ld smS rfl (.tmp 11) rfl rfl r1 ?_))
        go_roundw
        case rel =>
          refine ⟨i + 1, max m (1 + max y.depth 0), nx, ?_, by go_num, by omega, ?_, by have := HM.out.2; simp only [Fo.count] at this; omega, HN.out.1, HN.out.2, B4.out⟩
          · congr 1
            first | omega | (rw [wrap64_of (by omega) (by omega)]; omega)
          · have h1 := HM.out.1
            simp only [Fo.depth] at h1
            simp at h1
            omega
        case measure => simp [intOf]; omega
      · rcases Nat.eq_zero_or_pos y.depth with hz | hz
        · have hzz := hid hz
          clear hz
          go_wp2_with (first
            | (go_at_call 24; have h9 := HY.out w3 K xB xm xk (HYT.out.below B3.out) hyc.out; rw [hzz.out] at h9; (with_reducible refine h9.mono ?_); rintro e w4 ⟨rfl, b4⟩; have c2 : w4.cell? ⟨wr.heap.size, 2, none⟩ = _ := (b4.cell (p := ⟨wr.heap.size, 2, none⟩) L3.out).trans c2; have B4 := hid (B3.out.trans (b4.mono B3.out.size)); clear b4)
            | (refine Sh.wp_sv smS (x := ⟨xw, xA, xn, xc, true, xB, xm, xk⟩) rfl (.tmp 5) (.tmp 12) rfl rfl (by rfl) q2 ?_; intro w3 q3 b3 o3 s3; have c3 : w3.cell? ⟨wr.heap.size, 3, none⟩ = some (.slice xB xm xk) := q3.cell (j := 3) rfl; have c2 := q3.cell (j := 2) rfl; have L3 := hid q3.lt; have B3 := hid (BW.out.trans ((B2.out.trans (b3.mono (Nat.le_refl _))).mono BW.out.size)); clear q3 b3 o3 s3)
            | (refine Sh.wp_al smS rfl rfl ?_; intro w2 q2 b2 s2; have B2 := hid b2; clear b2 s2)
            | (refine Sh.wp_ld smS rfl (.tmp 11) rfl rfl r1 ?_))
          go_roundw
          case rel =>
            refine ⟨i + 1, max m (1 + max y.depth 1), nx, ?_, by go_num, by omega, ?_, by have := HM.out.2; simp only [Fo.count] at this; omega, HN.out.1, HN.out.2, B4.out⟩
            · congr 1
              have := hzz.out; omega
            · have h1 := HM.out.1
              simp only [Fo.depth] at h1
              simp at h1
              have := hzz.out; omega
          case measure => simp [intOf]; omega
        · have hz1 : ¬ y.depth = 0 := by omega
          have hz2 : decide ((y.depth : Int) = 0) = false := by simp; omega
          have hz3 : ((y.depth : Int) == 0) = false := by simp; omega
          go_wp2_with (first
            | (go_at_call 24; have h9 := HY.out w3 K xB xm xk (HYT.out.below B3.out) hyc.out; (with_reducible refine h9.mono ?_); rintro e w4 ⟨rfl, b4⟩; have c2 : w4.cell? ⟨wr.heap.size, 2, none⟩ = _ := (b4.cell (p := ⟨wr.heap.size, 2, none⟩) L3.out).trans c2; have B4 := hid (B3.out.trans (b4.mono B3.out.size)); clear b4)
            | (refine Sh.wp_sv smS (x := ⟨xw, xA, xn, xc, true, xB, xm, xk⟩) rfl (.tmp 5) (.tmp 12) rfl rfl (by rfl) q2 ?_; intro w3 q3 b3 o3 s3; have c3 : w3.cell? ⟨wr.heap.size, 3, none⟩ = some (.slice xB xm xk) := q3.cell (j := 3) rfl; have c2 := q3.cell (j := 2) rfl; have L3 := hid q3.lt; have B3 := hid (BW.out.trans ((B2.out.trans (b3.mono (Nat.le_refl _))).mono BW.out.size)); clear q3 b3 o3 s3)
            | (refine Sh.wp_al smS rfl rfl ?_; intro w2 q2 b2 s2; have B2 := hid b2; clear b2 s2)
            | (refine Sh.wp_ld smS rfl (.tmp 11) rfl rfl r1 ?_))
          go_roundw
          case rel =>
            refine ⟨i + 1, max m (1 + max y.depth 1), nx, ?_, by go_num, by omega, ?_, by have := HM.out.2; simp only [Fo.count] at this; omega, HN.out.1, HN.out.2, B4.out⟩
            · congr 1
              first | omega | (rw [wrap64_of (by omega) (by omega)]; omega)
            · have h1 := HM.out.1
              simp only [Fo.depth] at h1
              simp at h1
              omega
          case measure => simp [intOf]; omega
    · obtain rfl : i = n := by omega
      have hr := htr.done (by rw [HX.out.1]; exact Nat.le_refl _)
      subst hr
      have hm2 : m = f.depth := by simpa [Fo.depth] using hm
      clear hm hbo htr hbel
      have HM2 := hid hm2
      clear hm2
      go_wp2
      go_ret
      exact ⟨by rw [← HM2.out]; rfl, BW.out⟩
theorem rdepth_any (f : Fo) : DepthSaid 24 f := (Fo.ind rdepth_step f).1
end Go.Proofs.YtkfnkieljcipnaaGreatDoor
