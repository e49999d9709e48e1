/-
  Contract of a printer's list: statements that may be, behind what is there; under: the tables hold what the program lays, texts of at most 2^40 bytes.
-/
import Derived.Test.YtkfnkieljcipnaaGreatDoorZWD
namespace Go.Proofs.YtkfnkieljcipnaaGreatDoor
open Go Go.RowKit Go.Joins

def PListSaid (f : Fo) : Prop := ∀ (w : World) (B b : Nat) (l : List UInt8) (K : Nat → Prop) (A : Option Addr) (n c : Nat) (sp : List UInt8) (k : Int), PB w B b l → LwB B w → TrS w K A n f → (∀ j, K j → j < B) → f.okA k → f.count ≤ 1000000 → l.length + (f.text sp).length + sp.length ≤ 1099511627000 →
  Calls Tryz.prog 49 #[.pointer (some ⟨b, 0, none⟩), .slice A n c, .string (bA sp)] w fun e w' => e = .returned (.tuple #[]) ∧ PB w' B b (l ++ f.text sp) ∧ PMov B b w w'
theorem mov2 {w w1 w2 : World} {B b : Nat} (h : PMov B b w w1) (hB : B ≤ w1.heap.size) (hb : b < w1.heap.size) (h2 : Below w1.heap.size w1 w2) : PMov B b w w2 := h.trans (.of hB hb h2)
set_option maxHeartbeats 4000000 in
set_option maxRecDepth 100000 in
theorem plist_step (f : Fo) (hf : f.Bodies PListSaid) : PListSaid f := by
  intro w B b l K A n c sp k hp hL ht hK hok hc hlen
  have HLN := hid (show f.len = n from ht.len.symm)
  obtain ⟨ys, hx, htr⟩ := ht
  have HX := hid hx
  have HLW := hid hL
  have HK := hid hK
  have HLE := hid hlen
  have HC := hid hc
  have HS0 := hid (And.intro hf (And.intro htr (And.intro hok hp)))
  have hn2 : (n : Int) ≤ 1000000 := by have := f.len_le; have := HLN.out; omega
  clear hp hL hx htr hf hok hK hc hlen
  go_enter Tryz.func49, Tryz.ntmps49
  go_wp2
  go_loopw [10] (fun v10 wr => ∃ (i : Nat) (r : Fo) (m : List UInt8), v10 = .int .i64 (i : Int) ∧ i ≤ n ∧ r.Bodies PListSaid ∧ Tr wr K r (ys.drop i) ∧ r.okA k ∧ PB wr B b m ∧ m ++ r.text sp = l ++ f.text sp ∧ r.count ≤ f.count ∧ PMov B b w wr) (fun v10 _ => n - (intOf v10).toNat)
  case atStart => exact ⟨0, f, l, rfl, Nat.zero_le _, HS0.out.1, by simpa using HS0.out.2.1, HS0.out.2.2.1, HS0.out.2.2.2, rfl, Nat.le_refl _, PMov.refl _ _ _⟩
  case round =>
    obtain ⟨i, r, m, rfl, hi, hbo, htr, hok, hpb, hmr, hrc, hmv⟩ := hrel
    by_cases hlt : i < n
    · obtain ⟨wd, ns, bl, y, nx, rfl, e1, e2, hns, hy, hnx⟩ := htr.step (by rw [HX.out.1]; exact hlt)
      obtain ⟨bb, o, rfl, hb, hcell⟩ := (HX.out.lowB HK.out hmv.bel).size.at_ hlt
      generalize smS.nth ys i = x at *
      obtain ⟨xw, xA, xn, xc, xb, xB, xm, xk⟩ := x
      simp only at e1 e2 hns hy
      subst e1 e2
      have r1 : wr.rangeAt bb (o + i * 4) (smS.enc ⟨xw, xA, xn, xc, xb, xB, xm, xk⟩) := hcell
      obtain ⟨h1, h2, h3, h4⟩ := hok
      have hfit := fit_of h1
      have P0 := hid hpb
      have HMV := hid hmv
      have M0 := hid (PMov.refl B b wr)
      have HY := hid hbo.1
      have HNX := hid (And.intro hbo.2 (And.intro hnx (And.intro h4 h3)))
      have HNS := hid hns
      have HYT := hid hy
      have HMR := hid hmr
      have HRC := hid hrc
      have HF := hid hfit
      have HTL := hid (show m.length + ((Fo.cons xw ns xb y nx).text sp).length + sp.length ≤ 1099511627000 by have := HLE.out; have e := congrArg List.length hmr; simp only [List.length_append] at e; omega)
      clear hcell hbo htr hpb hmr hrc hmv hns hy hnx hb h1 h2 h3 h4 hfit HS0
      cases xb
      · go_wp2_with (first
        | (go_at_call 71; refine (wstr_b (w := w5) _ [10] rfl P5.out (by have := HTL.out; simp only [Fo.text, List.length_append, List.length_cons, List.length_nil] at this ⊢; omega)).mono ?_; rintro e w6 ⟨⟨k6, rfl⟩, p6, m6⟩; have P6 := hid p6; have M6 := hid (M5.out.trans m6); have F6 := hid (F5.out.mov m6).1; have V6 := hid (V5.out.free_mov F5.out m6); have c2 : w6.cell? ⟨wr.heap.size, 2, none⟩ = some (.bool false) := V6.out.cell (j := 2) rfl; clear p6 m6)
        | (go_at_call 53; refine (line_any ⟨xw, xA, xn, xc, false, xB, xm, xk⟩ ns w4 B b _ K P4.out (HLW.out.go (HMV.out.bel.trans M4.out.bel)) (HNS.out.lowB HK.out M4.out.bel) HK.out (far_of HF.out.2.2.1) (by have := HF.out.2.1; omega) (by have := HTL.out; simp only [Fo.text, List.length_append, List.length_cons] at this ⊢; omega)).mono ?_; rintro e w5 ⟨rfl, p5, m5⟩; have P5 := hid p5; have M5 := hid (M4.out.trans m5); have F5 := hid (F4.out.mov m5).1; have V5 := hid (V4.out.free_mov F4.out m5); clear p5 m5)
        | (go_at_call 71; refine (wstr_b (w := w3) _ sp rfl P3.out (by have := HTL.out; simp only [Fo.text, List.length_append, List.length_cons] at this; omega)).mono ?_; rintro e w4 ⟨⟨k4, rfl⟩, p4, m4⟩; have P4 := hid p4; have M4 := hid (M3.out.trans m4); have F4 := hid (F3.out.mov m4).1; have V4 := hid (V3.out.free_mov F3.out m4); have r4 := V4.out.1; clear p4 m4)
        | (refine Sh.wp_sv smS (x := ⟨xw, xA, xn, xc, false, xB, xm, xk⟩) rfl (.tmp 7) (.tmp 13) rfl rfl (by rfl) q2 ?_; intro w3 q3 b3 o3 s3; have h3 : Below wr.heap.size wr w3 := B2.out.trans b3; have n3 := PMov.of P0.out.leB P0.out.lt h3; have P3 := hid (P0.out.below h3); have M3 := hid (M0.out.trans n3); have F3 := hid (free_new P0.out h3 (s3.out.trans S2.out)); have V3 := hid q3; clear q3 b3 o3 s3 q2 h3 n3)
        | (refine Sh.wp_al smS rfl rfl ?_; intro w2 q2 b2 s2; have B2 := hid b2; have S2 := s2; clear b2 s2)
        | (refine Sh.wp_ld smS rfl (.tmp 7) rfl rfl r4 ?_)
        | (refine Sh.wp_ld smS rfl (.tmp 12) rfl rfl r1 ?_))
        go_roundw
        case rel => exact ⟨i + 1, nx, _, by go_num, by omega, HNX.out.1, HNX.out.2.1.lowB HK.out M6.out.bel, HNX.out.2.2.1, P6.out, by rw [← HMR.out]; simp [Fo.text], by have := HRC.out; simp only [Fo.count] at this; omega, HMV.out.trans M6.out⟩
        case measure => simp [intOf]; omega
      · obtain ⟨z, hz⟩ : ∃ z : Nat, (bA sp).size = z := ⟨_, rfl⟩
        have n1 : ¬ (9223372036854775807 : Int) < (z : Int) + 2 := by rw [bA_size] at hz; have := HTL.out; omega
        go_wp2_with (first
        | (go_at_call 71; refine (wstr_b (w := w7) _ (sp ++ [125, 10]) (str_app _ _) P7.out (by have := HTL.out; simp only [Fo.text, if_true, List.length_append, List.length_cons, List.length_nil] at this ⊢; omega)).mono ?_; rintro e w8 ⟨⟨k8, rfl⟩, p8, m8⟩; have P8 := hid p8; have M8 := hid (M7.out.trans m8); clear p8 m8)
        | (go_at_call 49; refine (HY.out w6 B b _ K xB xm xk (sp ++ [32, 32]) (k - 1) P6.out (HLW.out.go (HMV.out.bel.trans M6.out.bel)) (HYT.out.lowB HK.out M6.out.bel) HK.out HNX.out.2.2.2 (by have := HRC.out; have := HC.out; simp only [Fo.count] at *; omega) (by have := HTL.out; simp only [Fo.text, if_true, List.length_append, List.length_cons, List.length_nil] at this ⊢; omega)).mono ?_; rintro e w7 ⟨rfl, p7, m7⟩; have P7 := hid p7; have M7 := hid (M6.out.trans m7); clear p7 m7)
        | (go_at_call 71; refine (wstr_b (w := w5) _ [10] rfl P5.out (by have := HTL.out; simp only [Fo.text, List.length_append, List.length_cons, List.length_nil] at this ⊢; omega)).mono ?_; rintro e w6 ⟨⟨k6, rfl⟩, p6, m6⟩; have P6 := hid p6; have M6 := hid (M5.out.trans m6); have F6 := hid (F5.out.mov m6).1; have V6 := hid (V5.out.free_mov F5.out m6); have c2 : w6.cell? ⟨wr.heap.size, 2, none⟩ = some (.bool true) := V6.out.cell (j := 2) rfl; have c3 : w6.cell? ⟨wr.heap.size, 3, none⟩ = some (.slice xB xm xk) := V6.out.cell (j := 3) rfl; clear p6 m6)
        | (go_at_call 53; refine (line_any ⟨xw, xA, xn, xc, true, xB, xm, xk⟩ ns w4 B b _ K P4.out (HLW.out.go (HMV.out.bel.trans M4.out.bel)) (HNS.out.lowB HK.out M4.out.bel) HK.out (far_of HF.out.2.2.1) (by have := HF.out.2.1; omega) (by have := HTL.out; simp only [Fo.text, List.length_append, List.length_cons] at this ⊢; omega)).mono ?_; rintro e w5 ⟨rfl, p5, m5⟩; have P5 := hid p5; have M5 := hid (M4.out.trans m5); have F5 := hid (F4.out.mov m5).1; have V5 := hid (V4.out.free_mov F4.out m5); clear p5 m5)
        | (go_at_call 71; refine (wstr_b (w := w3) _ sp rfl P3.out (by have := HTL.out; simp only [Fo.text, List.length_append, List.length_cons] at this; omega)).mono ?_; rintro e w4 ⟨⟨k4, rfl⟩, p4, m4⟩; have P4 := hid p4; have M4 := hid (M3.out.trans m4); have F4 := hid (F3.out.mov m4).1; have V4 := hid (V3.out.free_mov F3.out m4); have r4 := V4.out.1; clear p4 m4)
        | (refine Sh.wp_sv smS (x := ⟨xw, xA, xn, xc, true, xB, xm, xk⟩) rfl (.tmp 7) (.tmp 13) rfl rfl (by rfl) q2 ?_; intro w3 q3 b3 o3 s3; have h3 : Below wr.heap.size wr w3 := B2.out.trans b3; have n3 := PMov.of P0.out.leB P0.out.lt h3; have P3 := hid (P0.out.below h3); have M3 := hid (M0.out.trans n3); have F3 := hid (free_new P0.out h3 (s3.out.trans S2.out)); have V3 := hid q3; clear q3 b3 o3 s3 q2 h3 n3)
        | (refine Sh.wp_al smS rfl rfl ?_; intro w2 q2 b2 s2; have B2 := hid b2; have S2 := s2; clear b2 s2)
        | (refine Sh.wp_ld smS rfl (.tmp 7) rfl rfl r4 ?_)
        | (refine Sh.wp_ld smS rfl (.tmp 12) rfl rfl r1 ?_))
        go_roundw
        case rel => exact ⟨i + 1, nx, _, by go_num, by omega, HNX.out.1, HNX.out.2.1.lowB HK.out M8.out.bel, HNX.out.2.2.1, P8.out, by rw [← HMR.out]; simp [Fo.text], by have := HRC.out; simp only [Fo.count] at this; omega, HMV.out.trans M8.out⟩
        case measure => simp [intOf]; omega
    · obtain rfl : i = n := by omega
      have hr := htr.done (by rw [HX.out.1]; exact Nat.le_refl _)
      subst hr
      have HV := hid (show m = l ++ f.text sp by simpa [Fo.text] using hmr)
      have P0 := hid hpb
      have M0 := hid hmv
      clear hbo htr hpb hmv hmr
      go_wp2
      go_end0
      exact ⟨rfl, by rw [← HV.out]; exact P0.out, M0.out⟩
theorem plist_any (f : Fo) : PListSaid f := (Fo.ind plist_step f).1
end Go.Proofs.YtkfnkieljcipnaaGreatDoor
