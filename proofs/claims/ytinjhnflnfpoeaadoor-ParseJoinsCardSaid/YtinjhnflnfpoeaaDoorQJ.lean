/-
  The walk of ParseJoins: it is true; under: the tables hold what the program lays (LaidW).
-/
import Derived.Test.YtinjhnflnfpoeaaDoorQH
import Derived.Test.YtinjhnflnfpoeaaDoorQI
namespace Go.Proofs.YtinjhnflnfpoeaaDoor
open Go Go.RowKit Go.Joins

theorem cut_said (s : ByteArray) (w : World) (hL : LaidW w) (hs : s.size ≤ 20000) : Calls Tryd.prog 7 #[.string s] w fun e w' => Below w.heap.size w w' ∧ ∃ n A c A2 n2 c2 p f, e = .returned (.tuple #[.slice A n c, .slice A2 n2 c2, plV p, .int .i64 (f : Nat)]) ∧ n ≤ 20000 ∧ (f = 0 → (cutL s.data.toList false firstP).2 = none) := by
  refine (lcut_any s w hL (by omega)).mono ?_
  rintro e w' ⟨hb, ⟨h1, _⟩ | ⟨_, p, f, h1, rfl⟩ | ⟨_, h1, n, A, c, A2, c2, hn, hn2, rfl, ht, hp⟩⟩
  · omega
  · exact ⟨hb, 0, none, 0, none, 0, 0, p, f, rfl, by omega, fun h => absurd ((cutK _ _ false firstP (Nat.le_refl _)).1 p f h1).1 (by omega)⟩
  · exact ⟨hb, n, A, c, A2, n, c2, ⟨0, 0⟩, 0, rfl, by omega, fun _ => h1⟩

set_option maxRecDepth 100000 in
theorem joins_long (s t : ByteArray) (w : World) (hL : LaidW w) (hs : s.size ≤ 9223372036854775807) (ht : t.size ≤ 9223372036854775807) (h : 20000 < s.size ∨ 20000 < t.size) :
    Calls Tryd.prog 3 #[.string s, .string t] w fun e w' => e = .returned (.bool true) ∧ Below w.heap.size w w' := by
  have HV := hid (live_any w hL)
  clear hL
  by_cases h1 : 20000 < s.size
  · have e1 : (20000 : Int) < s.size := by omega
    clear h
    go_enter Tryd.func3, Tryd.ntmps3
    go_wp2_with (first
      | (go_at_call 5; refine HV.out.mono ?_; rintro e w1 ⟨rfl, g1⟩; have G1 := hid g1; clear g1))
    go_ret
    exact ⟨rfl, G1.out⟩
  · have e1 : ¬ (20000 : Int) < s.size := by omega
    have e2 : (20000 : Int) < t.size := by omega
    clear h
    go_enter Tryd.func3, Tryd.ntmps3
    go_wp2_with (first
      | (go_at_call 5; refine HV.out.mono ?_; rintro e w1 ⟨rfl, g1⟩; have G1 := hid g1; clear g1))
    go_ret
    exact ⟨rfl, G1.out⟩

set_option maxHeartbeats 4000000 in
set_option maxRecDepth 100000 in
theorem joins_short (s t : ByteArray) (w : World) (hL : LaidW w) (hs : s.size ≤ 20000) (ht : t.size ≤ 20000) :
    Calls Tryd.prog 3 #[.string s, .string t] w fun e w' => e = .returned (.bool true) ∧ Below w.heap.size w w' := by
  have HV := hid (live_any w hL)
  have HL := hid hL
  obtain ⟨S3, hS3⟩ : ∃ S3, s ++ (⟨#[10]⟩ : ByteArray) ++ t = S3 := ⟨_, rfl⟩
  have hl3 : S3.data.toList = s.data.toList ++ 10 :: t.data.toList := by
    rw [← hS3, ByteArray.data_append, ByteArray.data_append, Array.toList_append, Array.toList_append, List.append_assoc]; rfl
  have hz3 : S3.size ≤ 40001 := by
    show S3.data.toList.length ≤ _
    have h6 : s.data.toList.length = s.size := rfl
    have h7 : t.data.toList.length = t.size := rfl
    rw [hl3, List.length_append, List.length_cons]; omega
  have HP1 := hid (fun w hL => parse_told s w hL (by omega))
  have HP2 := hid (fun w hL => parse_told t w hL (by omega))
  have HP3 := hid (fun w hL => by have := parse_told S3 w hL (by omega); rwa [hl3] at this)
  have HC := hid (fun w hL => cut_said t w hL ht)
  have HLN := hid (show s.data.toList.length ≤ 20000 ∧ t.data.toList.length ≤ 20000 from ⟨hs, ht⟩)
  have e1 : ¬ (20000 : Int) < s.size := by omega
  have e2 : ¬ (20000 : Int) < t.size := by omega
  obtain ⟨z, hz⟩ : ∃ z : Int, (s.size : Int) + t.size = z := ⟨_, rfl⟩
  have e3 : z ≤ 40000 := by omega
  have e4 : 0 ≤ z := by omega
  have hsum : ¬ (65536 : Int) ≤ z := by omega
  clear hl3 hz3 hL
  generalize hX1 : parF s.data.toList = X1 at *
  generalize hX2 : parF t.data.toList = X2 at *
  generalize hX3 : parF (s.data.toList ++ 10 :: t.data.toList) = X3 at *
  have HX := hid (And.intro hX1 (And.intro hX2 hX3))
  clear hX1 hX2 hX3
  go_enter Tryd.func3, Tryd.ntmps3
  go_upto_region 9 with (first
    | (refine Sh.wp_sv plS (x := p3) rfl (.tmp 13) (.tmp 50) rfl rfl (by rfl) q9 ?_; intro wa qa ba oa sa; have B8a := hid (B89.out.trans (ba.mono (Nat.le_refl _))); have Ba := hid (B8.out.trans (B8a.out.mono B8.out.size)); have V13 := hid qa; clear q9 qa ba oa sa)
    | (have hk0 := B8.out; clear hk0; refine Sh.wp_al plS rfl rfl ?_; intro w9 q9 b9 s9; have B89 := hid b9; clear b9 s9)
    | (go_at_call 6; (with_reducible refine (HP3.out w7 (HL.out.below B7.out)).mono ?_); rintro e w8 ⟨b8, A3, n3, c3, p3, er3, F3, rfl, t3, h3⟩; have B78 := hid b8; have B8 := hid (B7.out.trans (b8.mono B7.out.size)); have T3 := hid t3; have H3 := hid h3; clear b8 t3 h3)
    | (refine Sh.wp_sv plS (x := p2) rfl (.tmp 10) (.tmp 41) rfl rfl (by rfl) q6 ?_; intro w7 q7 b7 o7 s7; have B57 := hid (B56.out.trans (b7.mono (Nat.le_refl _))); have B7 := hid (B5.out.trans (B57.out.mono B5.out.size)); clear q6 q7 b7 o7 s7)
    | (have hk0 := B5.out; clear hk0; refine Sh.wp_al plS rfl rfl ?_; intro w6 q6 b6 s6; have B56 := hid b6; clear b6 s6)
    | (go_at_call 6; (with_reducible refine (HP2.out w4 (HL.out.below B4.out)).mono ?_); rintro e w5 ⟨b5, A2, n2, c2, p2, er2, F2, rfl, t2, h2⟩; have B45 := hid b5; have B5 := hid (B4.out.trans (b5.mono B4.out.size)); have T2 := hid t2; have H2 := hid h2; clear b5 t2 h2)
    | (refine Sh.wp_sv plS (x := p1) rfl (.tmp 7) (.tmp 35) rfl rfl (by rfl) q3 ?_; intro w4 q4 b4 o4 s4; have B24 := hid (B23.out.trans (b4.mono (Nat.le_refl _))); have B4 := hid (B2.out.trans (B24.out.mono B2.out.size)); have V7 := hid q4; clear q3 q4 b4 o4 s4)
    | (have hk0 := B2.out; clear hk0; refine Sh.wp_al plS rfl rfl ?_; intro w3 q3 b3 s3; have B23 := hid b3; clear b3 s3)
    | (go_at_call 6; (with_reducible refine (HP1.out w1 (HL.out.below G1.out)).mono ?_); rintro e w2 ⟨b2, A1, n1, c1, p1, er1, F1, rfl, t1, h1⟩; have B2 := hid (G1.out.trans (b2.mono G1.out.size)); have T1 := hid t1; have H1 := hid h1; clear b2 t1 h1)
    | (go_at_call 5; refine HV.out.mono ?_; rintro e w1 ⟨rfl, g1⟩; have G1 := hid g1; clear g1))
  have B4a := hid (B45.out.trans ((B57.out.trans ((B78.out.trans (B8a.out.mono B78.out.size)).mono B57.out.size)).mono B45.out.size))
  have B5a := hid (B57.out.trans ((B78.out.trans (B8a.out.mono B78.out.size)).mono B57.out.size))
  have VA7 := hid (V7.out.keep B4a.out)
  have TT1 := hid ((T1.out.below B24.out).below B4a.out)
  have TT2 := hid (T2.out.below B5a.out)
  have TT3 := hid (T3.out.below B8a.out)
  clear T1 T2 T3 V7 B23 B56 B89 hS3
  by_cases h0 : er1 = 0
  · subst h0
    have hx1 : X1 = .ok F1 := by
      rcases H1.out with ⟨_, h⟩ | ⟨h, _⟩
      · exact h
      · exact absurd rfl h
    by_cases h2 : er2 = 0
    · subst h2
      have hx2 : X2 = .ok F2 := by
        rcases H2.out with ⟨_, h⟩ | ⟨h, _⟩
        · exact h
        · exact absurd rfl h
      have k1 := par_count (HX.out.1.trans hx1)
      have k2 := par_count (HX.out.2.1.trans hx2)
      have o1 := par_okN (HX.out.1.trans hx1)
      have o2 := par_okN (HX.out.2.1.trans hx2)
      have C1 := hid (count_any F1 wa _ A1 n1 c1 TT1.out (by omega))
      have C2 := hid (fun wb (b : Below wa.heap.size wa wb) => count_any F2 wb _ A2 n2 c2 (TT2.out.below b) (by omega))
      have kk1 : (F1.count : Int) ≤ 2000 := by omega
      have kk2 : (F2.count : Int) ≤ 2000 := by omega
      by_cases hc : 2000 < F1.count + F2.count
      · have hc2 : (2000 : Int) < (F1.count : Int) + F2.count := by omega
        clear k1 k2 hc hx1 hx2
        go_wp2_with (first
          | (go_at_call 8; (with_reducible refine (C2.out wb Bab.out).mono ?_); rintro e wc ⟨rfl, bc⟩; have Bac := hid (Bab.out.trans (bc.mono Bab.out.size)); clear bc)
          | (go_at_call 8; (with_reducible refine C1.out.mono ?_); rintro e wb ⟨rfl, bb⟩; have Bab := hid bb; clear bb))
        go_ret
        exact ⟨rfl, Ba.out.trans (Bac.out.mono Ba.out.size)⟩
      · have hc2 : ¬ (2000 : Int) < (F1.count : Int) + F2.count := by omega
        have hx3 := par_ok HLN.out.1 HLN.out.2 (HX.out.1.trans hx1) (HX.out.2.1.trans hx2) (by omega)
        rw [HX.out.2.2] at hx3
        obtain ⟨rfl, rfl⟩ : er3 = 0 ∧ F3 = F1.app F2 := by
          rcases H3.out with ⟨h, h5⟩ | ⟨_, h⟩
          · rw [hx3] at h5; cases h5; exact ⟨h, rfl⟩
          · rw [hx3] at h; cases h
        have hn1 : n1 ≤ 2000 := by have := TT1.out.len; have := F1.len_le; omega
        have hn2 : n2 ≤ 2000 := by have := TT2.out.len; have := F2.len_le; omega
        have HO := hid (okN_app o1 o2)
        have HK := hid (show (F1.app F2).count ≤ 4611686018427387904 by rw [Fo.count_app]; omega)
        obtain ⟨xs1, hr1, tr1⟩ := TT1.out
        obtain ⟨xs2, hr2, tr2⟩ := TT2.out
        have R1 := hid hr1
        have R2 := hid hr2
        have D1 := hid tr1
        have D2 := hid tr2
        clear k1 k2 hc hx1 hx2 hx3 hr1 hr2 tr1 tr2
        go_upto_region 16 with (first
          | (go_at_call 8; (with_reducible refine (C2.out wb Bab.out).mono ?_); rintro e wc ⟨rfl, bc⟩; have Bac := hid (Bab.out.trans (bc.mono Bab.out.size)); clear bc)
          | (go_at_call 8; (with_reducible refine C1.out.mono ?_); rintro e wb ⟨rfl, bb⟩; have Bab := hid bb; clear bb))
        have ZR1 := hid ((R1.out.below Bac.out).size)
        have ZD1 := hid (D1.out.below Bac.out)
        have ZR2 := hid (R2.out.below Bac.out)
        have ZD2 := hid (D2.out.below Bac.out)
        have ZT3 := hid (TT3.out.below Bac.out)
        go_wp2_with (first
          | (go_at_call 9; have h9 := rsame_any (F1.app F2) (F1.app F2) we _ _ A3 A7 n3 c3 (n1 + n2) c7 (ZT3.out.below XX.out.2) XX.out.1 HK.out HK.out HO.out HO.out; rw [decide_eq_true rfl] at h9; (with_reducible refine h9.mono ?_); rintro e wf ⟨rfl, bf⟩; have Bcf := hid (XX.out.2.trans (bf.mono XX.out.2.size)); clear bf)
          | (have hk0 := OD.out; clear hk0; refine Sh.wp_app smS rfl (.tmp 115) (.tmp 116) rfl rfl OD.out rfl ZR2d.out (by omega) HWD.out ?_; intro A7 c7 we own7 gr7 li7; have XX := hid (two_app ZD1.out ZD2.out GD.out OD.out gr7 own7); clear own7 gr7 li7)
          | (refine Sh.wp_app smS (l := []) (base := wc.heap.size) rfl (.const (.slice none 0 0)) (.tmp 114) rfl rfl (Sh.Ow.nil _ _) rfl ZR1.out (by omega) (Nat.le_refl _) ?_; intro A6 c6 wd own6 gr6 li6; (simp only [Nat.zero_add, List.nil_append] at own6 ⊢); have GD := hid gr6; have OD := hid own6; have bcd : Below wc.heap.size wc wd := (Below.refl _ _).grown gr6 (Nat.le_refl _) (fun k hk => by cases hk); have ZR2d := hid ((ZR2.out.below bcd).size); have HWD := hid bcd.size; clear own6 gr6 li6 bcd))
        go_ret
        exact ⟨rfl, Ba.out.trans ((Bac.out.trans (Bcf.out.mono Bac.out.size)).mono Ba.out.size)⟩
    · have f2 : ((er2 : Int) == 0) = false := beq_eq_false_iff_ne.2 (by omega)
      clear f2 hx1
      go_wp2_with fail
      go_ret
      exact ⟨rfl, Ba.out⟩
  have f0 : ((er1 : Int) != 0) = true := by simp; omega
  by_cases h3 : er1 = 3
  · subst h3
    clear h0 f0
    go_wp2_with fail
    go_ret
    exact ⟨rfl, Ba.out⟩
  have f3 : ((er1 : Int) != 3) = true := by simp; omega
  go_upto_region 11 with (first
    | (refine Sh.wp_sv plS (x := p4) rfl (.tmp 17) (.tmp 63) rfl rfl (by rfl) qc ?_; intro wd qd bd od sd; have Bbd := hid (Bbc.out.trans (bd.mono (Nat.le_refl _))); clear qc qd bd od sd)
    | (have hk0 := Bab.out; clear hk0; refine Sh.wp_al plS rfl rfl ?_; intro wc qc bc sc; have Bbc := hid bc; clear bc sc)
    | (go_at_call 7; (with_reducible refine (HC.out wa (HL.out.below Ba.out)).mono ?_); rintro e wb ⟨bb, n4, A4, c4, A5, n5, c5, p4, f4, rfl, hn4, hf4⟩; have Bab := hid bb; have N4 := hid (And.intro hn4 hf4); clear bb hn4 hf4))
  have Bad := hid (Bab.out.trans (Bbd.out.mono Bab.out.size))
  by_cases hf : f4 = 0
  · obtain ⟨hn4, hf4⟩ := N4.out
    have hx3 := par_bad (m := t.data.toList) HLN.out.1 HLN.out.2 (by
      rcases H1.out with ⟨h, _⟩ | ⟨_, h⟩
      · exact absurd h h0
      · rw [HX.out.1]; exact h) h3 (hf4 hf)
    rw [HX.out.2.2] at hx3
    obtain ⟨rfl, rfl⟩ : er3 = er1 ∧ p3 = p1 := by
      rcases H3.out with ⟨_, h⟩ | ⟨_, h⟩
      · rw [hx3] at h; cases h
      · rw [hx3] at h; cases h; exact ⟨rfl, rfl⟩
    subst hf
    have V13d := V13.out.keep Bad.out
    have V7d := VA7.out.keep Bad.out
    have y0 : wd.cell? ⟨w8.heap.size, 0, none⟩ = some (.int .i64 p3.line) := V13d.cell (j := 0) rfl
    have y1 : wd.cell? ⟨w8.heap.size, 1, none⟩ = some (.int .i64 p3.col) := V13d.cell (j := 1) rfl
    have z0 : wd.cell? ⟨w2.heap.size, 0, none⟩ = some (.int .i64 p3.line) := V7d.cell (j := 0) rfl
    have z1 : wd.cell? ⟨w2.heap.size, 1, none⟩ = some (.int .i64 p3.col) := V7d.cell (j := 1) rfl
    have q1 := fun w => eqP p3 p3 w
    have q2 := fun p q w => guP .eql p q p3 p3 w
    rw [decide_eq_true rfl] at q1
    unfold plV at q1 q2
    have hn4' : ¬ (1048576 : Int) < n4 := by omega
    clear V13d V7d hx3 hf4 h0 h3 hn4
    go_wp2_with fail
    go_ret
    exact ⟨rfl, Ba.out.trans (Bad.out.mono Ba.out.size)⟩
  · have ff : ((f4 : Int) == 0) = false := beq_eq_false_iff_ne.2 (by omega)
    clear ff h0 h3
    go_wp2_with fail
    go_ret
    exact ⟨rfl, Ba.out.trans (Bad.out.mono Ba.out.size)⟩
theorem joins_row (s t : ByteArray) (w : World) (hL : LaidW w) (hs : s.size ≤ 9223372036854775807) (ht : t.size ≤ 9223372036854775807) :
    Calls Tryd.prog 3 #[.string s, .string t] w fun e w' => e = .returned (.bool true) ∧ Below w.heap.size w w' := by
  by_cases h : 20000 < s.size ∨ 20000 < t.size
  · exact joins_long s t w hL hs ht h
  · exact joins_short s t w hL (by omega) (by omega)
end Go.Proofs.YtinjhnflnfpoeaaDoor
