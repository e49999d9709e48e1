/-
  The walk of PrintLines where all is printed: it is true; under: the tables hold what the program lays.
-/
import Derived.Test.YtkfnkieljcipnaaGreatDoorZWS
namespace Go.Proofs.YtkfnkieljcipnaaGreatDoor
open Go Go.RowKit Go.Joins

set_option maxHeartbeats 4000000 in
set_option maxRecDepth 100000 in
theorem lines_ok (f g : Fo) (w : World) (K K2 : Nat → Prop) (A A2 : Option Addr) (n c n2 c2 : Nat) (hL : LaidW w) (ht : TrS w K A n f) (ht2 : TrS w K2 A2 n2 g) (hK : ∀ k, K k → k < w.heap.size) (hK2 : ∀ k, K2 k → k < w.heap.size) (hfew : (fewH f.len 12 && f.fewE 12) = true) (hfew2 : (fewH g.len 12 && g.fewE 12) = true) (hm : ¬ 2500 < wrap64 (IntKind.i64.wrap (f.count : Nat) + IntKind.i64.wrap (g.count : Nat))) (h3 : prE (f.app g) = 0) :
    Calls Tryz.prog 10 #[.slice A n c, .slice A2 n2 c2] w fun e w' => e = .returned (.bool true) ∧ Below w.heap.size w w' := by
  have HV := hid (live16_any w hL)
  have HF := hid (fun w1 (hb : Below w.heap.size w w1) => by have := rfew_any f w1 K A n c 12 (ht.below hb) (by decide) (by decide); rwa [hfew] at this)
  have HF2 := hid (fun w1 (hb : Below w.heap.size w w1) => by have := rfew_any g w1 K2 A2 n2 c2 12 (ht2.below hb) (by decide) (by decide); rwa [hfew2] at this)
  obtain ⟨hokL, hokS, hokN, hdep⟩ := few_ok hfew
  obtain ⟨hokL2, hokS2, hokN2, hdep2⟩ := few_ok hfew2
  have HC := hid (fun w1 (hb : Below w.heap.size w w1) => rcount2_any f w1 K A n c (ht.below hb) hokL)
  have HC2 := hid (fun w1 (hb : Below w.heap.size w w1) => rcount2_any g w1 K2 A2 n2 c2 (ht2.below hb) hokL2)
  have HP := hid (fun w1 (hb : Below w.heap.size w w1) => print_any f w1 K A n c (hL.below hb) (ht.below hb) (fun k hk => Nat.lt_of_lt_of_le (hK k hk) hb.size) (chk2_at (ht.below hb) hokS hokL hdep))
  have HP2 := hid (fun w1 (hb : Below w.heap.size w w1) => print_any g w1 K2 A2 n2 c2 (hL.below hb) (ht2.below hb) (fun k hk => Nat.lt_of_lt_of_le (hK2 k hk) hb.size) (chk2_at (ht2.below hb) hokS2 hokL2 hdep2))
  have hfl := (few_len hfew)
  have hgl := (few_len hfew2)
  have HP3 := hid (fun w1 A' n' c' (hb : Below w.heap.size w w1) (t : TrS w1 (fun k => k < w1.heap.size) A' n' (f.app g)) => print_any (f.app g) w1 _ A' n' c' (hL.below hb) t (fun k hk => hk)
    (fun w2 hb2 => check2_any (f.app g) w2 _ A' n' c' (t.below hb2) (okS_app hokS hokS2) ⟨by rw [Fo.len_app]; omega, okB_app hokL.2 hokL2.2⟩ (by rw [Fo.depth_app]; omega)))
  have hn1 : n ≤ 2100 := by rw [ht.len]; exact hfl
  have hn2 : n2 ≤ 2100 := by rw [ht2.len]; exact hgl
  have TX := hid (fun w1 (hb : Below w.heap.size w w1) => ht.below hb)
  have TY := hid (fun w1 (hb : Below w.heap.size w w1) => ht2.below hb)
  obtain ⟨h1, h2⟩ := prE_app h3
  obtain ⟨_, _, hl1, hT1⟩ := prE_ok h1
  obtain ⟨_, _, hl2, hT2⟩ := prE_ok h2
  obtain ⟨hok3, hcn3, hl3, hT3⟩ := prE_ok h3
  rw [h1, hT1] at HP
  rw [h2, hT2] at HP2
  rw [h3, hT3] at HP3
  rw [Fo.count_app] at hcn3
  have hnl := text_nls (f.app g) 6 [] hok3 (fun _ h => by cases h)
  have hwa : (f.flat.app g.flat).wants = (f.app g).nlF := by rw [← Fo.flat_app, flat_wants]
  have hta := Fo.text_app f g []
  have HFL := hid (fun wx (hb : Below w.heap.size w wx) => flat_any f wx K A n c (ht.below hb) (fun k hk => Nat.lt_of_lt_of_le (hK k hk) hb.size) (by omega) hokS)
  have HFL2 := hid (fun wx (hb : Below w.heap.size w wx) => flat_any g wx K2 A2 n2 c2 (ht2.below hb) (fun k hk => Nat.lt_of_lt_of_le (hK2 k hk) hb.size) (by omega) hokS2)
  have HFN := hid (show f.flat.len + g.flat.len ≤ 2000 by rw [Fo.len_flat, Fo.len_flat]; omega)
  have hzz : ((bA ((f.app g).text [])).toList == (bA (f.text []) ++ bA (g.text [])).toList) = true := by
    rw [hta, ByteArray.toList_eq, ByteArray.toList_eq, beq_iff_eq, str_app]; rfl
  have HZ := hid (show (bA ((f.app g).text [])).data.toList = (f.app g).text [] from rfl)
  have hza : (bA (f.text [])).size ≤ 65536 := by rw [bA_size]; exact hl1
  have hzb : (bA (g.text [])).size ≤ 65536 := by rw [bA_size]; exact hl2
  have hzc : (bA ((f.app g).text [])).size = ((f.app g).text []).length := bA_size _
  have HNL := hid hnl
  have HWA := hid hwa
  clear hnl hwa hta hok3 hcn3 hl1 hl2 h1 h2 h3 hT1 hT2 hT3
  generalize hq : (f.app g).text [] = q at *
  generalize bA (f.text []) = z1 at *
  generalize bA (g.text []) = z2 at *
  generalize bA q = z3 at *
  clear hq
  obtain ⟨N3, hN3⟩ : ∃ N3 : Nat, z3.size = N3 := ⟨_, rfl⟩
  obtain ⟨Na, hNa⟩ : ∃ Na : Nat, z1.size = Na := ⟨_, rfl⟩
  obtain ⟨Nb, hNb⟩ : ∃ Nb : Nat, z2.size = Nb := ⟨_, rfl⟩
  have hq3 : q.length = N3 := by omega
  have hN3b : (N3 : Int) ≤ 65536 := by omega
  rw [hNa] at hza
  rw [hNb] at hzb
  have n1 : ¬ (9223372036854775807 : Int) < (Na : Int) + (Nb : Int) := by omega
  have HQL := hid hq3
  clear hza hzb hzc hl3 hq3
  generalize IntKind.i64.wrap ((f.count : Nat) : Int) = m1 at *
  generalize IntKind.i64.wrap ((g.count : Nat) : Int) = m2 at *
  clear hL ht ht2 hfew hfew2 hokL hokS hokN hdep hokL2 hokS2 hokN2 hdep2 hfl hgl hK hK2
  go_enter Tryz.func10, Tryz.ntmps10
  go_wp2_with (go_at_call 26; refine HV.out.mono ?_; rintro e w1 ⟨rfl, g1⟩; have B1 := hid g1; clear g1)
  go_at_call 16
  refine (HF.out w1 B1.out).mono ?_
  rintro e w2 ⟨rfl, g2⟩
  have B2 := hid (B1.out.trans (g2.mono B1.out.size))
  clear g2
  go_wp2_with fail
  go_at_call 16
  refine (HF2.out w2 B2.out).mono ?_
  rintro e w3 ⟨rfl, g3⟩
  have B3 := hid (B2.out.trans (g3.mono B2.out.size))
  clear g3
  go_wp2_with (first
    | (refine wp_tobytes rfl (.tmp 77) rfl rfl ?_; intro w11 c11 b hcells; have B11 := hid (B10.out.trans (b.mono B10.out.size)); have CB := hid hcells; clear b hcells)
    | (go_at_call 17; refine (HC2.out w4 B4.out).mono ?_; rintro e w5 ⟨rfl, b⟩; have B5 := hid (B4.out.trans (b.mono B4.out.size)); clear b)
    | (go_at_call 17; refine (HC.out w3 B3.out).mono ?_; rintro e w4 ⟨rfl, b⟩; have B4 := hid (B3.out.trans (b.mono B3.out.size)); clear b)
    | (go_at_call 27; refine (HP3.out w9 A9 (n + n2) c9 B9.out X9.out).mono ?_; rintro e w10 ⟨rfl, b⟩; have B10 := hid (B9.out.trans (b.mono B9.out.size)); clear b)
    | (have hk0 := OD.out; clear hk0; refine Sh.wp_app smS rfl (.tmp 48) (.tmp 49) rfl rfl OD.out rfl (YR.out w8 GB.out).size (by omega) GB.out.size ?_; intro A9 c9 w9 own7 gr7 li7; have XX := two_app (XR.out w7 (Below.refl _ _)).2 (YR2.out) GD.out OD.out gr7 own7; have X9 := hid XX.1; have B9 := hid (B7.out.trans (XX.2.mono B7.out.size)); clear own7 gr7 li7 XX)
    | (refine Sh.wp_app smS (l := []) (base := w7.heap.size) rfl (.const (.slice none 0 0)) (.tmp 47) rfl rfl (Sh.Ow.nil _ _) rfl ((XR.out w7 (Below.refl _ _)).1.size) (by omega) (Nat.le_refl _) ?_; intro A8 c8 w8 own6 gr6 li6; (simp only [Nat.zero_add, List.nil_append] at own6 ⊢); have GD := hid gr6; have OD := hid own6; have GB := hid ((Below.refl w7.heap.size w7).grown gr6 (Nat.le_refl _) (fun k hk => by cases hk)); clear own6 gr6 li6)
    | (go_at_call 27; refine (HP2.out w6 B6.out).mono ?_; rintro e w7 ⟨rfl, b⟩; have B7 := hid (B6.out.trans (b.mono B6.out.size)); clear b; obtain ⟨xs, hx, htx⟩ := TX.out w7 B7.out; obtain ⟨ys, hy, hty⟩ := TY.out w7 B7.out; have XR := hid (fun wx (hb : Below w7.heap.size w7 wx) => And.intro (hx.below hb) (htx.below hb)); have YR := hid (fun wx (hb : Below w7.heap.size w7 wx) => hy.below hb); have YR2 := hid hty; clear hx htx hy hty)
    | (go_at_call 27; refine (HP.out w5 B5.out).mono ?_; rintro e w6 ⟨rfl, b⟩; have B6 := hid (B5.out.trans (b.mono B5.out.size)); clear b))
  have CB := hid (fun j (hj : j < N3) => by have := CB.out j (by omega); rwa [HZ.out] at this)
  go_loopw [12, 80] (fun v12 v80 wr => ∃ i : Nat, v12 = .int .i64 (nls (q.take i) : Nat) ∧ v80 = .int .i64 (i : Int) ∧ i ≤ N3 ∧ wr = w11) (fun _ v80 _ => N3 - (intOf v80).toNat)
  case atStart => exact ⟨0, rfl, rfl, Nat.zero_le _, rfl⟩
  case round =>
    obtain ⟨i, rfl, rfl, hi, rfl⟩ := hrel
    by_cases hlt : i < N3
    · have hql : i < q.length := by rw [HQL.out]; exact hlt
      have hc := CB.out i hlt
      have htk := hid (nls_take hql)
      have hle := hid (nls_le (q.take i))
      have hle2 : (nls (q.take i) : Int) ≤ 65536 := by have := hle.out; rw [List.length_take] at this; omega
      by_cases h10 : q.getD i 0 = 10
      · rw [h10] at hc htk
        have k1 : wr.cell? ⟨w10.heap.size, i, none⟩ = some (.int .u8 10) := hc
        have hi2 : (i : Int) < (N3 : Int) := by omega
        have HTK := hid (show nls (q.take (i + 1)) = nls (q.take i) + 1 from htk.out)
        clear hc htk hle h10 hql
        generalize nls (q.take i) = k at *
        go_wp2_with fail
        go_roundw
        case rel => exact ⟨i + 1, by rw [HTK.out]; go_num, by go_num, by omega, by first | trivial | rfl⟩
        case measure => simp [intOf]; omega
      · have HTK := hid (show nls (q.take (i + 1)) = nls (q.take i) by rw [htk.out, if_neg h10]; rfl)
        have hx := u8_ne h10
        have hi2 : (i : Int) < (N3 : Int) := by omega
        clear htk hle h10 hql
        generalize (q.getD i 0).toNat = x at *
        generalize hkk : nls (q.take i) = k at *
        go_wp2_with fail
        go_roundw
        case rel => exact ⟨i + 1, by rw [HTK.out], by go_num, by omega, by first | trivial | rfl⟩
        case measure => simp [intOf]; omega
    · obtain rfl : i = N3 := by omega
      have HQT := hid (show nls (q.take i) = (f.app g).nlF by rw [← HNL.out, List.take_of_length_le (by rw [HQL.out]; exact Nat.le_refl _)])
      rw [HQT.out]
      have HWA2 := hid (show (f.flat.app g.flat).wants = (f.app g).nlF from HWA.out)
      have hNL : ((f.app g).nlF : Int) ≤ 65536 := by have := HQT.out; have := nls_le (q.take i); rw [List.length_take] at this; omega
      generalize (f.app g).nlF = NV at *
      clear HQT HNL HWA CB
      go_wp2_with (first
        | (have hk0 := L13.out; clear hk0; refine Sh.wp_app smS (base := wr.heap.size) rfl (.tmp 90) (.tmp 92) rfl rfl (L12.out.ow.below b13.out) rfl L13.out.ow.row (by have := HFN.out; have := L12.out.len; have := L13.out.len; omega) (Nat.le_trans b12.out.size b13.out.size) ?_; intro A14 c14 w14 own14 gr14 li14; have TT := hid (((L12.out.tr.below b13.out).mono (P' := fun _ => True) (fun _ _ _ => trivial)).app (L13.out.tr.mono (P' := fun _ => True) (fun _ _ _ => trivial))); have B14 := hid (B13.out.trans ((Sh.grown_below smS (L12.out.ow.below b13.out) (Nat.le_trans b12.out.size b13.out.size) gr14).mono B11.out.size)); have HML := hid (show n12 + n13 ≤ 2000 from (by have := HFN.out; have := L12.out.len; have := L13.out.len; omega)); obtain ⟨M, hM⟩ : ∃ M, n12 + n13 = M := ⟨_, rfl⟩; rw [hM] at own14 HML ⊢; have R14 := hid own14.row; clear own14 gr14 li14 hM)
        | (go_at_call 18; refine (HFL2.out w12 B12.out).mono ?_; rintro e w13 ⟨A13, n13, c13, xs13, rfl, lo13, b⟩; have B13 := hid (B12.out.trans (b.mono B12.out.size)); have L13 := hid lo13; have b13 := hid b; clear lo13 b)
        | (go_at_call 18; refine (HFL.out wr B11.out).mono ?_; rintro e w12 ⟨A12, n12, c12, xs12, rfl, lo12, b⟩; have B12 := hid (B11.out.trans (b.mono B11.out.size)); have L12 := hid lo12; have b12 := hid b; clear lo12 b))
      have hM : (M : Int) ≤ 2000 := by have := HML.out; omega
      have HXL := hid (show (xs12 ++ xs13).length = M from R14.out.1)
      clear L12 L13
      generalize xs12 ++ xs13 = XS at *
      go_loopw [15, 95] (fun v15 v95 wt => ∃ (j k : Nat) (r : Fo), v15 = .int .i64 (k : Nat) ∧ v95 = .int .i64 (j : Int) ∧ j ≤ M ∧ k + r.wants = NV ∧ Tr w13 (fun _ => True) r (XS.drop j) ∧ Below w14.heap.size w14 wt) (fun _ v95 _ => M - (intOf v95).toNat)
      case atStart => exact ⟨0, 0, _, rfl, rfl, Nat.zero_le _, by rw [Nat.zero_add]; exact HWA2.out, TT.out, Below.refl _ _⟩
      case round =>
        obtain ⟨j, k, r, rfl, rfl, hj, hk, htr, hbel⟩ := hrel
        have BW := hid hbel
        by_cases hjl : j < M
        · obtain ⟨wd, ns, bl, y, nx, rfl, e1, e2, _, _, hnx⟩ := htr.step (by rw [HXL.out]; exact hjl)
          obtain ⟨bb, o, rfl, hb, hcell⟩ := (R14.out.below hbel).at_ hjl
          generalize smS.nth XS j = x at *
          obtain ⟨xw, xA, xn, xc, xb, xB, xm, xk⟩ := x
          simp only at e1 e2
          subst e1 e2
          have r1 : wr.rangeAt bb (o + j * 4) (smS.enc ⟨xw, xA, xn, xc, xb, xB, xm, xk⟩) := hcell
          have HNX := hid hnx
          have HKW := hid hk
          have hkn : (k : Int) ≤ 65536 := by omega
          clear hcell hk htr hnx hb hbel
          cases xb
          · go_wp2_with (first
              | (refine Sh.wp_sv smS (x := ⟨xw, xA, xn, xc, false, xB, xm, xk⟩) rfl (.tmp 17) (.tmp 98) rfl rfl (by rfl) q2 ?_; intro wv q3 b3 o3 s3; have c2 : wv.cell? ⟨wr.heap.size, 2, none⟩ = some (.bool false) := q3.cell (j := 2) rfl; have B3 := hid (BW.out.trans ((B2.out.trans (b3.mono (Nat.le_refl _))).mono BW.out.size)); clear q3 b3 o3 s3 q2)
              | (refine Sh.wp_al smS rfl rfl ?_; intro wu q2 b2 s2; have B2 := hid b2; clear b2 s2)
              | (refine Sh.wp_ld smS rfl (.tmp 97) rfl rfl r1 ?_))
            go_roundw
            case rel => exact ⟨j + 1, k + 1, nx, by go_num, by go_num, by omega, by have := HKW.out; simp only [Fo.wants, if_false, Bool.false_eq_true] at this; omega, HNX.out, B3.out⟩
            case measure => simp [intOf]; omega
          · go_wp2_with (first
              | (refine Sh.wp_sv smS (x := ⟨xw, xA, xn, xc, true, xB, xm, xk⟩) rfl (.tmp 17) (.tmp 98) rfl rfl (by rfl) q2 ?_; intro wv q3 b3 o3 s3; have c2 : wv.cell? ⟨wr.heap.size, 2, none⟩ = some (.bool true) := q3.cell (j := 2) rfl; have B3 := hid (BW.out.trans ((B2.out.trans (b3.mono (Nat.le_refl _))).mono BW.out.size)); clear q3 b3 o3 s3 q2)
              | (refine Sh.wp_al smS rfl rfl ?_; intro wu q2 b2 s2; have B2 := hid b2; clear b2 s2)
              | (refine Sh.wp_ld smS rfl (.tmp 97) rfl rfl r1 ?_))
            go_roundw
            case rel => exact ⟨j + 1, k + 2, nx, by go_num, by go_num, by omega, by have := HKW.out; simp only [Fo.wants, if_true] at this; omega, HNX.out, B3.out⟩
            case measure => simp [intOf]; omega
        · obtain rfl : j = M := by omega
          have hr := htr.done (by rw [HXL.out]; exact Nat.le_refl _)
          subst hr
          obtain rfl : k = NV := by simpa [Fo.wants] using hk
          clear hk htr hbel
          go_wp2_with fail
          go_ret
          exact ⟨rfl, B14.out.trans (BW.out.mono B14.out.size)⟩
theorem lines_any (f g : Fo) (w : World) (K K2 : Nat → Prop) (A A2 : Option Addr) (n c n2 c2 : Nat) (hL : LaidW w) (ht : TrS w K A n f) (ht2 : TrS w K2 A2 n2 g) (hK : ∀ k, K k → k < w.heap.size) (hK2 : ∀ k, K2 k → k < w.heap.size) :
    Calls Tryz.prog 10 #[.slice A n c, .slice A2 n2 c2] w fun e w' => e = .returned (.bool true) ∧ Below w.heap.size w w' := by
  cases hfew : (fewH f.len 12 && f.fewE 12) with
  | false => exact lines_few1 f g w K K2 A A2 n c n2 c2 hL ht ht2 hfew
  | true =>
    cases hfew2 : (fewH g.len 12 && g.fewE 12) with
    | false => exact lines_few2 f g w K K2 A A2 n c n2 c2 hL ht ht2 hfew hfew2
    | true =>
      by_cases hm : 2500 < wrap64 (IntKind.i64.wrap (f.count : Nat) + IntKind.i64.wrap (g.count : Nat))
      · exact lines_many f g w K K2 A A2 n c n2 c2 hL ht ht2 hfew hfew2 hm
      · by_cases h3 : prE (f.app g) = 0
        · exact lines_ok f g w K K2 A A2 n c n2 c2 hL ht ht2 hK hK2 hfew hfew2 hm h3
        · by_cases h1 : prE f = 0
          · by_cases h2 : prE g = 0
            · exact lines_e3 f g w K K2 A A2 n c n2 c2 hL ht ht2 hK hK2 hfew hfew2 hm h3 h1 h2
            · exact lines_e2 f g w K K2 A A2 n c n2 c2 hL ht ht2 hK hK2 hfew hfew2 hm h3 h1 h2
          · exact lines_e1 f g w K K2 A A2 n c n2 c2 hL ht ht2 hK hK2 hfew hfew2 hm h3 h1
theorem lines_row (A : Option Addr) (n c : Nat) (f : Fo) (A2 : Option Addr) (n2 c2 : Nat) (g : Fo) (w : World) (hL : LaidW w) (ht : TrS w (fun b => b < w.heap.size) A n f) (_ : n ≤ 9223372036854775807) (ht2 : TrS w (fun b => b < w.heap.size) A2 n2 g) (_ : n2 ≤ 9223372036854775807) :
    Calls Tryz.prog 10 #[.slice A n c, .slice A2 n2 c2] w fun e w' => e = .returned (.bool true) ∧ Below w.heap.size w w' := lines_any f g w _ _ A A2 n c n2 c2 hL ht ht2 (fun _ h => h) (fun _ h => h)
end Go.Proofs.YtkfnkieljcipnaaGreatDoor
