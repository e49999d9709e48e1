/-
  The walk of ParseMay: it is true; under: the tables hold what the program lays (LaidW).
-/
import Derived.Test.YtinjhnflnfpoeaaGreatDoorQL
import Derived.Test.YtinjhnflnfpoeaaGreatDoorRC
import Derived.Deep.QuietTactic
import Derived.BigQuiet
namespace Go.Proofs.YtinjhnflnfpoeaaGreatDoor
open Go Go.RowKit Go.Joins

set_option maxRecDepth 100000 in
theorem may_bad (s : ByteArray) (w : World) (hL : LaidW w) (hs : s.size ≤ 9223372036854775807) (p : Pl) (er : Nat) (h : parF s.data.toList = .bad p er) :
    Calls Tryz.prog 5 #[.string s] w fun e w' => e = .returned (.bool true) ∧ Below w.heap.size w w' := by
  have HV := hid (live_any w hL)
  have HF := hid (fun w => few_any s w)
  have HP := hid (fun w hL => by have := parse_any s w hL hs; rwa [h] at this)
  have HL := hid hL
  clear hL
  go_enter Tryz.func5, Tryz.ntmps5
  go_wp2_with (first
    | (go_at_call 8; refine (HF.out w1).mono ?_; rintro e w2 ⟨⟨b, rfl⟩, g2⟩; have G2 := hid (G1.out.trans (g2.mono G1.out.size)); clear g2; cases b)
    | (go_at_call 7; refine HV.out.mono ?_; rintro e w1 ⟨rfl, g1⟩; have G1 := hid g1; clear g1))
  · go_wp2_with fail
    go_ret
    exact ⟨rfl, G2.out⟩
  · go_upto_region 5 with (first
      | (refine Sh.wp_sv plS (x := p) rfl (.tmp 5) (.tmp 25) rfl rfl (by rfl) q4 ?_; intro w5 q5 b5 o5 s5; have B25 := hid (B24.out.trans (b5.mono (Nat.le_refl _))); have B5 := hid (B3.out.trans (B25.out.mono B3.out.size)); clear q4 q5 b5 o5 s5)
      | (have hk0 := B3.out; clear hk0; refine Sh.wp_al plS rfl rfl ?_; intro w4 q4 b4 s4; have B24 := hid b4; clear b4 s4)
      | (go_at_call 9; (with_reducible refine (HP.out w2 (HL.out.below G2.out)).mono ?_); rintro e w3 ⟨b3, ⟨h0, h7⟩, rfl⟩; have B3 := hid (G2.out.trans (b3.mono G2.out.size)); clear b3))
    have k1 : ¬ er = 0 := by omega
    have k2 : ((er : Int) != 0) = true := by simp; omega
    go_wp2_with fail
    go_ret
    exact ⟨rfl, B5.out⟩
/-! ### ok -/
theorem cut_is {l : List UInt8} {f : Fo} (h : parF l = .ok f) : l.length ≤ 65536 ∧ (cutL l false firstP).2 = none := by
  unfold parF at h
  split at h
  · cases h
  rename_i h1
  refine ⟨by omega, ?_⟩
  split at h
  · cases h
  · assumption
theorem may_cut (s : ByteArray) (w : World) (hL : LaidW w) {f : Fo} (h : parF s.data.toList = .ok f) : Calls Tryz.prog 22 #[.string s] w fun e w' => Below w.heap.size w w' ∧ ∃ n A c A2 c2, n ≤ 65536 ∧ (toksF s.data.toList).length = n ∧ e = .returned (.tuple #[.slice A n c, .slice A2 n c2, plV ⟨0, 0⟩, .int .i64 0]) ∧ tkS.Ow w' w.heap.size A n c (toksF s.data.toList) := by
  obtain ⟨h1, h2⟩ := cut_is h
  have hs : s.size ≤ 65536 := h1
  refine (lcut_any s w hL (by omega)).mono ?_
  rintro e w' ⟨hb, ⟨h3, _⟩ | ⟨_, p, f, h3, _⟩ | ⟨_, _, n, A, c, A2, c2, hn, hn2, rfl, ht, _⟩⟩
  · omega
  · rw [h2] at h3; cases h3
  · exact ⟨hb, n, A, c, A2, c2, by omega, by rw [toksF, List.length_map]; exact hn, rfl, ht⟩
theorem stmt_cells {w : World} {K : Nat → Prop} {A : Option Addr} {N q : Nat} {xs : List Sm} {r : Fo} {p : List UInt8 × List (Int × Bool)} {B : Nat} (hr : smS.Rw w B A N xs) (ht : Tr w K r xs) (hp : r.prs[q]? = some p) :
    ∃ b o nA nc, A = some ⟨b, o, none⟩ ∧ q < N ∧ w.cell? ⟨b, o + q * 4, none⟩ = some (.string (strB p.1)) ∧ w.cell? ⟨b, o + q * 4 + 1, none⟩ = some (.slice nA p.2.length nc) ∧ RwP nmS w K nA p.2.length p.2 := by
  obtain ⟨h1, h2, h3⟩ := Tr.at_ q 0 (by simpa using ht) hp
  rw [Nat.zero_add] at h1 h2 h3
  have hq : q < N := by rw [← hr.1]; exact h1
  obtain ⟨b, o, hA, _, hc⟩ := hr.at_ hq
  have hl := h3.len
  generalize smS.nth xs q = x at *
  have e : x.nn = p.2.length := hl.symm
  refine ⟨b, o, x.nA, x.nc, hA, hq, ?_, ?_, by rw [← e]; exact h3⟩
  · rw [← h2]; exact hc 0 _ rfl
  · rw [← e]; exact hc 1 _ rfl
set_option maxHeartbeats 4000000 in
set_option maxRecDepth 100000 in
theorem may_ok (s : ByteArray) (w : World) (hL : LaidW w) (hs : s.size ≤ 9223372036854775807) (F : Fo) (h : parF s.data.toList = .ok F) :
    Calls Tryz.prog 5 #[.string s] w fun e w' => e = .returned (.bool true) ∧ Below w.heap.size w w' := by
  have HV := hid (live_any w hL)
  have HF := hid (fun w => few_any s w)
  have HP := hid (fun w hL => by have := parse_any s w hL hs; rwa [h] at this)
  have HC := hid (fun w hL => may_cut s w hL h)
  have HO := hid (And.intro (okA_okS (par_okA h).1) (par_okA h).2)
  have HCK := hid (par_check h)
  have HSG := hid (par_sig h)
  have HKD := hid (tok_kinds s.data.toList)
  have HL := hid hL
  clear hL h
  generalize toksF s.data.toList = T at *
  go_enter Tryz.func5, Tryz.ntmps5
  go_wp2_with (first
    | (go_at_call 8; refine (HF.out w1).mono ?_; rintro e w2 ⟨⟨b, rfl⟩, g2⟩; have G2 := hid (G1.out.trans (g2.mono G1.out.size)); clear g2; cases b)
    | (go_at_call 7; refine HV.out.mono ?_; rintro e w1 ⟨rfl, g1⟩; have G1 := hid g1; clear g1))
  · go_wp2_with fail
    go_ret
    exact ⟨rfl, G2.out⟩
  go_upto_region 7 with (first
    | (refine Sh.wp_sv plS (x := ⟨0, 0⟩) rfl (.tmp 5) (.tmp 25) rfl rfl (by rfl) q4 ?_; intro w5 q5 b5 o5 s5; have B35 := hid (B34.out.trans (b5.mono (Nat.le_refl _))); have B5 := hid (B3.out.trans (B35.out.mono B3.out.size)); clear q4 q5 b5 o5 s5)
    | (have hk0 := B3.out; clear hk0; refine Sh.wp_al plS rfl rfl ?_; intro w4 q4 b4 s4; have B34 := hid b4; clear b4 s4)
    | (go_at_call 9; (with_reducible refine (HP.out w2 (HL.out.below G2.out)).mono ?_); rintro e w3 ⟨b3, A3, n3, c3, rfl, t3⟩; have B3 := hid (G2.out.trans (b3.mono G2.out.size)); have T3 := hid t3; clear b3 t3))
  have T5 := hid (T3.out.below B35.out)
  have CK := hid (by have := check_any F w5 _ A3 n3 c3 T5.out HO.out.1 (by have := HO.out.2; omega); rw [HCK.out] at this; exact this)
  have hs35 : w3.heap.size ≤ w5.heap.size := B35.out.size
  clear T3 B34 B35
  go_upto_region 10 with (first
    | (refine Sh.wp_sv plS (x := ⟨0, 0⟩) rfl (.tmp 9) (.tmp 43) rfl rfl (by rfl) q8 ?_; intro w9 q9 b9 o9 s9; have B79 := hid (B78.out.trans (b9.mono (Nat.le_refl _))); have B59 := hid (B57.out.trans (B79.out.mono B57.out.size)); have B9 := hid (B5.out.trans (B59.out.mono B5.out.size)); clear q8 q9 b9 o9 s9)
    | (have hk0 := B57.out; clear hk0; refine Sh.wp_al plS rfl rfl ?_; intro w8 q8 b8 s8; have B78 := hid b8; clear b8 s8)
    | (go_at_call 22; (with_reducible refine (HC.out w6 (HL.out.below (B5.out.trans (B56.out.mono B5.out.size)))).mono ?_); rintro e w7 ⟨b7, n7, A7, c7, Ap, cp, hn7, hl7, rfl, tk7⟩; have B57 := hid (B56.out.trans (b7.mono B56.out.size)); have TK := hid tk7; have HN7 := hid hl7; clear b7 tk7 hl7)
    | (go_at_call 16; (with_reducible refine CK.out.mono ?_); rintro e w6 ⟨rfl, b6⟩; have B56 := hid b6; clear b6))
  have T9 := hid (T5.out.below B59.out)
  have TK9 := hid ((TK.out.row).below B79.out)
  have hs79 : w7.heap.size ≤ w9.heap.size := B79.out.size
  have hs5 : w5.heap.size ≤ w9.heap.size := B59.out.size
  have FL := hid (flat_any F w9 _ A3 n3 c3 T9.out (fun k hk => by have := hk.2; omega) (by have := HO.out.2; omega) HO.out.1)
  have CN := hid (fun wx (bx : Below w9.heap.size w9 wx) => count_any F wx _ A3 n3 c3 (T9.out.below bx) (by have := HO.out.2; omega))
  clear TK T5 CK B57 B56 B78 hs79
  go_upto_region 13 with (first
    | (go_at_call 18; (with_reducible refine (CN.out w10 B910.out).mono ?_); rintro e w11 ⟨rfl, b11⟩; have B911 := hid (B910.out.trans (b11.mono B910.out.size)); have B1011 := hid b11; clear b11)
    | (go_at_call 14; (with_reducible refine FL.out.mono ?_); rintro e w10 ⟨A10, N, c10, xs, rfl, lo10, b10⟩; have B910 := hid b10; have L10 := hid lo10; obtain rfl : N = F.count := (by rw [lo10.len, Fo.len_flat]); clear b10 lo10))
  have ST := hid (fun wx (bx : Below w11.heap.size w11 wx) (q : Nat) p (hp : F.flat.prs[q]? = some p) => (show ∃ b o nA nc, A10 = some ⟨b, o, none⟩ ∧ q < F.count ∧ wx.cell? ⟨b, o + q * 4, none⟩ = some (.string (strB p.1)) ∧ wx.cell? ⟨b, o + q * 4 + 1, none⟩ = some (.slice nA p.2.length nc) ∧ nmS.Rw wx wx.heap.size nA p.2.length p.2 by
    obtain ⟨b, o, nA, nc, h1, h2, h3, h4, h5⟩ := stmt_cells (((L10.out.ow.row.below B1011.out).more B1011.out.size).below bx) ((L10.out.tr.below B1011.out).below bx) hp
    exact ⟨b, o, nA, nc, h1, h2, h3, h4, h5.size⟩))
  have TKS := hid (fun wx (bx : Below w11.heap.size w11 wx) => (show tkS.Rw wx wx.heap.size A7 n7 T from ((((TK9.out.more B79.out.size).below B911.out).more B911.out.size).below bx).more bx.size))
  have HNL := hid (show F.flat.prs.length = F.count by rw [Fo.prs_len, Fo.len_flat])
  have hcnt : F.count ≤ 2000 := HO.out.2
  have B11 := hid (B9.out.trans (B911.out.mono B9.out.size))
  clear L10 TK9 T9 FL CN HC HP HL HV HF HCK HO B911 B1011 B910 B79 B59 B5 B3 G1 G2 hs5 hs35
  generalize F.flat.prs = L at *
  generalize F.count = N at *
  go_wp2
  go_loopw [12, 13, 58] (fun v12 v13 v58 wr => ∃ (i n : Nat) (a : Int), v12 = .int .i64 a ∧ v13 = .int .i64 (n : Int) ∧ v58 = .int .i64 (i : Int) ∧ i ≤ n7 ∧ n ≤ i ∧ MayS L (sigT (T.drop i)) a n ∧ Below w11.heap.size w11 wr) (fun _ _ v58 _ => n7 - (intOf v58).toNat)
  case atStart => exact ⟨0, 0, -1, rfl, rfl, rfl, Nat.zero_le _, Nat.le_refl _, .inl ⟨rfl, rfl, HSG.out⟩, Below.refl _ _⟩
  case round =>
    obtain ⟨i, n, a, rfl, rfl, rfl, hi, hni, hm, hbel⟩ := hrel
    have BW := hid hbel
    by_cases hlt : i < n7
    · have hget := tkS.nth_get (l := T) (k := i) (by rw [HN7.out]; exact hlt)
      obtain ⟨hi2, hge⟩ := List.getElem?_eq_some_iff.1 hget
      rw [List.drop_eq_getElem_cons hi2, hge] at hm
      have hkind := HKD.out _ (List.mem_of_getElem? hget)
      obtain ⟨b, o, rfl, hb, hcell⟩ := (TKS.out wr hbel).at_ hlt
      clear hget hge
      generalize tkS.nth T i = t at *
      rw [sigT_cons] at hm
      obtain ⟨tk, tS, tN, tT⟩ := t
      simp only at hkind hm
      have r1 : wr.rangeAt b (o + i * 4) (tkS.enc ⟨tk, tS, tN, tT⟩) := hcell
      have HM := hid hm
      clear hcell hb hm hbel
      go_upto_region 18 with (first
        | (refine Sh.wp_sv tkS (x := ⟨tk, tS, tN, tT⟩) rfl (.tmp 15) (.tmp 61) rfl rfl (by rfl) qa ?_; intro wb qb bb ob sb; have Bb := hid (BW.out.trans ((Ba.out.trans (bb.mono (Nat.le_refl _))).mono BW.out.size)); have Qb := hid qb; clear qa qb bb ob sb)
        | (refine Sh.wp_al tkS rfl rfl ?_; intro wa qa ba sa; have Ba := hid ba; clear ba sa)
        | (refine Sh.wp_ld tkS rfl (.tmp 60) rfl rfl r1 ?_))
      have d0 : wb.cell? ⟨wr.heap.size, 0, none⟩ = some (.int .i64 tk) := Qb.out.cell (j := 0) rfl
      have d1 : wb.cell? ⟨wr.heap.size, 1, none⟩ = some (.string (strB tS)) := Qb.out.cell (j := 1) rfl
      have d2 : wb.cell? ⟨wr.heap.size, 2, none⟩ = some (.int .i64 tN) := Qb.out.cell (j := 2) rfl
      have d3 : wb.cell? ⟨wr.heap.size, 3, none⟩ = some (.bool tT) := Qb.out.cell (j := 3) rfl
      clear Qb Ba r1
      have hm := HM.out
      clear HM
      rcases hkind with rfl | rfl | rfl
      · rw [if_pos rfl] at hm
        rcases MayS.word (L := L) hm with ⟨rfl, rfl, ⟨pw, pn⟩, hp, hpw, hm2⟩ | ⟨q, ⟨pw, pn⟩, ⟨pw2, pn2⟩, rfl, hp, rfl, hp2, hpw, hm2⟩
        · simp only at hpw
          subst hpw
          have HM := hid hm2
          obtain ⟨xb, xo, nA, nc, rfl, hq, k0, k1, hns⟩ := ST.out wb Bb.out 0 _ hp
          simp only [Nat.zero_mul, Nat.add_zero] at k0 k1
          have hq2 : (0 : Int) < N := by omega
          have hq3 : ¬ (N : Int) ≤ 0 := by omega
          clear hm hm2 hns hp
          go_wp2
          have g1 : decide ((N : Int) ≤ 0) = false := by simp; omega
          have g2 : decide (N = 0) = false := by simp; omega
          have g3 : ¬ N = 0 := by omega
          go_quiet (fail)
          go_wp2
          go_roundw
          case rel => exact ⟨i + 1, 0, 0, rfl, rfl, rfl, by omega, by omega, HM.out, bel_drewN Bb.out nq⟩
          case measure => simp [intOf]; omega
        · simp only at hpw
          subst hpw
          have HM := hid hm2
          obtain ⟨xb, xo, nA, nc, rfl, hq, k0, k1, hns⟩ := ST.out wb Bb.out q _ hp
          obtain ⟨yb, yo, nA2, nc2, hy, hq', l0, l1, hns2⟩ := ST.out wb Bb.out (q + 1) _ hp2
          cases hy
          simp only at k0 k1 l0 l1
          generalize pn.length = n at *
          have hq2 : (q : Int) + 1 < N := by omega
          have hq3 : ¬ (N : Int) ≤ (q : Int) + 1 := by omega
          clear hm hm2 hns hns2 hp hp2
          go_wp2
          have g1 : decide ((N : Int) ≤ (q : Int) + 1) = false := by simp; omega
          go_quiet (fail)
          go_wp2
          go_roundw
          case rel => exact ⟨i + 1, 0, ((q + 1 : Nat) : Int), rfl, rfl, rfl, by omega, by omega, HM.out, bel_drewN Bb.out nq⟩
          case measure => simp [intOf]; omega
      · rw [if_neg (by decide), if_pos rfl] at hm
        obtain ⟨q, ⟨pw, pn⟩, rfl, hp, hn, hx, hm2⟩ := MayS.num (L := L) hm
        have HM := hid hm2
        obtain ⟨xb, xo, nA, nc, rfl, hq, k0, k1, hns⟩ := ST.out wb Bb.out q _ hp
        simp only at hn hx k0 k1 hns
        obtain ⟨nb, no, rfl, _, hce⟩ := hns.at_ hn
        rw [nmS.nth_of hx] at hce
        have e0 : wb.cell? ⟨nb, no + n * 2, none⟩ = some (.int .i64 tN) := hce 0 _ rfl
        have e1 : wb.cell? ⟨nb, no + n * 2 + 1, none⟩ = some (.bool tT) := hce 1 _ rfl
        generalize pn.length = m at *
        have hq2 : (n : Int) < m := by omega
        obtain ⟨z, hz⟩ : ∃ z : Int, (n : Int) + 1 = z := ⟨_, rfl⟩
        have HZ := hid (show ((n + 1 : Nat) : Int) = z by omega)
        have hb0 : 0 ≤ z := by omega
        have hb1 : z ≤ 65536 := by omega
        have hq3 : ¬ (m : Int) ≤ n := by omega
        clear hm hm2 hns hp hx hce
        go_wp2
        have g1 : decide ((m : Int) ≤ n) = false := by simp; omega
        have g2 : decide ((q : Int) < 0) = false := by simp
        go_quiet (fail)
        go_wp2
        go_roundw
        case rel => exact ⟨i + 1, n + 1, q, rfl, by rw [HZ.out], rfl, by omega, by omega, HM.out, bel_drewN Bb.out nq⟩
        case measure => simp [intOf]; omega
      · rw [if_neg (by decide), if_neg (by decide), List.nil_append] at hm
        have HM := hid hm
        clear hm
        go_wp2
        go_roundw
        case rel => exact ⟨i + 1, n, a, rfl, rfl, rfl, by omega, by omega, HM.out, Bb.out⟩
        case measure => simp [intOf]; omega
    · obtain rfl : i = n7 := by omega
      rw [List.drop_eq_nil_iff.2 (by rw [HN7.out]; exact Nat.le_refl _)] at hm
      rcases MayS.done (L := L) hm with ⟨rfl, rfl, hl⟩ | ⟨q, p, rfl, hp, rfl, hl⟩
      · rw [HNL.out] at hl
        subst hl
        clear hm hbel
        go_wp2
        go_ret
        exact ⟨rfl, B11.out.trans (BW.out.mono B11.out.size)⟩
      · rw [HNL.out] at hl
        subst hl
        obtain ⟨b, o, nA, nc, rfl, hq, k0, k1, hns⟩ := ST.out wr hbel q p hp
        generalize p.2.length = n at *
        clear hm hbel hns
        go_wp2
        go_ret
        exact ⟨rfl, B11.out.trans (BW.out.mono B11.out.size)⟩
theorem pmay_any (s : ByteArray) (w : World) (hL : LaidW w) (hs : s.size ≤ 9223372036854775807) :
    Calls Tryz.prog 5 #[.string s] w fun e w' => e = .returned (.bool true) ∧ Below w.heap.size w w' := by
  cases h : parF s.data.toList with
  | ok F => exact may_ok s w hL hs F h
  | bad p er => exact may_bad s w hL hs p er h
end Go.Proofs.YtinjhnflnfpoeaaGreatDoor
