/-
  The walk of PrintOnce where both texts are tidied, and at every two texts: it is true; under: the tables hold what the program lays.
-/
import Derived.Test.YtkfnkieljcipnaaGreatDoorZWL
import Derived.Test.YtkfnkieljcipnaaGreatDoorK7
namespace Go.Proofs.YtkfnkieljcipnaaGreatDoor
open Go Go.RowKit Go.Joins

set_option maxHeartbeats 4000000 in
set_option maxRecDepth 100000 in
theorem once_ok2 (s t : ByteArray) (w : World) (hL : LaidW w) (hs : s.size ≤ 9223372036854775807) (ht : t.size ≤ 9223372036854775807) (he : (tdF s.data.toList).e = 0) (he2 : (tdF t.data.toList).e = 0) :
    Calls Tryz.prog 9 #[.string s, .string t] w fun e w' => e = .returned (.bool true) ∧ Below w.heap.size w w' := by
  have HV := hid (live16_any w hL)
  have HF := hid (fun z w => few16_any z w)
  obtain ⟨f, hp, hl, hd⟩ := td_ok he
  obtain ⟨hok, hcn⟩ := par_okA hp
  have hpt := text_par hok hcn hl
  have hty := text_tidy hok hcn hl
  have HS := hid (fun w1 (hb : Below w.heap.size w w1) => by have := tidy_any s w1 (hL.below hb) hs; rwa [hd] at this)
  obtain ⟨g, hp2, hl2, hd2⟩ := td_ok he2
  obtain ⟨hok2, hcn2⟩ := par_okA hp2
  have HT := hid (fun w1 (hb : Below w.heap.size w w1) => by have := tidy_any t w1 (hL.below hb) ht; rwa [hd2] at this)
  have HPS := hid (fun w1 (hb : Below w.heap.size w w1) => by have := parse_any s w1 (hL.below hb) hs; rwa [hp] at this)
  have HPT := hid (fun w1 (hb : Below w.heap.size w w1) => by have := parse_any t w1 (hL.below hb) ht; rwa [hp2] at this)
  have HSE := hid (fun wx K K2 A n c A2 n2 c2 (t1 : TrS wx K A n f) (t2 : TrS wx K2 A2 n2 g) => psame_any f g wx K K2 A A2 n c n2 c2 t1 t2 (by omega) (by omega) (par_okN hp) (par_okN hp2))
  have hzz : ((bA (f.text [])).toList == (bA (g.text [])).toList) = decide (f = g) := by rw [bA_eqs]; exact text_inj hok hcn hl hok2 hcn2 hl2
  have HQ := hid (fun w1 (hb : Below w.heap.size w w1) => by have := tidy_any (bA (f.text [])) w1 (hL.below hb) (by rw [bA_size]; omega); rwa [show tdF (bA (f.text [])).data.toList = ⟨f.text [], ⟨0, 0⟩, 0⟩ from hty] at this)
  have HC := hid (fun w1 (hb : Below w.heap.size w w1) => may_cut s w1 (hL.below hb) hp)
  have HD := hid (fun w1 (hb : Below w.heap.size w w1) => may_cut (bA (f.text [])) w1 (hL.below hb) (show parF (bA (f.text [])).data.toList = .ok f from hpt))
  have HTK := hid (show (toksF s.data.toList).map bareN = (toksF (bA (f.text [])).data.toList).map bareN by rw [par_toks hp, par_toks (show parF (bA (f.text [])).data.toList = .ok f from hpt)])
  have HTL := hid (show (toksF s.data.toList).length = (toksF (bA (f.text [])).data.toList).length by have := congrArg List.length HTK.out; simpa using this)
  generalize decide (f = g) = R at *
  simp only [tdV] at HS HT HQ
  clear hpt hty hd he hok hcn hl hp hL
  generalize toksF s.data.toList = TX at *
  generalize toksF (bA (f.text [])).data.toList = TY at *
  generalize bA (f.text []) = z at *
  generalize bA (g.text []) = z2 at *
  clear hok2 hcn2 hl2 hp2 hd2 he2
  go_enter Tryz.func9, Tryz.ntmps9
  go_wp2_with (go_at_call 26; refine HV.out.mono ?_; rintro e w1 ⟨rfl, g1⟩; have B1 := hid g1; clear g1)
  go_at_call 31
  refine (HF.out s w1).mono ?_
  rintro e w2 ⟨⟨b, rfl⟩, g2⟩
  have B2 := hid (B1.out.trans (g2.mono B1.out.size))
  clear g2
  cases b
  · go_wp2_with fail
    go_ret
    exact ⟨rfl, B2.out⟩
  go_wp2_with fail
  go_at_call 31
  refine (HF.out t w2).mono ?_
  rintro e w3 ⟨⟨b, rfl⟩, g3⟩
  have B3 := hid (B2.out.trans (g3.mono B2.out.size))
  clear g3
  cases b
  · go_wp2_with fail
    go_ret
    exact ⟨rfl, B3.out⟩
  go_wp2_with (first
    | (refine Sh.wp_sv plS (x := ⟨0, 0⟩) rfl (.tmp 21) (.tmp 84) rfl rfl (by rfl) q17 ?_; intro w18 q b o s; have B18 := hid (B17.out.trans (b.mono B16.out.size)); have M18 := hid (M17.out.trans (b.mono M16.out.size)); have L18 := hid (L17.out.trans (b.mono (Nat.le_refl _))); clear q b o s q17)
    | (refine Sh.wp_al plS rfl rfl ?_; intro w17 q17 b s; have B17 := hid (B16.out.trans (b.mono B16.out.size)); have M17 := hid (M16.out.trans (b.mono M16.out.size)); have L17 := hid b; clear b s)
    | (go_at_call 35; refine (HD.out w15 B15.out).mono ?_; rintro e w16 ⟨b, n16, A16, c16, P16, d16, hn, hl, rfl, tk⟩; have B16 := hid (B15.out.trans (b.mono B15.out.size)); have T16 := hid tk; have N16 := hid (And.intro hn hl); obtain rfl : n13 = n16 := (by rw [← hl, ← HTL.out, N13.out.2]); have M16 := hid (M15.out.trans (b.mono M15.out.size)); clear b tk hn hl)
    | (refine Sh.wp_sv plS (x := ⟨0, 0⟩) rfl (.tmp 17) (.tmp 77) rfl rfl (by rfl) q14 ?_; intro w15 q b o s; have B15 := hid (B14.out.trans (b.mono B13.out.size)); have M15 := hid (M14.out.trans (b.mono (Nat.le_refl _))); clear q b o s q14)
    | (refine Sh.wp_al plS rfl rfl ?_; intro w14 q14 b s; have B14 := hid (B13.out.trans (b.mono B13.out.size)); have M14 := hid b; clear b s)
    | (go_at_call 35; refine (HC.out w12 B12.out).mono ?_; rintro e w13 ⟨b, n13, A13, c13, P13, d13, hn, hl, rfl, tk⟩; have B13 := hid (B12.out.trans (b.mono B12.out.size)); have T13 := hid tk; have N13 := hid (And.intro hn hl); clear b tk hn hl)
    | (refine Sh.wp_sv plS (x := ⟨0, 0⟩) rfl (.tmp 13) (.tmp 63) rfl rfl (by rfl) q11 ?_; intro w12 q b o s; have B12 := hid (B11.out.trans (b.mono B10.out.size)); clear q b o s q11)
    | (refine Sh.wp_al plS rfl rfl ?_; intro w11 q11 b s; have B11 := hid (B10.out.trans (b.mono B10.out.size)); clear b s)
    | (go_at_call 32; refine (HQ.out w9 B9.out).mono ?_; rintro e w10 ⟨rfl, b⟩; have B10 := hid (B9.out.trans (b.mono B9.out.size)); clear b)
    | (refine Sh.wp_sv plS (x := ⟨0, 0⟩) rfl (.tmp 10) (.tmp 50) rfl rfl (by rfl) q8 ?_; intro w9 q b o s; have B9 := hid (B8.out.trans (b.mono B7.out.size)); clear q b o s q8)
    | (refine Sh.wp_al plS rfl rfl ?_; intro w8 q8 b s; have B8 := hid (B7.out.trans (b.mono B7.out.size)); clear b s)
    | (go_at_call 32; refine (HT.out w6 B6.out).mono ?_; rintro e w7 ⟨rfl, b⟩; have B7 := hid (B6.out.trans (b.mono B6.out.size)); clear b)
    | (refine Sh.wp_sv plS (x := ⟨0, 0⟩) rfl (.tmp 7) (.tmp 44) rfl rfl (by rfl) q5 ?_; intro w6 q b o s; have B6 := hid (B5.out.trans (b.mono B4.out.size)); clear q b o s q5)
    | (refine Sh.wp_al plS rfl rfl ?_; intro w5 q5 b s; have B5 := hid (B4.out.trans (b.mono B4.out.size)); clear b s)
    | (go_at_call 32; refine (HS.out w3 B3.out).mono ?_; rintro e w4 ⟨rfl, b⟩; have B4 := hid (B3.out.trans (b.mono B3.out.size)); clear b))
  obtain ⟨g, hg, hA, hcs, hfz⟩ := tk_cells (T13.out.below M18.out)
  have HG13 := hid (show 0 < n13 → g < w15.heap.size from fun h => by
    have h1 := T13.out
    rw [(hA h).1] at h1
    exact Nat.lt_of_lt_of_le h1.ge.2 M15.out.size)
  have YO := hid (T16.out.below L18.out)
  have HA := hid hA
  have O0 := hid (OnS.mk (w0 := w18) (wr := w18) (i := 0) (ys := TY) (fun j hj => by rw [if_neg (Nat.not_lt_zero j)]; exact hcs j hj) hfz (fun _ _ => rfl) (Below.refl _ _))
  have HG := hid (Nat.le_trans B12.out.size hg)
  have hn13 : (n13 : Int) ≤ 65536 := by have := N13.out.1; omega
  clear hg hA hcs hfz T13 T16
  go_loopw [101] (fun v101 wr => ∃ i : Nat, v101 = .int .i64 (i : Int) ∧ i ≤ n13 ∧ OnS w18 wr g n13 i TX TY) (fun v101 _ => n13 - (intOf v101).toNat)
  case atStart => exact ⟨0, rfl, Nat.zero_le _, O0.out⟩
  case round =>
    obtain ⟨i, rfl, hi, hon⟩ := hrel
    have ON := hid hon
    clear hon
    by_cases hlt : i < n13
    · obtain ⟨rfl, hgl⟩ := HA.out (by omega)
      have hXL : i < TX.length := by rw [N13.out.2]; exact hlt
      have hbe := congrArg (·[i]?) HTK.out
      simp only [List.getElem?_map, Sh.nth_get tkS hXL, Sh.nth_get tkS (by rw [← HTL.out]; exact hXL : i < TY.length), Option.map_some, Option.some.injEq] at hbe
      obtain ⟨hk2, hkn⟩ := bareN_eq hbe
      have hc := ON.out.cells i hlt
      rw [if_neg (Nat.lt_irrefl i)] at hc
      have k0 : wr.cell? ⟨g, i * 4, none⟩ = some (.int .i64 (tkS.nth TX i).kind) := hc 0 _ rfl
      have k1 : wr.cell? ⟨g, i * 4 + 1, none⟩ = some (.string (strB (tkS.nth TX i).s)) := hc 1 _ rfl
      have kf : wr.frozen? ⟨g, i * 4 + 1, none⟩ = false := (ON.out.frz _).resolve_right (by omega)
      have hi2 : (i : Int) < (n13 : Int) := by omega
      by_cases hk : (tkS.nth TX i).kind = 2
      · have e2 := hk2 hk
        have ON2 := hid (ON.out.put hlt (by rw [hk]; exact e2))
        obtain ⟨g2, hg2, hA2, hcs2, _⟩ := tk_cells YO.out
        obtain ⟨rfl, hgl2⟩ := hA2 (by omega)
        have hgg : g2 ≠ g := by have := HG13.out (by omega); omega
        have y1 : wr.cell? ⟨g2, i * 4 + 1, none⟩ = some (.string (strB (tkS.nth TY i).s)) := (World.cell?_of_block (a := ⟨g2, i * 4 + 1, none⟩) (ON.out.oth g2 hgg)).trans (hcs2 i hlt 1 _ rfl)
        rw [hk] at k0
        clear hc hbe hk2 hkn e2 hcs2 hA2 hgl2 hgg hg2 hk hXL
        generalize (tkS.nth TY i).s = sy at *
        generalize (tkS.nth TX i).s = sx at *
        go_wp2_with fail
        go_roundw
        case rel => exact ⟨i + 1, by go_num, by omega, ON2.out⟩
        case measure => simp [intOf]; omega
      · have ON2 := hid (ON.out.same (hkn hk))
        have hk' : ((tkS.nth TX i).kind == 2) = false := beq_eq_false_iff_ne.2 hk
        clear hc hbe hk2 hkn hXL
        generalize (tkS.nth TX i).kind = kx at *
        go_wp2_with fail
        go_roundw
        case rel => exact ⟨i + 1, by go_num, by omega, ON2.out⟩
        case measure => simp [intOf]; omega
    · obtain rfl : i = n13 := by omega
      have XR := hid (ON.out.done (A := A13) (fun h => ⟨(HA.out h).1, Nat.lt_of_lt_of_le (HA.out h).2 ON.out.bel.size⟩) (by rw [← HTL.out, N13.out.2]))
      have YR := hid (show tkS.Rw wr wr.heap.size A16 i TY from by
        by_cases h0 : 0 < i
        · exact (YO.out.oth ON.out.oth (HG13.out h0)).row
        · obtain rfl : i = 0 := by omega
          exact ⟨by rw [← HTL.out, N13.out.2], fun h => absurd h (by omega)⟩)
      have B20 := hid (B18.out.trans (ON.out.bel.mono HG.out))
      have HSM := hid (same_any A13 A16 i c13 i c16 wr.heap.size wr.heap.size TY TY true wr XR.out YR.out (Nat.le_refl _) (Nat.le_refl _) (by omega) (by omega) (by simp))
      clear XR YR YO ON O0 HTK HTL HA HG HG13
      go_wp2_with (go_at_call 36; refine HSM.out.mono ?_; rintro e w21 ⟨rfl, b⟩; have B21 := hid (B20.out.trans (b.mono B20.out.size)); clear b)
      go_wp2_with (first
    | (go_at_call 25; refine (HSE.out w27 _ _ A22 n22 c22 A25 n25 c25 (T22.out.below J27.out) (T25.out.below L27.out)).mono ?_; rintro e w28 ⟨rfl, b⟩; have B28 := hid (B27.out.trans (b.mono B27.out.size)); clear b)
    | (refine Sh.wp_sv plS (x := ⟨0, 0⟩) rfl (.tmp 28) (.tmp 137) rfl rfl (by rfl) q26 ?_; intro w27 q b o s; have B27 := hid (B26.out.trans (b.mono B25.out.size)); have J27 := hid (J26.out.trans (b.mono J25.out.size)); have L27 := hid (L26.out.trans (b.mono (Nat.le_refl _))); clear q b o s q26)
    | (refine Sh.wp_al plS rfl rfl ?_; intro w26 q26 b s; have B26 := hid (B25.out.trans (b.mono B25.out.size)); have J26 := hid (J25.out.trans (b.mono J25.out.size)); have L26 := hid b; clear b s)
    | (go_at_call 13; refine (HPT.out w24 B24.out).mono ?_; rintro e w25 ⟨b, A25, n25, c25, rfl, tr⟩; have B25 := hid (B24.out.trans (b.mono B24.out.size)); have S25 := hid b; have T25 := hid tr; have J25 := hid (J24.out.trans (b.mono J24.out.size)); clear b tr)
    | (refine Sh.wp_sv plS (x := ⟨0, 0⟩) rfl (.tmp 25) (.tmp 131) rfl rfl (by rfl) q23 ?_; intro w24 q b o s; have B24 := hid (B23.out.trans (b.mono B22.out.size)); have J24 := hid (J23.out.trans (b.mono (Nat.le_refl _))); clear q b o s q23)
    | (refine Sh.wp_al plS rfl rfl ?_; intro w23 q23 b s; have B23 := hid (B22.out.trans (b.mono B22.out.size)); have J23 := hid b; clear b s)
    | (go_at_call 13; refine (HPS.out w21 B21.out).mono ?_; rintro e w22 ⟨b, A22, n22, c22, rfl, tr⟩; have B22 := hid (B21.out.trans (b.mono B21.out.size)); have S22 := hid b; have T22 := hid tr; clear b tr))
      go_ret
      exact ⟨rfl, B28.out⟩
theorem once_any (s t : ByteArray) (w : World) (hL : LaidW w) (hs : s.size ≤ 9223372036854775807) (ht : t.size ≤ 9223372036854775807) :
    Calls Tryz.prog 9 #[.string s, .string t] w fun e w' => e = .returned (.bool true) ∧ Below w.heap.size w w' := by
  by_cases h1 : (tdF s.data.toList).e = 0
  · by_cases h2 : (tdF t.data.toList).e = 0
    · exact once_ok2 s t w hL hs ht h1 h2
    · exact once_ok1 s t w hL hs ht h1 h2
  · exact once_bad s t w hL hs ht h1
end Go.Proofs.YtkfnkieljcipnaaGreatDoor
