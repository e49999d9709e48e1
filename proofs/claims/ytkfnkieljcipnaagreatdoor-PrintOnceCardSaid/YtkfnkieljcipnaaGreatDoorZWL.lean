/-
  The walk of PrintOnce where the first text is tidied: it is true; under: the tables hold what the program lays.
-/
import Derived.Test.YtkfnkieljcipnaaGreatDoorZWK
namespace Go.Proofs.YtkfnkieljcipnaaGreatDoor
open Go Go.RowKit Go.Joins

/-! ### Tokens whose texts are replaced, one behind the other -/
theorem tk_cells {w : World} {base n c : Nat} {A : Option Addr} {xs : List Tk} (h : tkS.Ow w base A n c xs) :
    ∃ g, base ≤ g ∧ (0 < n → A = some ⟨g, 0, none⟩ ∧ g < w.heap.size) ∧ (∀ j, j < n → w.rangeAt g (j * 4) (tkS.enc (tkS.nth xs j))) ∧ ∀ o, w.frozen? ⟨g, o, none⟩ = false ∨ n = 0 := by
  rcases h.2 with ⟨_, h0⟩ | ⟨g, cap, cur, hv, hb, hg, _⟩
  · exact ⟨base, Nat.le_refl _, fun h => absurd h (by omega), fun j hj => absurd hj (by omega), fun _ => .inr h0⟩
  · have hA : A = some ⟨g, 0, none⟩ := by injection hv
    subst hA
    refine ⟨g, hb, fun _ => ⟨rfl, (Array.getElem?_eq_some_iff.1 hg).1⟩, fun j hj => ?_, fun o => .inl (by simp [World.frozen?, hg])⟩
    obtain ⟨b', o', e, _, hr⟩ := h.row.at_ hj
    injection e with e
    injection e with e1 e2
    subst e1 e2
    rw [Nat.zero_add] at hr
    exact hr
structure OnS (w0 wr : World) (g n i : Nat) (xs ys : List Tk) : Prop where
  cells : ∀ j, j < n → wr.rangeAt g (j * 4) (tkS.enc (if j < i then tkS.nth ys j else tkS.nth xs j))
  frz : ∀ o, wr.frozen? ⟨g, o, none⟩ = false ∨ n = 0
  oth : Oth g w0 wr
  bel : Below g w0 wr
section
variable {w0 wr : World} {g n i : Nat} {xs ys : List Tk}
theorem OnS.same (h : OnS w0 wr g n i xs ys) (e : tkS.nth xs i = tkS.nth ys i) : OnS w0 wr g n (i + 1) xs ys := by
  refine ⟨fun j hj => ?_, h.frz, h.oth, h.bel⟩
  have := h.cells j hj
  by_cases h1 : j < i
  · rw [if_pos h1] at this; rw [if_pos (by omega)]; exact this
  · rw [if_neg h1] at this
    by_cases h2 : j = i
    · subst h2; rw [if_pos (by omega), ← e]; exact this
    · rw [if_neg (by omega)]; exact this
theorem OnS.put (h : OnS w0 wr g n i xs ys) (hi : i < n) (e : tkS.nth ys i = ⟨(tkS.nth xs i).kind, (tkS.nth ys i).s, (tkS.nth xs i).n, (tkS.nth xs i).time⟩) : OnS w0 (wr.setCell ⟨g, i * 4 + 1, none⟩ (.string (strB (tkS.nth ys i).s))) g n (i + 1) xs ys := by
  have hc := h.cells i hi
  rw [if_neg (Nat.lt_irrefl i)] at hc
  refine ⟨fun j hj k v hv => ?_, fun o => by rw [World.frozen?_setCell]; exact h.frz o, fun k hk => (Below.heap_setCell _ _ _ _ hk).trans (h.oth k hk), h.bel.setCell (p := ⟨g, i * 4 + 1, none⟩) (Nat.le_refl _) _⟩
  have hk4 : k < 4 := by have := (List.getElem?_eq_some_iff.1 hv).1; rwa [show (tkS.enc (if j < i + 1 then tkS.nth ys j else tkS.nth xs j)).length = 4 from tkS.len _] at this
  by_cases h2 : j = i
  · subst h2
    rw [if_pos (by omega)] at hv
    by_cases h3 : k = 1
    · subst h3
      have : v = .string (strB (tkS.nth ys j).s) := by
        rw [e] at hv
        have hv : some (Value.string (strB (tkS.nth ys j).s)) = some v := hv
        injection hv with hv
        exact hv.symm
      rw [this]
      exact World.cell?_setCell_same _ _ _ (hc 1 _ rfl)
    · rw [World.cell?_setCell_other _ _ _ _ (by intro e; injection e with _ e; omega)]
      refine hc k v ?_
      rw [e] at hv
      match k, hk4 with
      | 0, _ => exact hv
      | 1, _ => exact absurd rfl h3
      | 2, _ => exact hv
      | 3, _ => exact hv
  · rw [World.cell?_setCell_other _ _ _ _ (by intro e; injection e with _ e; omega)]
    have := h.cells j hj
    by_cases h1 : j < i
    · rw [if_pos h1] at this; rw [if_pos (by omega)] at hv; exact this k v hv
    · rw [if_neg h1] at this; rw [if_neg (by omega)] at hv; exact this k v hv
theorem OnS.done {A : Option Addr} (h : OnS w0 wr g n n xs ys) (hA : 0 < n → A = some ⟨g, 0, none⟩ ∧ g < wr.heap.size) (hl : ys.length = n) : tkS.Rw wr wr.heap.size A n ys := by
  refine ⟨hl, fun hn => ⟨g, 0, (hA hn).1, (hA hn).2, fun j u hu => ?_⟩⟩
  have hj : j < n * 4 := by have := (List.getElem?_eq_some_iff.1 hu).1; rwa [Sh.flat_len, hl] at this
  have h1 := Sh.flat_at tkS ys (j / 4) (j % 4) (by rw [hl]; omega) (by show j % 4 < 4; omega)
  have e4 : j / 4 * tkS.N + j % 4 = j := by show j / 4 * 4 + j % 4 = j; omega
  rw [e4, hu] at h1
  have h2 := h.cells (j / 4) (by omega) (j % 4) u (by rw [if_pos (by omega)]; exact h1.symm)
  rw [show j / 4 * 4 + j % 4 = j by omega] at h2
  rwa [Nat.zero_add]
end
set_option maxHeartbeats 4000000 in
set_option maxRecDepth 100000 in
theorem once_ok1 (s t : ByteArray) (w : World) (hL : LaidW w) (hs : s.size ≤ 9223372036854775807) (ht : t.size ≤ 9223372036854775807) (he : (tdF s.data.toList).e = 0) (he2 : (tdF t.data.toList).e ≠ 0) :
    Calls Tryz.prog 9 #[.string s, .string t] w fun e w' => e = .returned (.bool true) ∧ Below w.heap.size w w' := by
  have HV := hid (live16_any w hL)
  have HF := hid (fun z w => few16_any z w)
  obtain ⟨f, hp, hl, hd⟩ := td_ok he
  obtain ⟨hok, hcn⟩ := par_okA hp
  have hpt := text_par hok hcn hl
  have hty := text_tidy hok hcn hl
  have HS := hid (fun w1 (hb : Below w.heap.size w w1) => by have := tidy_any s w1 (hL.below hb) hs; rwa [hd] at this)
  have HT := hid (fun w1 (hb : Below w.heap.size w w1) => tidy_any t w1 (hL.below hb) ht)
  have HQ := hid (fun w1 (hb : Below w.heap.size w w1) => by have := tidy_any (bA (f.text [])) w1 (hL.below hb) (by rw [bA_size]; omega); rwa [show tdF (bA (f.text [])).data.toList = ⟨f.text [], ⟨0, 0⟩, 0⟩ from hty] at this)
  have HC := hid (fun w1 (hb : Below w.heap.size w w1) => may_cut s w1 (hL.below hb) hp)
  have HD := hid (fun w1 (hb : Below w.heap.size w w1) => may_cut (bA (f.text [])) w1 (hL.below hb) (show parF (bA (f.text [])).data.toList = .ok f from hpt))
  have HTK := hid (show (toksF s.data.toList).map bareN = (toksF (bA (f.text [])).data.toList).map bareN by rw [par_toks hp, par_toks (show parF (bA (f.text [])).data.toList = .ok f from hpt)])
  have HTL := hid (show (toksF s.data.toList).length = (toksF (bA (f.text [])).data.toList).length by have := congrArg List.length HTK.out; simpa using this)
  generalize tdF t.data.toList = D2 at *
  obtain ⟨q2, p2, er2⟩ := D2
  have hne : ((er2 : Int) != 0) = true := by simp; exact he2
  have hn0 : ¬ er2 = 0 := he2
  clear he2
  simp only [tdV] at HS HT HQ
  clear hpt hty hd he hok hcn hl hp hL
  generalize toksF s.data.toList = TX at *
  generalize toksF (bA (f.text [])).data.toList = TY at *
  generalize bA (f.text []) = z at *
  go_enter Tryz.func9, Tryz.ntmps9
  go_wp2_with (go_at_call 26; refine HV.out.mono ?_; rintro e w1 ⟨rfl, g1⟩; have B1 := hid g1; clear g1)
  go_at_call 31
  refine (HF.out s w1).mono ?_
  rintro e w2 ⟨⟨b, rfl⟩, g2⟩
  have B2 := hid (B1.out.trans (g2.mono B1.out.size))
  clear g2
  cases b
  · go_wp2_with fail
    go_ret
    exact ⟨rfl, B2.out⟩
  go_wp2_with fail
  go_at_call 31
  refine (HF.out t w2).mono ?_
  rintro e w3 ⟨⟨b, rfl⟩, g3⟩
  have B3 := hid (B2.out.trans (g3.mono B2.out.size))
  clear g3
  cases b
  · go_wp2_with fail
    go_ret
    exact ⟨rfl, B3.out⟩
  go_wp2_with (first
    | (refine Sh.wp_sv plS (x := ⟨0, 0⟩) rfl (.tmp 21) (.tmp 84) rfl rfl (by rfl) q17 ?_; intro w18 q b o s; have B18 := hid (B17.out.trans (b.mono B16.out.size)); have M18 := hid (M17.out.trans (b.mono M16.out.size)); have L18 := hid (L17.out.trans (b.mono (Nat.le_refl _))); clear q b o s q17)
    | (refine Sh.wp_al plS rfl rfl ?_; intro w17 q17 b s; have B17 := hid (B16.out.trans (b.mono B16.out.size)); have M17 := hid (M16.out.trans (b.mono M16.out.size)); have L17 := hid b; clear b s)
    | (go_at_call 35; refine (HD.out w15 B15.out).mono ?_; rintro e w16 ⟨b, n16, A16, c16, P16, d16, hn, hl, rfl, tk⟩; have B16 := hid (B15.out.trans (b.mono B15.out.size)); have T16 := hid tk; have N16 := hid (And.intro hn hl); obtain rfl : n13 = n16 := (by rw [← hl, ← HTL.out, N13.out.2]); have M16 := hid (M15.out.trans (b.mono M15.out.size)); clear b tk hn hl)
    | (refine Sh.wp_sv plS (x := ⟨0, 0⟩) rfl (.tmp 17) (.tmp 77) rfl rfl (by rfl) q14 ?_; intro w15 q b o s; have B15 := hid (B14.out.trans (b.mono B13.out.size)); have M15 := hid (M14.out.trans (b.mono (Nat.le_refl _))); clear q b o s q14)
    | (refine Sh.wp_al plS rfl rfl ?_; intro w14 q14 b s; have B14 := hid (B13.out.trans (b.mono B13.out.size)); have M14 := hid b; clear b s)
    | (go_at_call 35; refine (HC.out w12 B12.out).mono ?_; rintro e w13 ⟨b, n13, A13, c13, P13, d13, hn, hl, rfl, tk⟩; have B13 := hid (B12.out.trans (b.mono B12.out.size)); have T13 := hid tk; have N13 := hid (And.intro hn hl); clear b tk hn hl)
    | (refine Sh.wp_sv plS (x := ⟨0, 0⟩) rfl (.tmp 13) (.tmp 63) rfl rfl (by rfl) q11 ?_; intro w12 q b o s; have B12 := hid (B11.out.trans (b.mono B10.out.size)); clear q b o s q11)
    | (refine Sh.wp_al plS rfl rfl ?_; intro w11 q11 b s; have B11 := hid (B10.out.trans (b.mono B10.out.size)); clear b s)
    | (go_at_call 32; refine (HQ.out w9 B9.out).mono ?_; rintro e w10 ⟨rfl, b⟩; have B10 := hid (B9.out.trans (b.mono B9.out.size)); clear b)
    | (refine Sh.wp_sv plS (x := p2) rfl (.tmp 10) (.tmp 50) rfl rfl (by rfl) q8 ?_; intro w9 q b o s; have B9 := hid (B8.out.trans (b.mono B7.out.size)); clear q b o s q8)
    | (refine Sh.wp_al plS rfl rfl ?_; intro w8 q8 b s; have B8 := hid (B7.out.trans (b.mono B7.out.size)); clear b s)
    | (go_at_call 32; refine (HT.out w6 B6.out).mono ?_; rintro e w7 ⟨rfl, b⟩; have B7 := hid (B6.out.trans (b.mono B6.out.size)); clear b)
    | (refine Sh.wp_sv plS (x := ⟨0, 0⟩) rfl (.tmp 7) (.tmp 44) rfl rfl (by rfl) q5 ?_; intro w6 q b o s; have B6 := hid (B5.out.trans (b.mono B4.out.size)); clear q b o s q5)
    | (refine Sh.wp_al plS rfl rfl ?_; intro w5 q5 b s; have B5 := hid (B4.out.trans (b.mono B4.out.size)); clear b s)
    | (go_at_call 32; refine (HS.out w3 B3.out).mono ?_; rintro e w4 ⟨rfl, b⟩; have B4 := hid (B3.out.trans (b.mono B3.out.size)); clear b))
  obtain ⟨g, hg, hA, hcs, hfz⟩ := tk_cells (T13.out.below M18.out)
  have HG13 := hid (show 0 < n13 → g < w15.heap.size from fun h => by
    have h1 := T13.out
    rw [(hA h).1] at h1
    exact Nat.lt_of_lt_of_le h1.ge.2 M15.out.size)
  have YO := hid (T16.out.below L18.out)
  have HA := hid hA
  have O0 := hid (OnS.mk (w0 := w18) (wr := w18) (i := 0) (ys := TY) (fun j hj => by rw [if_neg (Nat.not_lt_zero j)]; exact hcs j hj) hfz (fun _ _ => rfl) (Below.refl _ _))
  have HG := hid (Nat.le_trans B12.out.size hg)
  have hn13 : (n13 : Int) ≤ 65536 := by have := N13.out.1; omega
  clear hg hA hcs hfz T13 T16
  go_loopw [101] (fun v101 wr => ∃ i : Nat, v101 = .int .i64 (i : Int) ∧ i ≤ n13 ∧ OnS w18 wr g n13 i TX TY) (fun v101 _ => n13 - (intOf v101).toNat)
  case atStart => exact ⟨0, rfl, Nat.zero_le _, O0.out⟩
  case round =>
    obtain ⟨i, rfl, hi, hon⟩ := hrel
    have ON := hid hon
    clear hon
    by_cases hlt : i < n13
    · obtain ⟨rfl, hgl⟩ := HA.out (by omega)
      have hXL : i < TX.length := by rw [N13.out.2]; exact hlt
      have hbe := congrArg (·[i]?) HTK.out
      simp only [List.getElem?_map, Sh.nth_get tkS hXL, Sh.nth_get tkS (by rw [← HTL.out]; exact hXL : i < TY.length), Option.map_some, Option.some.injEq] at hbe
      obtain ⟨hk2, hkn⟩ := bareN_eq hbe
      have hc := ON.out.cells i hlt
      rw [if_neg (Nat.lt_irrefl i)] at hc
      have k0 : wr.cell? ⟨g, i * 4, none⟩ = some (.int .i64 (tkS.nth TX i).kind) := hc 0 _ rfl
      have k1 : wr.cell? ⟨g, i * 4 + 1, none⟩ = some (.string (strB (tkS.nth TX i).s)) := hc 1 _ rfl
      have kf : wr.frozen? ⟨g, i * 4 + 1, none⟩ = false := (ON.out.frz _).resolve_right (by omega)
      have hi2 : (i : Int) < (n13 : Int) := by omega
      by_cases hk : (tkS.nth TX i).kind = 2
      · have e2 := hk2 hk
        have ON2 := hid (ON.out.put hlt (by rw [hk]; exact e2))
        obtain ⟨g2, hg2, hA2, hcs2, _⟩ := tk_cells YO.out
        obtain ⟨rfl, hgl2⟩ := hA2 (by omega)
        have hgg : g2 ≠ g := by have := HG13.out (by omega); omega
        have y1 : wr.cell? ⟨g2, i * 4 + 1, none⟩ = some (.string (strB (tkS.nth TY i).s)) := (World.cell?_of_block (a := ⟨g2, i * 4 + 1, none⟩) (ON.out.oth g2 hgg)).trans (hcs2 i hlt 1 _ rfl)
        rw [hk] at k0
        clear hc hbe hk2 hkn e2 hcs2 hA2 hgl2 hgg hg2 hk hXL
        generalize (tkS.nth TY i).s = sy at *
        generalize (tkS.nth TX i).s = sx at *
        go_wp2_with fail
        go_roundw
        case rel => exact ⟨i + 1, by go_num, by omega, ON2.out⟩
        case measure => simp [intOf]; omega
      · have ON2 := hid (ON.out.same (hkn hk))
        have hk' : ((tkS.nth TX i).kind == 2) = false := beq_eq_false_iff_ne.2 hk
        clear hc hbe hk2 hkn hXL
        generalize (tkS.nth TX i).kind = kx at *
        go_wp2_with fail
        go_roundw
        case rel => exact ⟨i + 1, by go_num, by omega, ON2.out⟩
        case measure => simp [intOf]; omega
    · obtain rfl : i = n13 := by omega
      have XR := hid (ON.out.done (A := A13) (fun h => ⟨(HA.out h).1, Nat.lt_of_lt_of_le (HA.out h).2 ON.out.bel.size⟩) (by rw [← HTL.out, N13.out.2]))
      have YR := hid (show tkS.Rw wr wr.heap.size A16 i TY from by
        by_cases h0 : 0 < i
        · exact (YO.out.oth ON.out.oth (HG13.out h0)).row
        · obtain rfl : i = 0 := by omega
          exact ⟨by rw [← HTL.out, N13.out.2], fun h => absurd h (by omega)⟩)
      have B20 := hid (B18.out.trans (ON.out.bel.mono HG.out))
      have HSM := hid (same_any A13 A16 i c13 i c16 wr.heap.size wr.heap.size TY TY true wr XR.out YR.out (Nat.le_refl _) (Nat.le_refl _) (by omega) (by omega) (by simp))
      clear XR YR YO ON O0 HTK HTL HA HG HG13
      go_wp2_with (go_at_call 36; refine HSM.out.mono ?_; rintro e w21 ⟨rfl, b⟩; have B21 := hid (B20.out.trans (b.mono B20.out.size)); clear b)
      go_ret
      exact ⟨rfl, B21.out⟩
end Go.Proofs.YtkfnkieljcipnaaGreatDoor
