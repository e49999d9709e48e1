/-
  The walk of LexPlaces: it is true; under: the tables hold what the program lays (LaidW).
-/
import Derived.Test.YtfdieablcffdkaaDoorLK
import Derived.Test.YtfdieablcffdkaaDoorLM
import Derived.Test.YtfdieablcffdkaaDoorLQ
import Derived.IntWalk
namespace Go.Proofs.YtfdieablcffdkaaDoor
open Go Go.RowKit Go.Joins

set_option maxRecDepth 100000 in
theorem places_no (s : ByteArray) (w : World) (hL : LaidW w) (hs : s.size ≤ 9223372036854775807) (h : fewB s.size [] = false ∨ 3000 < s.size) :
    Calls Tryd.prog 3 #[.string s] w fun e w' => e = .returned (.bool true) ∧ Below w.heap.size w w' := by
  have HV := hid (live_any w hL)
  have HS := hid (fun w => few_any s none 0 0 w.heap.size [] w (Sh.Rw.nil _ _ _) (Nat.le_refl _) (by omega) (by omega))
  have hf1 := few_size s.size
  clear hL
  generalize fewB s.size [] = b1 at *
  cases b1
  · clear h
    go_enter Tryd.func3, Tryd.ntmps3
    go_wp2_with (first
      | (go_at_call 6; refine HV.out.mono ?_; rintro e w1 ⟨rfl, g1⟩; have G1 := hid g1; clear g1)
      | (go_at_call 7; refine (HS.out _).mono ?_; rintro e w2 ⟨rfl, g2⟩; have G2 := hid (G1.out.trans (g2.mono G1.out.size)); clear g2))
    go_ret
    exact ⟨rfl, G2.out⟩
  · have hsum : (3000 : Int) < s.size := by simp at h; omega
    have hf3 := hf1 rfl
    clear hs h
    go_enter Tryd.func3, Tryd.ntmps3
    go_wp2_with (first
      | (go_at_call 6; refine HV.out.mono ?_; rintro e w1 ⟨rfl, g1⟩; have G1 := hid g1; clear g1)
      | (go_at_call 7; (with_reducible refine (HS.out w1).mono ?_); rintro e w2 ⟨rfl, g2⟩; have G2 := hid (G1.out.trans (g2.mono G1.out.size)); clear g2))
    go_ret
    exact ⟨rfl, G2.out⟩

set_option maxRecDepth 100000 in
theorem places_err (s : ByteArray) (w : World) (hL : LaidW w) (h : s.size ≤ 3000) (l : List (Tk × Pl)) (p : Pl) (f : Nat) (hc : cutL s.data.toList false firstP = (l, some (p, f))) :
    Calls Tryd.prog 3 #[.string s] w fun e w' => e = .returned (.bool true) ∧ Below w.heap.size w w' := by
  have hb1 : fewB s.size [] = true := by unfold fewB; rw [decide_eq_true (by omega : s.size ≤ 3000)]; rfl
  have HV := hid (live_any w hL)
  have HS := hid (fun w => by have := few_any s none 0 0 w.heap.size [] w (Sh.Rw.nil _ _ _) (Nat.le_refl _) (by omega) (by omega); rwa [hb1] at this)
  have HL := hid hL
  have HC := hid (fun w hL => cut_no s w hL (by omega) l p f hc)
  have hf0 : f ≠ 0 := cutE _ _ _ _ p f (Nat.le_refl _) (by rw [hc])
  have hf : ((f : Int) != 0) = true := by simp; omega
  clear hL hb1 hc hf0
  have hsum : ¬ (3000 : Int) < s.size := by omega
  go_enter Tryd.func3, Tryd.ntmps3
  go_wp2_with (first
    | (go_at_call 6; refine HV.out.mono ?_; rintro e w1 ⟨rfl, g1⟩; have G1 := hid g1; clear g1)
    | (go_at_call 7; (with_reducible refine (HS.out w1).mono ?_); rintro e w2 ⟨rfl, g2⟩; have G2 := hid (G1.out.trans (g2.mono G1.out.size)); clear g2)
    | (refine Sh.wp_sv plS (x := p) rfl (.tmp 6) (.tmp 27) rfl rfl (by rfl) q4 ?_; intro w5 q5 b5 o5 _; have G5 := hid (G3.out.trans ((b4.trans (b5.mono (Nat.le_refl _))).mono G3.out.size)); clear q4 q5 b4 b5 o5)
    | (refine Sh.wp_al plS rfl rfl ?_; intro w4 q4 b4 _)
    | (go_at_call 8; (with_reducible refine (HC.out w2 (HL.out.below G2.out)).mono ?_); rintro e w3 ⟨rfl, g3⟩; have G3 := hid (G2.out.trans (g3.mono G2.out.size)); clear g3))
  go_ret
  exact ⟨rfl, G5.out⟩

theorem extract_mid (s : ByteArray) (o m : Nat) : (s.extract o (o + m)).data.toList = (s.data.toList.drop o).take m := by
  rw [ByteArray.data_extract, Array.toList_extract]
  simp [List.extract_eq_take_drop]
theorem drop_pair {L : List (Tk × Pl)} {k : Nat} (h : k < L.length) : ∃ tp rest, L.drop k = tp :: rest ∧ L.drop (k + 1) = rest ∧ L[k]? = some tp :=
  ⟨L[k], L.drop (k + 1), List.drop_eq_getElem_cons h, rfl, List.getElem?_eq_getElem h⟩

set_option maxHeartbeats 2000000 in
set_option maxRecDepth 100000 in
theorem places_ok (s : ByteArray) (w : World) (hL : LaidW w) (h : s.size ≤ 3000) (L : List (Tk × Pl)) (hc : cutL s.data.toList false firstP = (L, none)) :
    Calls Tryd.prog 3 #[.string s] w fun e w' => e = .returned (.bool true) ∧ Below w.heap.size w w' := by
  have hb1 : fewB s.size [] = true := by unfold fewB; rw [decide_eq_true (by omega : s.size ≤ 3000)]; rfl
  have HV := hid (live_any w hL)
  have HS := hid (fun w => by have := few_any s none 0 0 w.heap.size [] w (Sh.Rw.nil _ _ _) (Nat.le_refl _) (by omega) (by omega); rwa [hb1] at this)
  have HL := hid hL
  have HC := hid (fun w hL => cut_ok s w hL (by omega) L hc)
  have SE := hid (seats_of hc)
  have HW := hid (fun (a : Nat) w hL => where_any s a w hL (by omega))
  clear hL hb1 hc
  have hsum : ¬ (3000 : Int) < s.size := by omega
  go_enter Tryd.func3, Tryd.ntmps3
  go_wp2_with (first
    | (go_at_call 6; refine HV.out.mono ?_; rintro e w1 ⟨rfl, g1⟩; have G1 := hid g1; clear g1)
    | (go_at_call 7; (with_reducible refine (HS.out w1).mono ?_); rintro e w2 ⟨rfl, g2⟩; have G2 := hid (G1.out.trans (g2.mono G1.out.size)); clear g2)
    | (refine Sh.wp_sv plS (x := ⟨0, 0⟩) rfl (.tmp 6) (.tmp 27) rfl rfl (by rfl) q4 ?_; intro w5 q5 b5 o5 _; have B5 := hid (b4.trans (b5.mono (Nat.le_refl _))); have G5 := hid (G3.out.trans (B5.out.mono G3.out.size)); have T5 := hid (O3.out.below B5.out).row; have P5 := hid (Q3.out.below B5.out).row; have hn := hk; clear q4 q5 b4 b5 o5 hk B5 O3 Q3)
    | (refine Sh.wp_al plS rfl rfl ?_; intro w4 q4 b4 _; have hk := hid hn; clear hn)
    | (go_at_call 8; (with_reducible refine (HC.out w2 (HL.out.below G2.out)).mono ?_); rintro e w3 ⟨n, A, c, A2, c2, hn, hn2, rfl, ot, op, g3⟩; have hln := hid hn; have G3 := hid (G2.out.trans (g3.mono G2.out.size)); have O3 := hid ot; have Q3 := hid op; have hn := hn2; clear g3 ot op hn2))
  go_loopw [8, 9] (fun v8 v9 wr => ∃ k a : Nat, v8 = .int .i64 (k : Nat) ∧ v9 = .int .i64 (a : Nat) ∧ k ≤ n ∧ a ≤ s.size ∧ Seat s.data.toList a (L.drop k) ∧ Below w5.heap.size w5 wr) (fun _ v9 _ => s.size - (intOf v9).toNat)
  case atStart => exact ⟨0, 0, rfl, rfl, Nat.zero_le _, Nat.zero_le _, SE.out, Below.refl _ _⟩
  case round =>
    obtain ⟨k, a, rfl, rfl, hk, ha, hse, hbel⟩ := hrel
    have BW := hid hbel
    have hn' := hn.out
    by_cases hlt : k < n
    · have HLw := hid (HL.out.below (G5.out.trans (hbel.mono G5.out.size)))
      obtain ⟨tp, rest, hd, hd1, hg⟩ := drop_pair (L := L) (k := k) (by rw [hln.out]; exact hlt)
      rw [hd] at hse
      obtain ⟨o, ho1, ho2, ho3, ho4, ho5, ho6, ho7⟩ := hse
      obtain ⟨b, o1, rfl, hb, r1⟩ := (T5.out.below hbel).at_ hlt
      obtain ⟨b2, o2, rfl, hb2, r2⟩ := (P5.out.below hbel).at_ hlt
      rw [show tkS.nth (L.map (·.1)) k = tp.1 from Sh.nth_of tkS (by rw [List.getElem?_map, hg]; rfl)] at r1
      rw [show plS.nth (L.map (·.2)) k = tp.2 from Sh.nth_of plS (by rw [List.getElem?_map, hg]; rfl)] at r2
      obtain ⟨t, p⟩ := tp
      obtain ⟨-, x1, -, -⟩ := agg_cells (o := o1 + k * 4) r1
      have y0 : wr.cell? ⟨b2, o2 + k * 2, none⟩ = some (.int .i64 p.line) := r2 0 _ rfl
      have y1 : wr.cell? ⟨b2, o2 + k * 2 + 1, none⟩ = some (.int .i64 p.col) := r2 1 _ rfl
      have hbw : b < wr.heap.size := Nat.lt_of_lt_of_le hb hbel.size
      have hb2w : b2 < wr.heap.size := Nat.lt_of_lt_of_le hb2 hbel.size
      simp only at ho2 ho3 ho4 ho5 ho6 ho7
      have hsl : s.data.toList.length = s.size := rfl
      have hm : (strB t.s).size = t.s.length := bA_size t.s
      have hne : (strB t.s).toList.isEmpty = false := ne_emp (by rw [ByteArray.toList_eq]; exact ho3)
      have hm1 : 1 ≤ t.s.length := List.length_pos_iff.2 ho3
      have hex : s.extract o (o + t.s.length) = strB t.s := by
        have := extract_mid s o t.s.length
        rw [ho4] at this
        exact ByteArray.ext (Array.ext' this)
      have H7 := hid (show Seat s.data.toList (o + t.s.length) (L.drop (k + 1)) by rw [hd1]; exact ho7)
      have HSE := hid (show ∀ a2, a2 ≤ o → Seat s.data.toList a2 (L.drop k) from fun a2 h2 => by rw [hd]; exact ⟨o, h2, ho2, ho3, ho4, ho5, ho6, ho7⟩)
      rw [hsl] at ho2
      clear ho7 ho4 ho3 hd hd1 hg r1 r2 hsl hb hb2
      generalize strB t.s = sb at *
      generalize t.s.length = m at *
      have HWa := hid (HW.out a wr HLw.out)
      unfold WherePost at HWa
      rw [show whereR s.data.toList (a : Int) = .tuple #[plV (plAt s.data.toList firstP a), .int .i64 0] from if_neg (by show ¬ ((a : Int) < 0 ∨ ((s.size : Nat) : Int) < a); omega)] at HWa
      have e1 : (a : Int) < s.size := by omega
      have e2 : (k : Int) < n := by omega
      have EQ := hid (show decide (plAt s.data.toList firstP a = p) = true → a = o by
        intro h
        rw [decide_eq_true_eq] at h
        rcases Nat.lt_or_ge a o with h1 | h1
        · exact absurd h (ho6 a h1)
        · omega)
      have NE := hid (show decide (plAt s.data.toList firstP a = p) = false → a + 1 ≤ o by
        intro h
        rw [decide_eq_false_iff_not] at h
        rcases Nat.lt_or_ge a o with h1 | h1
        · exact h1
        · obtain rfl : a = o := by omega
          exact absurd ho5 h)
      have q1 := fun w => neP (plAt s.data.toList firstP a) p w
      have q2 := fun u v w => guP .neq u v (plAt s.data.toList firstP a) p w
      clear ho5 ho6
      generalize plAt s.data.toList firstP a = P at *
      obtain ⟨p1, p2⟩ := p
      obtain ⟨P1, P2⟩ := P
      unfold plV at q1 q2
      simp only at q1 q2 y0 y1
      generalize decide ((⟨P1, P2⟩ : Pl) = ⟨p1, p2⟩) = R at *
      go_wp2_with (first
        | (refine Sh.wp_sv plS (x := ⟨P1, P2⟩) rfl (.tmp 10) (.tmp 61) rfl rfl (by rfl) q7 ?_; intro w8 q8 b8 o8 s8; have z0 : w8.cell? ⟨w6.heap.size, 0, none⟩ = some (.int .i64 P1) := q8.cell (j := 0) rfl; have z1 : w8.cell? ⟨w6.heap.size, 1, none⟩ = some (.int .i64 P2) := q8.cell (j := 1) rfl; have B8 := hid (B6.out.trans ((b7.trans (b8.mono (Nat.le_refl _))).mono B6.out.size)); have x1 : w8.cell? ⟨b, o1 + k * 4 + 1, none⟩ = some (.string sb) := (B8.out.cell (p := ⟨b, _, none⟩) hbw).trans x1; have y0 : w8.cell? ⟨b2, o2 + k * 2, none⟩ = some (.int .i64 p1) := (B8.out.cell (p := ⟨b2, _, none⟩) hb2w).trans y0; have y1 : w8.cell? ⟨b2, o2 + k * 2 + 1, none⟩ = some (.int .i64 p2) := (B8.out.cell (p := ⟨b2, _, none⟩) hb2w).trans y1; have B9 := hid (BW.out.trans (B8.out.mono BW.out.size)); clear q7 q8 b7 b8 o8 s8)
        | (refine Sh.wp_al plS rfl rfl ?_; intro w7 q7 b7 s7; clear s7)
        | (go_at_call 9; (with_reducible refine HWa.out.mono ?_); rintro e w6 ⟨rfl, g6⟩; have B6 := hid g6; clear g6))
      go_quiet (fail)
      have x1 : (w8.drewN nq).cell? ⟨b, o1 + k * 4 + 1, none⟩ = some (.string sb) := ((bel_drewN (Below.refl w8.heap.size w8) nq).cell (p := ⟨b, _, none⟩) (Nat.lt_of_lt_of_le hbw B8.out.size)).trans x1
      have BX := hid (bel_drewN B9.out nq)
      clear y0 y1 z0 z1 q1 q2 B9 B8 HLw BW hbw hb2w B6 HWa
      generalize w8.drewN nq = w9 at *
      cases R
      · have h5 := NE.out rfl
        clear EQ NE
        go_wp2
        go_roundw
        case rel => exact ⟨k, a + 1, rfl, by go_num, hk, by omega, HSE.out (a + 1) h5, BX.out⟩
        case measure => simp [intOf]; omega
      · obtain rfl := EQ.out rfl
        clear EQ NE
        subst hm
        have dd : decide ((s.size : Int) - (a : Int) < (sb.size : Int)) = false := decide_eq_false (by omega)
        have t1 : ((a : Int) + (sb.size : Int)).toNat = a + sb.size := by omega
        have c1 : (0 : Int) ≤ (a : Int) := by omega
        have c2 : (a : Int) ≤ (a : Int) + (sb.size : Int) := by omega
        have c3 : (a : Int) + (sb.size : Int) ≤ (s.size : Int) := by omega
        have f1 : IntKind.i64.wrap ((s.size : Int) - (a : Int)) = (s.size : Int) - (a : Int) := IntWalk.i64_in _ (by omega)
        have f2 : IntKind.i64.wrap ((a : Int) + (sb.size : Int)) = (a : Int) + (sb.size : Int) := IntWalk.i64_in _ (by omega)
        go_wp2_with fail
        go_quiet (fail)
        have x1 : (w9.drewN nq).cell? ⟨b, o1 + k * 4 + 1, none⟩ = some (.string sb) := ((bel_drewN (Below.refl (b + 1) w9) nq).cell (p := ⟨b, _, none⟩) (Nat.lt_succ_self b)).trans x1
        have BY := hid (bel_drewN BX.out nq)
        clear f1 f2 dd t1 c1 c2 c3 BX hex
        generalize w9.drewN nq = w10 at *
        go_wp2
        go_roundw
        case rel => exact ⟨k + 1, a + sb.size, by go_num, by go_num, by omega, by omega, H7.out, BY.out⟩
        case measure => simp [intOf]; omega
    · obtain rfl : k = n := by omega
      have e2 : ¬ (k : Int) < k := by omega
      by_cases h9 : a < s.size
      · have e1 : (a : Int) < s.size := by omega
        go_wp2
        go_ret
        exact ⟨rfl, G5.out.trans (BW.out.mono G5.out.size)⟩
      · have e1 : ¬ (a : Int) < s.size := by omega
        go_wp2
        go_ret
        exact ⟨rfl, G5.out.trans (BW.out.mono G5.out.size)⟩
theorem places_row (s : ByteArray) (w : World) (hL : LaidW w) (hs : s.size ≤ 9223372036854775807) :
    Calls Tryd.prog 3 #[.string s] w fun e w' => e = .returned (.bool true) ∧ Below w.heap.size w w' := by
  by_cases h : s.size ≤ 3000
  · match hc : cutL s.data.toList false firstP with
    | (L, none) => exact places_ok s w hL h L hc
    | (L, some (p, f)) => exact places_err s w hL h L p f hc
  · exact places_no s w hL hs (.inr (by omega))
end Go.Proofs.YtfdieablcffdkaaDoor
