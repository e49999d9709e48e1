/-
  The walk of MediumShifts, whatever came in.
-/
import Derived.Test.YtjmkhhmibkiijaaSP
import Derived.Test.YtjmkhhmibkiijaaWG
namespace Go.Proofs.Ytjmkhhmibkiijaa
open Go Go.RowKit

def ShRel (w : World) (gx base : Nat) (A : Option Addr) (n c : Nat) (d : Int) (ls : List Ar) (x : Ar) (t31 : Value) (wr : World) : Prop :=
  ∃ (i : Nat) (l : List Ar), t31 = .int .i64 (i : Int) ∧ i ≤ n ∧ Ow wr base A n c l ∧ El wr base l ∧ shA d ls l i ∧ low50 ls i ∧ VarA wr gx x ∧ Below w.heap.size w wr ∧ base ≤ wr.heap.size
/-- Whatever it tells. -/
def RetS (w : World) (e : Ending) (w' : World) : Prop := ∃ A n c E, e = .returned (.tuple #[.slice A n c, .int .i64 E]) ∧ Below w.heap.size w w'
theorem launch_s (A : Option Addr) (n c B : Nat) (xs : List Ar) (x : Ar) (w : World) (ha : RA w B A n xs) (hx : Row w B x.A x.n (bv x.b)) (hB : B ≤ w.heap.size) (hn : n ≤ 100000) : Calls Try.prog 15 #[.slice A n c, itv x] w (RetS w) := by
  by_cases hE : lauE xs x = 0
  · exact (launch_0 A n c B xs x w ha hx hB hE).mono fun e w' ⟨A', c', l, h1, _, _, _, h2⟩ => ⟨A', _, c', 0, h1, h2⟩
  · exact (launch_E _ A n c B xs x w ha hB hn rfl hE).mono fun e w' ⟨h1, h2⟩ => ⟨none, 0, 0, _, h1, h2⟩
set_option maxRecDepth 100000 in
set_option maxHeartbeats 4000000 in
theorem shifts_row {w : World} (A : Option Addr) (n c : Nat) (ls : List Ar) (ha : RA w w.heap.size A n ls) (hnc : n ≤ c) (hc : c ≤ 9223372036854775807) (_ho : ∀ x ∈ ls, AirOk x)
    (x : Ar) (hx : Row w w.heap.size x.A x.n (bv x.b)) (_hox : AirOk x) (dd : Int) (hd0 : 0 ≤ dd) (hd1 : dd ≤ 4294967295) :
    Calls Try.prog 7 #[.slice A n c, itv x, .int .u32 dd] w fun e w' => e = .returned (.bool true) ∧ Below w.heap.size w w' := by
  have HA := hid ha
  have HL := hid ha.1.1
  have HX := hid hx
  have HD0 := hid hd0
  have HD1 := hid hd1
  have HF : Hid (∀ w', Below w.heap.size w w' → Calls Try.prog 14 #[.slice A n c] w' fun e w'' => e = .returned (.bool (fewB ls)) ∧ Below w'.heap.size w' w'') := hid fun w' h => few_any A n c w.heap.size ls w' (HA.out.1.below h) h.size (by omega)
  have HFW : Hid (fewB ls = true → n ≤ 300 ∧ ∀ y ∈ ls, y.n ≤ 200) := hid fun h => by
    unfold fewB at h
    rw [Bool.and_eq_true, List.all_eq_true, decide_eq_true_eq] at h
    exact ⟨by rw [← HL.out]; exact h.2, fun y hy => by simpa using h.1 y hy⟩
  have hconv : IntKind.i64.wrap dd = dd := by rw [IntKind.wrap_i64]; omega
  clear ha hnc hc _ho _hox hx hd0 hd1
  generalize fewB ls = F at *
  cases F with
  | false =>
    clear hconv HFW
    go_enter Try.func7, Try.ntmps7
    go_wp2_with (first
      | (go_at_call 14; refine (HF.out w2 B2.out).mono ?_; rintro e w3 ⟨rfl, b3⟩; have B3 : Hid (Below w.heap.size w w3) := hid (B2.out.trans (b3.mono B2.out.size)); have v3 := v2.below b3 v2.lt; have q5 := v3.c5; have V3 := hid v3; clear v1 v2 v3 b1 b2 b3 s1)
      | (go_at_call 8; refine (live_any w1).mono ?_; rintro e w2 ⟨rfl, b2⟩; have B2 : Hid (Below w.heap.size w w2) := hid (b1.trans (b2.mono b1.size)); have v2 := v1.below b2 v1.lt)
      | (refine wpList_boxa (x := x) rfl (.tmp 1) rfl rfl ?_; intro w1 v1 b1 s1))
    go_ret
    exact ⟨rfl, B3.out⟩
  | true =>
  by_cases hn : 200 < x.n
  · have d : decide ((200 : Int) < (x.n : Int)) = true := decide_eq_true (by omega)
    clear hn hconv HFW
    go_enter Try.func7, Try.ntmps7
    go_wp2_with (first
      | (go_at_call 14; refine (HF.out w2 B2.out).mono ?_; rintro e w3 ⟨rfl, b3⟩; have B3 : Hid (Below w.heap.size w w3) := hid (B2.out.trans (b3.mono B2.out.size)); have v3 := v2.below b3 v2.lt; have q5 := v3.c5; have V3 := hid v3; clear v1 v2 v3 b1 b2 b3 s1)
      | (go_at_call 8; refine (live_any w1).mono ?_; rintro e w2 ⟨rfl, b2⟩; have B2 : Hid (Below w.heap.size w w2) := hid (b1.trans (b2.mono b1.size)); have v2 := v1.below b2 v1.lt)
      | (refine wpList_boxa (x := x) rfl (.tmp 1) rfl rfl ?_; intro w1 v1 b1 s1))
    go_ret
    exact ⟨rfl, B3.out⟩
  have d : decide ((200 : Int) < (x.n : Int)) = false := decide_eq_false (by omega)
  obtain ⟨hn300, hb200⟩ := HFW.out rfl
  have HXN : Hid (x.n ≤ 200) := hid (by omega)
  have HCP : Hid (∀ w', Below w.heap.size w w' → Calls Try.prog 21 #[.slice A n c] w' (RetL w' n (sim ls))) := hid fun w' h => copy_any A n c w.heap.size ls w' (HA.out.below h) h.size (by omega) (fun y hy => by have := hb200 y hy; omega)
  clear hn HFW hb200
  have HCO := hid hconv
  clear hconv
  go_enter Try.func7, Try.ntmps7
  go_wp2_with (first
    | (go_at_call 21; refine (HCP.out w3 B3.out).mono ?_; rintro e w4 ⟨A4, c4, l4, rfl, p4, own4, el4, b4⟩; have B4 : Hid (Below w.heap.size w w4) := hid (B3.out.trans (b4.mono B3.out.size)); have V4 := hid (V3.out.below b4 V3.out.lt); clear q5)
    | (go_at_call 14; refine (HF.out w2 B2.out).mono ?_; rintro e w3 ⟨rfl, b3⟩; have B3 : Hid (Below w.heap.size w w3) := hid (B2.out.trans (b3.mono B2.out.size)); have v3 := v2.below b3 v2.lt; have q5 := v3.c5; have V3 := hid v3; clear v1 v2 v3 b1 b2 b3 s1)
    | (go_at_call 8; refine (live_any w1).mono ?_; rintro e w2 ⟨rfl, b2⟩; have B2 : Hid (Below w.heap.size w w2) := hid (b1.trans (b2.mono b1.size)); have v2 := v1.below b2 v1.lt)
    | (refine wpList_boxa (x := x) rfl (.tmp 1) rfl rfl ?_; intro w1 v1 b1 s1))
  obtain ⟨base, hbase⟩ : ∃ base, base = w3.heap.size := ⟨_, rfl⟩
  have hgb : w.heap.size < base := by rw [hbase]; exact V3.out.lt
  rw [← hbase] at own4 el4
  have HOW := hid own4
  have HEL := hid el4
  have HSIM := hid p4
  have HBS : Hid (base ≤ w4.heap.size) := hid (by rw [hbase]; exact b4.size)
  clear own4 el4 p4 hbase b4 B3 V3 B2 HF HCP
  have hwb : w.heap.size ≤ base := by omega
  go_loopw [31] (ShRel w w.heap.size base A4 n c4 dd ls x) (fun t _ => n - (intOf t).toNat)
  case atStart => exact ⟨0, l4, rfl, by omega, HOW.out, HEL.out, shA_zero HSIM.out, (fun j hj => by omega), V4.out, B4.out, HBS.out⟩
  case round =>
    obtain ⟨i, l, rfl, hi, own, el, hsh, hlow, vx, hbel, hbsz⟩ := hrel
    have HW := hid own
    have HE := hid el
    have HSH := hid hsh
    have HLO := hid hlow
    have HV := hid vx
    have HB := hid hbel
    have HZ := hid hbsz
    have HLL := hid own.len
    clear own el hsh hlow vx hbel hbsz HOW HEL HSIM V4 B4 HBS
    by_cases hlt : i < n
    · obtain ⟨g, hA4⟩ := HW.out.some (by omega)
      have hA5 := hA4
      subst hA4
      have hin : (i : Int) < (n : Int) := by omega
      have hr := HW.out.range hlt
      have c4c : wr.cell? ⟨g, i * 8 + 4, none⟩ = some (.int .i64 (nth l i).en) := hr 4 _ rfl
      have c3c : wr.cell? ⟨g, i * 8 + 3, none⟩ = some (.int .i64 (nth l i).sa) := hr 3 _ rfl
      obtain ⟨A0, c0, hsame⟩ := HSH.out.2 i (by rw [HL.out]; exact hlt)
      rw [if_neg (by omega)] at hsame
      have HNX : Hid (∀ A c, shA dd ls (l.set i { shf dd (nth ls i) with A := A, c := c }) (i + 1)) := hid fun A c => shA_next HSH.out (by rw [HL.out]; exact hlt) ⟨A, c, rfl⟩
      have HLN : Hid ((nth ls i).en ≤ 1125899906842624 → low50 ls (i + 1)) := hid fun h => low50_next HLO.out h
      have HSM := hid hsame
      have hen : (nth l i).en = (nth ls i).en := by rw [hsame]
      have hsa : (nth l i).sa = (nth ls i).sa := by rw [hsame]
      rw [hen] at c4c
      rw [hsa] at c3c
      clear hr hsame hA5
      obtain ⟨z, hz⟩ : ∃ z, nth ls i = z := ⟨_, rfl⟩
      have HZZ := hid hz
      rw [hz] at c4c c3c hen hsa
      rw [hz] at HLN HNX HSM
      by_cases hen50 : 1125899906842624 < z.en
      · have dn : decide (1125899906842624 < z.en) = true := decide_eq_true hen50
        clear hen50
        go_wp2
        go_ret
        exact ⟨rfl, HB.out⟩
      · have dn : decide (1125899906842624 < z.en) = false := decide_eq_false hen50
        have HL2 := hid (HLN.out (by omega))
        obtain ⟨S1, hS1⟩ : ∃ S1, IntKind.i64.wrap (z.sa + dd) = S1 := ⟨_, rfl⟩
        obtain ⟨S2, hS2⟩ : ∃ S2, IntKind.i64.wrap (z.en + dd) = S2 := ⟨_, rfl⟩
        obtain ⟨y1, hy1⟩ : ∃ y1 : Ar, { nth l i with sa := S1 } = y1 := ⟨_, rfl⟩
        obtain ⟨y2, hy2⟩ : ∃ y2 : Ar, { y1 with en := S2 } = y2 := ⟨_, rfl⟩
        have HY1 : Hid (enc y1 = (enc (nth l i)).set 3 (.int .i64 S1)) := hid (by rw [← hy1]; rfl)
        have hil : i < l.length := by rw [HLL.out]; exact hlt
        have HY2 : Hid (enc y2 = (enc (nth (l.set i y1) i)).set 4 (.int .i64 S2)) := hid (by
          rw [show nth (l.set i y1) i = y1 from nth_of (by rw [List.getElem?_set_self hil]), ← hy2]; rfl)
        have HY3 : Hid (y1.en = z.en) := hid (by rw [← hy1]; exact hen)
        have HY4 : Hid (y2 = { shf dd z with A := A0, c := c0 }) := hid (by rw [← hy2, ← hy1, HSM.out, ← hS1, ← hS2]; rfl)
        have HE1 : Hid (y1.A = (nth l i).A ∧ y1.n = (nth l i).n ∧ y1.c = (nth l i).c ∧ y1.b = (nth l i).b) := hid (by rw [← hy1]; exact ⟨rfl, rfl, rfl, rfl⟩)
        have HE2 : Hid (y2.A = y1.A ∧ y2.n = y1.n ∧ y2.c = y1.c ∧ y2.b = y1.b) := hid (by rw [← hy2]; exact ⟨rfl, rfl, rfl, rfl⟩)
        have HNI : Hid (nth (l.set i y1) i = y1) := hid (nth_of (by rw [List.getElem?_set_self hil]))
        have hco := HCO.out
        have HIL := hid hil
        clear hen50 hen hsa hy1 hy2 hil hz
        go_wp2_with (first
          | (refine wpList_sef y2 4 (.int .i64 S2) rfl 2 (.tmp 60) (.tmp 58) rfl (k := i) rfl rfl OW2.out hlt HY2.out (by omega) rfl rfl size2 ?_; intro w6 own6 b6 o6 s6; have B6 : Hid (Below base wr w6) := hid (B5.out.trans b6); have el6 := (E5.out).oth5 OW2.out o6)
          | (refine wpList_sef y1 3 (.int .i64 S1) rfl 2 (.tmp 50) (.tmp 48) rfl (k := i) rfl rfl HW.out hlt HY1.out (by omega) rfl rfl size2 ?_; intro w5 own5 b5 o5 s5; have B5 : Hid (Below base wr w5) := hid b5; have E5 : Hid (El w5 base (l.set i y1)) := hid ((HE.out.oth5 HW.out o5).set HIL.out HE1.out.1 HE1.out.2.1 HE1.out.2.2.1 HE1.out.2.2.2); have OW2 := hid own5; have f4 : w5.cell? ⟨g, i * 8 + 4, none⟩ = some (.int .i64 z.en) := by (have := own5.range hlt 4 _ rfl; rw [HNI.out, HY3.out] at this; exact this)))
        go_roundw
        case rel =>
          refine ⟨i + 1, _, by go_num, by omega, own6, ?_, ?_, HL2.out, HV.out.below B6.out hgb, HB.out.trans (B6.out.mono hwb), Nat.le_trans HZ.out B6.out.size⟩
          · rw [show (l.set i y1).set i y2 = (l.set i y1).set i y2 from rfl]
            exact El.set el6 (by rw [List.length_set]; exact HIL.out) (by rw [HNI.out]; exact HE2.out.1) (by rw [HNI.out]; exact HE2.out.2.1) (by rw [HNI.out]; exact HE2.out.2.2.1) (by rw [HNI.out]; exact HE2.out.2.2.2)
          · rw [List.set_set, HY4.out]
            exact HNX.out A0 c0
        case measure => simp [intOf]; omega
    · have hin : i = n := by omega
      subst hin
      have HLA : Hid (low50 ls ls.length) := hid (by rw [HL.out]; exact HLO.out)
      have HSA : Hid (shA dd ls l ls.length) := hid (by rw [HL.out]; exact HSH.out)
      have HRA : Hid (RA wr wr.heap.size A4 i l) := hid (HW.out.ra HE.out)
      obtain ⟨wE, rfl⟩ : ∃ wE, wE = wr := ⟨_, rfl⟩
      have HH := HB.out.size
      have q4 := HV.out.c4
      clear HW HE HSH HLO
      by_cases hx50 : 1125899906842624 < x.en
      · have dn : decide (1125899906842624 < x.en) = true := decide_eq_true hx50
        clear hx50 q4
        go_wp2_with (first
          | (refine wpList_sva (x := x) rfl (.tmp 10) (.tmp 62) rfl rfl rfl r5 ?_; intro w6 r6 b6 o6 s6; have B6 : Hid (Below wE.heap.size wE w6) := hid (b5.trans b6); have k4 := (HV.out.below B6.out HV.out.lt).c4)
          | (refine wpList_ala rfl rfl ?_; intro w5 r5 b5 s5)
          | (refine wpList_lda (x := x) rfl (.tmp 4) rfl rfl HV.out ?_))
        go_ret
        exact ⟨rfl, HB.out.trans (B6.out.mono HH)⟩
      have dn : decide (1125899906842624 < x.en) = false := decide_eq_false hx50
      obtain ⟨S1, hS1⟩ : ∃ S1, IntKind.i64.wrap (x.sa + dd) = S1 := ⟨_, rfl⟩
      obtain ⟨S2, hS2⟩ : ∃ S2, IntKind.i64.wrap (x.en + dd) = S2 := ⟨_, rfl⟩
      obtain ⟨y1, hy1⟩ : ∃ y1 : Ar, { x with sa := S1 } = y1 := ⟨_, rfl⟩
      obtain ⟨y2, hy2⟩ : ∃ y2 : Ar, { y1 with en := S2 } = y2 := ⟨_, rfl⟩
      have HY1 : Hid (enc y1 = (enc x).set 3 (.int .i64 S1)) := hid (by rw [← hy1]; rfl)
      have HY2 : Hid (enc y2 = (enc y1).set 4 (.int .i64 S2)) := hid (by rw [← hy2]; rfl)
      have HY3 : Hid (y1.en = x.en) := hid (by rw [← hy1])
      have HYS : Hid (y2 = shf dd x) := hid (by rw [← hy2, ← hy1, ← hS1, ← hS2]; rfl)
      have HYR : Hid (∀ w', Below w.heap.size w w' → Row w' w.heap.size y2.A y2.n (bv y2.b)) := hid fun w' h => by rw [← hy2, ← hy1]; exact HX.out.below h
      have HX50 : Hid (x.en ≤ 1125899906842624) := hid (by omega)
      have hco := HCO.out
      have HN3 := hid hn300
      clear hx50 hy1 hy2 q4
      by_cases hE : lauE ls x = 0
      · have HE2 : Hid (lauE l y2 = 0) := hid (by rw [HYS.out]; exact sh_lauE hE HLA.out HX50.out HD0.out HD1.out HSA.out)
        have HL1 : Hid (∀ w', Below w.heap.size w w' → Calls Try.prog 15 #[.slice A i c, itv x] w' (RetLE w' (i + 1) (lauP ls x))) := hid fun w' h => launch_0 A i c w.heap.size ls x w' (HA.out.below h) (HX.out.below h) h.size hE
        have HL2 : Hid (∀ w', Below wE.heap.size wE w' → Calls Try.prog 15 #[.slice A4 i c4, itv y2] w' (RetLE w' (i + 1) (lauP l y2))) := hid fun w' h => launch_0 A4 i c4 wE.heap.size l y2 w' (HRA.out.below h) ((HYR.out _ (HB.out.trans (h.mono HH))).more HH) h.size HE2.out
        have HEND : Hid (∀ la lb, lauP ls x la → lauP l y2 lb → ∀ j, j < i + 1 → (nth lb j).bad = (nth la j).bad ∧ IntKind.i64.wrap ((nth lb j).sa - (nth la j).sa) = dd) := hid fun la lb h1 h2 => by
          rw [HYS.out] at h2
          have := sh_end hE HLA.out HX50.out HD0.out HD1.out HSA.out h1 h2
          rwa [HL.out] at this
        clear hE HE2 HLA HSA HRA HYR HYS HX50
        go_wp2_with (first
          | (go_at_call 15; refine (HL2.out w9 B9.out).mono ?_; rintro e w10 ⟨Ab, cb, lb, rfl, pb, ownb, elb, b10⟩)
          | (refine wpList_lda (x := y2) rfl (.tmp 10) rfl rfl r9 ?_)
          | (go_at_call 15; refine (HL1.out w8 (HB.out.trans (B8.out.mono HH))).mono ?_; rintro e w9 ⟨Aa, ca, la, rfl, pa, owna, ela, b9⟩; have r9 := r8.below b9 r8.lt; have B9 : Hid (Below wE.heap.size wE w9) := hid (B8.out.trans (b9.mono B8.out.size)); clear m4)
          | (refine wpList_lda (x := x) rfl (.tmp 4) rfl rfl v8 ?_)
          | (refine wpList_sf y2 4 (.int .i64 S2) rfl 2 (.tmp 78) (.tmp 77) rfl rfl rfl r7 HY2.out (by omega) rfl rfl size2 ?_; intro w8 r8 b8 o8 s8; have B8 : Hid (Below wE.heap.size wE w8) := hid (B7.out.trans b8); have v8 := HV.out.below B8.out HV.out.lt)
          | (refine wpList_sf y1 3 (.int .i64 S1) rfl 2 (.tmp 72) (.tmp 71) rfl rfl rfl r6 HY1.out (by omega) rfl rfl size2 ?_; intro w7 r7 b7 o7 s7; have B7 : Hid (Below wE.heap.size wE w7) := hid (B6.out.trans b7); have m4 := r7.c4; rw [HY3.out] at m4; clear k4 k3)
          | (refine wpList_sva (x := x) rfl (.tmp 10) (.tmp 62) rfl rfl rfl r5 ?_; intro w6 r6 b6 o6 s6; have B6 : Hid (Below wE.heap.size wE w6) := hid (b5.trans b6); have k4 := (HV.out.below B6.out HV.out.lt).c4; have k3 := r6.c3)
          | (refine wpList_ala rfl rfl ?_; intro w5 r5 b5 s5)
          | (refine wpList_lda (x := x) rfl (.tmp 4) rfl rfl HV.out ?_))
        have HPT := hid (HEND.out la lb pa pb)
        have HRA1 : Hid (RA w10 w9.heap.size Aa (i + 1) la) := hid ((owna.ra ela).below b10)
        have HRA2 : Hid (RA w10 w10.heap.size Ab (i + 1) lb) := hid (ownb.ra elb)
        have B10 : Hid (Below w.heap.size w w10) := hid ((HB.out.trans (B9.out.mono HH)).trans (b10.mono (Nat.le_trans HH B9.out.size)))
        have S910 : Hid (w9.heap.size ≤ w10.heap.size) := hid b10.size
        clear pa pb owna ela ownb elb b9 b10 r5 r6 r7 r8 r9 v8 b5 b6 b7 b8 o6 o7 o8 HEND
        go_loopw [105] (fun t wr => ∃ j : Nat, t = .int .i64 (j : Int) ∧ j ≤ i + 1 ∧ Below w10.heap.size w10 wr) (fun t _ => i + 1 - (intOf t).toNat)
        case atStart => exact ⟨0, rfl, by omega, Below.refl _ _⟩
        case round =>
          obtain ⟨j, rfl, hj, hbel⟩ := hrel
          have HBJ := hid hbel
          clear hbel
          by_cases hlj : j < i + 1
          · obtain ⟨ba, oa, ea, _, hca⟩ := (HRA1.out.below (HBJ.out.mono S910.out)).1.all (by omega)
            obtain ⟨bb, ob, eb, _, hcb⟩ := (HRA2.out.below HBJ.out).1.all (by omega)
            subst ea
            subst eb
            obtain ⟨p1, p2⟩ := HPT.out j hlj
            have a6 := hca j hlj 6 _ rfl
            have a3 := hca j hlj 3 _ rfl
            have b6 := hcb j hlj 6 _ rfl
            have b3 := hcb j hlj 3 _ rfl
            rw [p1] at b6
            clear hca hcb p1
            generalize (nth lb j).sa = sb at *
            generalize (nth la j).sa = sa at *
            generalize (nth la j).bad = X at *
            have hjn : (j : Int) < ((i + 1 : Nat) : Int) := by omega
            have hjn2 : (j : Int) < (i : Int) + 1 := by omega
            have e1 : (X != X) = false := by simp
            have e2 : (dd != dd) = false := by simp
            go_upto_region 27 with fail
            go_quiet (fail)
            go_wp2
            exact ⟨⟨j + 1, by go_num, by omega, bel_drewN HBJ.out _⟩, by simp [intOf]; omega⟩
          · go_wp2
            go_ret
            exact ⟨rfl, B10.out.trans (HBJ.out.mono B10.out.size)⟩
      · have hEne : (lauE ls x != 0) = true := by simp [hE]
        have HL1 : Hid (∀ w', Below w.heap.size w w' → Calls Try.prog 15 #[.slice A i c, itv x] w' (RetN w' (lauE ls x))) := hid fun w' h => launch_E _ A i c w.heap.size ls x w' (HA.out.below h) h.size (by have := HN3.out; omega) rfl hE
        have HL2 : Hid (∀ w', Below wE.heap.size wE w' → Calls Try.prog 15 #[.slice A4 i c4, itv y2] w' (RetS w')) := hid fun w' h => launch_s A4 i c4 wE.heap.size l y2 w' (HRA.out.below h) ((HYR.out _ (HB.out.trans (h.mono HH))).more HH) h.size (by have := HN3.out; omega)
        generalize lauE ls x = E at *
        clear hE HLA HSA HRA HYR HYS HX50
        go_wp2_with (first
          | (go_at_call 15; refine (HL2.out w9 B9.out).mono ?_; rintro e w10 ⟨Ab, nb, cb, Eb, rfl, b10⟩)
          | (refine wpList_lda (x := y2) rfl (.tmp 10) rfl rfl r9 ?_)
          | (go_at_call 15; refine (HL1.out w8 (HB.out.trans (B8.out.mono HH))).mono ?_; rintro e w9 ⟨rfl, b9⟩; have r9 := r8.below b9 r8.lt; have B9 : Hid (Below wE.heap.size wE w9) := hid (B8.out.trans (b9.mono B8.out.size)); clear m4)
          | (refine wpList_lda (x := x) rfl (.tmp 4) rfl rfl v8 ?_)
          | (refine wpList_sf y2 4 (.int .i64 S2) rfl 2 (.tmp 78) (.tmp 77) rfl rfl rfl r7 HY2.out (by omega) rfl rfl size2 ?_; intro w8 r8 b8 o8 s8; have B8 : Hid (Below wE.heap.size wE w8) := hid (B7.out.trans b8); have v8 := HV.out.below B8.out HV.out.lt)
          | (refine wpList_sf y1 3 (.int .i64 S1) rfl 2 (.tmp 72) (.tmp 71) rfl rfl rfl r6 HY1.out (by omega) rfl rfl size2 ?_; intro w7 r7 b7 o7 s7; have B7 : Hid (Below wE.heap.size wE w7) := hid (B6.out.trans b7); have m4 := r7.c4; rw [HY3.out] at m4; clear k4 k3)
          | (refine wpList_sva (x := x) rfl (.tmp 10) (.tmp 62) rfl rfl rfl r5 ?_; intro w6 r6 b6 o6 s6; have B6 : Hid (Below wE.heap.size wE w6) := hid (b5.trans b6); have k4 := (HV.out.below B6.out HV.out.lt).c4; have k3 := r6.c3)
          | (refine wpList_ala rfl rfl ?_; intro w5 r5 b5 s5)
          | (refine wpList_lda (x := x) rfl (.tmp 4) rfl rfl HV.out ?_))
        go_ret
        exact ⟨rfl, (HB.out.trans (B9.out.mono HH)).trans (b10.mono (Nat.le_trans HH B9.out.size))⟩
end Go.Proofs.Ytjmkhhmibkiijaa
