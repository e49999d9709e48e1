/-
  The walk of MediumGarbles, whatever came in; medium.Launch whole.
-/
import Derived.Test.YtjmkhhmibkiijaaGP
import Derived.Test.YtjmkhhmibkiijaaG
import Derived.Test.YtjmkhhmibkiijaaR
namespace Go.Proofs.Ytjmkhhmibkiijaa
open Go Go.RowKit

theorem launch_E (E : Int) (A : Option Addr) (n c B : Nat) (xs : List Ar) (x : Ar) (w : World) (ha : RA w B A n xs) (hB : B ≤ w.heap.size) (hn : n ≤ 100000) (hE : lauE xs x = E) (h0 : E ≠ 0) : Calls Try.prog 15 #[.slice A n c, itv x] w (RetN w E) :=
  launch_bad A n c B xs x w E ha.1 hB hn hE h0
theorem launch_0 (A : Option Addr) (n c B : Nat) (xs : List Ar) (x : Ar) (w : World) (ha : RA w B A n xs) (hx : Row w B x.A x.n (bv x.b)) (hB : B ≤ w.heap.size) (hE : lauE xs x = 0) : Calls Try.prog 15 #[.slice A n c, itv x] w (RetLE w (n + 1) (lauP xs x)) := by
  obtain ⟨h1, h2, h3, h4⟩ := lauE_zero hE
  have hl := ha.1.1
  by_cases h0 : n = 0
  · subst h0
    obtain rfl : xs = [] := List.eq_nil_of_length_eq_zero hl
    exact launch_ok0 A c B x w hx hB h2
  · refine launch_ok1 A n c B xs x w ha hx hB (by omega) h1 h2 ⟨by omega, ?_⟩
    rw [hl] at h4
    exact h4 (by omega)
theorem Ow.ra' {w : World} {base n c : Nat} {A : Option Addr} {l : List Ar} (h : Ow w base A n c l) (he : El w base l) : RA w w.heap.size A n l := h.ra he
def GRel (w : World) (n : Nat) (ls : List Ar) (t26 t4 : Value) (wr : World) : Prop :=
  ∃ (i k c : Nat) (A : Option Addr) (xs : List Ar), t26 = .int .i64 (i : Int) ∧ i ≤ n ∧ t4 = .slice A k c ∧ RA wr wr.heap.size A k xs ∧ ginv ls xs i ∧ Below w.heap.size w wr
set_option maxRecDepth 100000 in
set_option maxHeartbeats 4000000 in
theorem garbles_row {w : World} (A : Option Addr) (n c : Nat) (ls : List Ar) (ha : RA w w.heap.size A n ls) (hnc : n ≤ c) (hc : c ≤ 9223372036854775807) (_ho : ∀ x ∈ ls, AirOk x) :
    Calls Try.prog 4 #[.slice A n c] w fun e w' => e = .returned (.bool true) ∧ Below w.heap.size w w' := by
  have HA := hid ha
  have HL := hid ha.1.1
  have HF : Hid (∀ w', Below w.heap.size w w' → Calls Try.prog 14 #[.slice A n c] w' fun e w'' => e = .returned (.bool (fewB ls)) ∧ Below w'.heap.size w' w'') := hid fun w' h => few_any A n c w.heap.size ls w' (HA.out.1.below h) h.size (by omega)
  clear ha hnc hc _ho
  generalize fewB ls = F at *
  cases F with
  | false =>
    go_enter Try.func4, Try.ntmps4
    go_wp2_with (first
      | (go_at_call 14; refine (HF.out w1 b1).mono ?_; rintro e w2 ⟨rfl, b2⟩; have B2 : Hid (Below w.heap.size w w2) := hid (b1.trans (b2.mono b1.size)))
      | (go_at_call 8; refine (live_any w).mono ?_; rintro e w1 ⟨rfl, b1⟩))
    go_ret
    exact ⟨rfl, B2.out⟩
  | true =>
  by_cases hn : 60 < n
  · have d : decide ((60 : Int) < (n : Int)) = true := decide_eq_true (by omega)
    clear hn
    go_enter Try.func4, Try.ntmps4
    go_wp2_with (first
      | (go_at_call 14; refine (HF.out w1 b1).mono ?_; rintro e w2 ⟨rfl, b2⟩; have B2 : Hid (Below w.heap.size w w2) := hid (b1.trans (b2.mono b1.size)))
      | (go_at_call 8; refine (live_any w).mono ?_; rintro e w1 ⟨rfl, b1⟩))
    go_ret
    exact ⟨rfl, B2.out⟩
  have d : decide ((60 : Int) < (n : Int)) = false := decide_eq_false (by omega)
  have HN : Hid (n ≤ 60) := hid (by omega)
  clear hn
  go_enter Try.func4, Try.ntmps4
  go_wp2_with (first
    | (go_at_call 14; refine (HF.out w1 b1).mono ?_; rintro e w2 ⟨rfl, b2⟩; have B2 : Hid (Below w.heap.size w w2) := hid (b1.trans (b2.mono b1.size)); clear b1 b2)
    | (go_at_call 8; refine (live_any w).mono ?_; rintro e w1 ⟨rfl, b1⟩))
  go_loopw [26, 4] (GRel w n ls) (fun t _ _ => n - (intOf t).toNat)
  case atStart => exact ⟨0, 0, 0, none, [], rfl, by omega, rfl, RA.nil _ _ _, ginv_zero ls, B2.out⟩
  case round =>
    obtain ⟨i, k, c1, A1, xs, rfl, hi, rfl, hra, hg, hbel⟩ := hrel
    have HB := hid hbel
    have HX := hid hra
    have HG := hid hg
    have HXL := hid hra.1.1
    have HK : Hid (k ≤ i) := hid (by have := hg.2.1; rw [hra.1.1] at this; exact this)
    clear hbel hra hg B2
    have hn60 := HN.out
    by_cases hlt : i < n
    · have HR := hid (HA.out.below HB.out)
      obtain ⟨b, o, hA2, hb, hc⟩ := HR.out.1.all (by omega)
      subst hA2
      have r1 := hid (hc i hlt)
      have hin : (i : Int) < (n : Int) := by omega
      have hiu : IntKind.u64.wrap (i : Int) = (i : Int) := by rw [IntKind.wrap_u64]; have := HN.out; omega
      have HRX : Hid (Row wr w.heap.size (nth ls i).A (nth ls i).n (bv (nth ls i).b)) := hid (HR.out.2 _ (nth_mem (by rw [HL.out]; exact hlt)))
      have HGN : Hid (∀ l : List Ar, lauE xs { nth ls i with id := (i : Int) } = 0 → l.length = k + 1 → lauP xs { nth ls i with id := (i : Int) } l → ginv ls l (i + 1)) := hid fun l h1 h2 h3 => ginv_next HG.out h1 (by rw [HXL.out]; exact h2) h3
      generalize nth ls i = x at *
      obtain ⟨y, hy⟩ : ∃ y : Ar, { x with id := (i : Int) } = y := ⟨_, rfl⟩
      have HY : Hid (enc y = (enc x).set 0 (.int .u64 (i : Int))) := hid (by rw [← hy]; rfl)
      have HYR : Hid (Row wr w.heap.size y.A y.n (bv y.b)) := hid (by rw [← hy]; exact HRX.out)
      rw [hy] at HGN
      clear hc hb hy HRX
      have HH := HB.out.size
      by_cases hE : lauE xs y = 0
      · have HLA : Hid (∀ w', Below wr.heap.size wr w' → Calls Try.prog 15 #[.slice A1 k c1, itv y] w' (RetLE w' (k + 1) (lauP xs y))) := hid fun w' h => launch_0 A1 k c1 wr.heap.size xs y w' (HX.out.below h) ((HYR.out.below (h.mono HH)).more HH) h.size hE
        have HEE := hid hE
        clear hE
        go_wp2_with (first
          | (go_at_call 15; refine (HLA.out w4 B4.out).mono ?_; rintro e w5 ⟨A5, c5, l5, rfl, p5, own5, el5, b5⟩)
          | (refine wpList_lda (x := y) rfl (.tmp 6) rfl rfl r4 ?_)
          | (refine wpList_sf y 0 (.int .u64 (i : Int)) rfl 22 (.tmp 33) (.tmp 32) rfl rfl rfl r3 HY.out (by omega) rfl rfl size22 ?_; intro w4 r4 b4 o4 s4; have B4 : Hid (Below wr.heap.size wr w4) := hid (B3.out.trans b4))
          | (refine wpList_sva (x := x) rfl (.tmp 6) (.tmp 30) rfl rfl rfl r2 ?_; intro w3 r3 b3 o3 s3; have B3 : Hid (Below wr.heap.size wr w3) := hid (b2.trans b3))
          | (refine wpList_ala rfl rfl ?_; intro w2 r2 b2 s2)
          | (refine wpList_lde (x := x) rfl (.tmp 29) rfl rfl r1.out ?_))
        go_roundw
        case rel => exact ⟨i + 1, k + 1, c5, A5, l5, by go_num, by omega, rfl, own5.ra el5, HGN.out l5 HEE.out own5.len p5, (HB.out.trans (B4.out.mono HH)).trans (b5.mono (Nat.le_trans HH B4.out.size))⟩
        case measure => simp [intOf]; omega
      · have HLA : Hid (∀ w', Below wr.heap.size wr w' → Calls Try.prog 15 #[.slice A1 k c1, itv y] w' (RetN w' (lauE xs y))) := hid fun w' h => launch_E (lauE xs y) A1 k c1 wr.heap.size xs y w' (HX.out.below h) h.size (by have := HN.out; have := HK.out; omega) rfl hE
        have hne : (lauE xs y != 0) = true := by simp [hE]
        generalize lauE xs y = E at *
        clear hE
        go_wp2_with (first
          | (go_at_call 15; refine (HLA.out w4 B4.out).mono ?_; rintro e w5 ⟨rfl, b5⟩)
          | (refine wpList_lda (x := y) rfl (.tmp 6) rfl rfl r4 ?_)
          | (refine wpList_sf y 0 (.int .u64 (i : Int)) rfl 22 (.tmp 33) (.tmp 32) rfl rfl rfl r3 HY.out (by omega) rfl rfl size22 ?_; intro w4 r4 b4 o4 s4; have B4 : Hid (Below wr.heap.size wr w4) := hid (B3.out.trans b4))
          | (refine wpList_sva (x := x) rfl (.tmp 6) (.tmp 30) rfl rfl rfl r2 ?_; intro w3 r3 b3 o3 s3; have B3 : Hid (Below wr.heap.size wr w3) := hid (b2.trans b3))
          | (refine wpList_ala rfl rfl ?_; intro w2 r2 b2 s2)
          | (refine wpList_lde (x := x) rfl (.tmp 29) rfl rfl r1.out ?_))
        go_roundw
        case rel =>
          have hbb : Below wr.heap.size wr w5 := B4.out.trans (b5.mono B4.out.size)
          exact ⟨i + 1, k, c1, A1, xs, by go_num, by omega, rfl, (HX.out.below hbb).more hbb.size, ginv_stay HG.out, HB.out.trans (hbb.mono HH)⟩
        case measure => simp [intOf]; omega
    · have hik : i = n := by omega
      subst hik
      have HH := HB.out.size
      have HOK : Hid (okE xs = 0) := hid (okE_one HG.out.1)
      have HCK : Hid (∀ w', Below wr.heap.size wr w' → Calls Try.prog 17 #[.slice A1 k c1] w' fun e w'' => e = .returned (.int .i64 0) ∧ Below w'.heap.size w' w'') := hid fun w' h => by
        have := check_any A1 k c1 wr.heap.size xs w' (HX.out.1.below h) h.size (by have := HN.out; have := HK.out; omega)
        rwa [HOK.out] at this
      have HBAD : Hid (∀ a, a < k → (0 ≤ (nth xs a).id ∧ (nth xs a).id < (i : Int)) ∧ (nth xs a).bad = (anyB (gm xs a) k || (nth ls (nth xs a).id.toNat).bad)) := hid fun a ha => by
        have := HG.out.2.2 a (by rw [HXL.out]; exact ha)
        unfold gb at this
        rwa [HXL.out] at this
      have HNU : Hid (IntKind.u64.wrap (i : Int) = (i : Int)) := hid (by rw [IntKind.wrap_u64]; have := HN.out; omega)
      have hk60 : k ≤ 60 := by have := HK.out; omega
      obtain ⟨wE, rfl⟩ : ∃ wE, wE = wr := ⟨_, rfl⟩
      clear HG
      go_wp2
      go_loopw [46] (fun t wr => ∃ a : Nat, t = .int .i64 (a : Int) ∧ a ≤ k ∧ Below wE.heap.size wE wr) (fun t _ => k - (intOf t).toNat)
      case atStart => exact ⟨0, rfl, by omega, Below.refl _ _⟩
      case round =>
        obtain ⟨a, rfl, hak, hbel⟩ := hrel
        obtain ⟨w0, rfl⟩ : ∃ w0, w0 = wr := ⟨_, rfl⟩
        have HB2 := hid hbel
        clear hbel
        by_cases hla : a < k
        · have HR := hid (HX.out.below HB2.out)
          obtain ⟨b, o, hA2, hb, hc⟩ := HR.out.1.all (by omega)
          have hA3 := hA2
          subst hA2
          have r1 := hid (hc a hla)
          have hain : (a : Int) < (k : Int) := by omega
          obtain ⟨⟨hid0, hid1⟩, hbad⟩ := HBAD.out a hla
          obtain ⟨xa, hxa⟩ : ∃ xa, nth xs a = xa := ⟨_, rfl⟩
          have HXA := hid hxa
          rw [hxa] at r1 hid0 hid1 hbad
          obtain ⟨LB, hLB⟩ : ∃ LB, (nth ls xa.id.toNat).bad = LB := ⟨_, rfl⟩
          have HLB : Hid (∀ w', Below w.heap.size w w' → ∃ b o, A = some ⟨b, o, none⟩ ∧ w'.cell? ⟨b, o + xa.id.toNat * 8 + 6, none⟩ = some (.bool LB)) := hid fun w' h => by
            obtain ⟨b, o, e, _, hc⟩ := (HA.out.below h).1.all (by omega)
            refine ⟨b, o, e, ?_⟩
            have := hc xa.id.toNat (by omega) 6 _ rfl
            rwa [hLB] at this
          rw [hLB] at hbad
          have HBD := hid hbad
          have HI0 := hid hid0
          have HI1 := hid hid1
          clear hc hb hxa hbad hLB hid0 hid1
          go_wp2_with (first
            | (refine wpList_sva (x := xa) rfl (.tmp 10) (.tmp 50) rfl rfl rfl r2 ?_; intro w3 r3 b3 o3 s3; have B3 : Hid (Below w0.heap.size w0 w3) := hid (b2.trans b3); have V3 := hid r3)
            | (refine wpList_ala rfl rfl ?_; intro w2 r2 b2 s2)
            | (refine wpList_lde (x := xa) rfl (.tmp 49) rfl rfl r1.out ?_))
          have HB3 : Hid (Below wE.heap.size wE w3) := hid (HB2.out.trans (B3.out.mono HB2.out.size))
          have HGE : Hid (wE.heap.size ≤ w0.heap.size) := hid HB2.out.size
          clear r2 r3 b2 b3 o3 s2 s3 r1
          go_loopw [11, 53] (fun t11 t53 wi => ∃ j : Nat, t53 = .int .i64 (j : Int) ∧ j ≤ k ∧ t11 = .bool (anyB (gm xs a) j) ∧ VarA wi w0.heap.size xa ∧ Below wE.heap.size wE wi) (fun _ t _ => k - (intOf t).toNat)
          case atStart => exact ⟨0, rfl, by omega, rfl, V3.out, HB3.out⟩
          case round =>
            obtain ⟨j, rfl, hjk, rfl, hva, hbel⟩ := hrel
            have HVA := hid hva
            have HBI := hid hbel
            clear hva hbel V3
            by_cases hlj : j < k
            · have HR2 := hid (HX.out.below HBI.out)
              obtain ⟨b', o', hA2, hb, hc⟩ := HR2.out.1.all (by omega)
              injection hA2 with hA2; injection hA2 with e1 e2; subst e1; subst e2
              have r1 := hid (hc j hlj)
              have hjin : (j : Int) < (k : Int) := by omega
              have HS : Hid (anyB (gm xs a) (j + 1) = (anyB (gm xs a) j || gm xs a j)) := hid (anyB_succ _ _)
              have HGM : Hid (gm xs a j = (decide (a ≠ j) && meet xa (nth xs j))) := hid (by unfold gm; rw [HXA.out])
              clear hc hb
              generalize nth xs j = xb at *
              generalize anyB (gm xs a) j = R at *
              cases R with
              | true =>
                go_wp2_with (first
                  | (refine wpList_sva (x := xb) rfl (.tmp 13) (.tmp 57) rfl rfl rfl r4 ?_; intro w5 r5 b5 o5 s5; have B5 : Hid (Below wr.heap.size wr w5) := hid (b4.trans b5))
                  | (refine wpList_ala rfl rfl ?_; intro w4 r4 b4 s4)
                  | (refine wpList_lde (x := xb) rfl (.tmp 56) rfl rfl r1.out ?_))
                exact ⟨⟨j + 1, by go_num, by omega, by rw [HS.out]; rfl, HVA.out.below B5.out HVA.out.lt, HBI.out.trans (B5.out.mono HBI.out.size)⟩, by simp [intOf]; omega⟩
              | false =>
                by_cases haj : a = j
                · have hq : ((a : Int) != (j : Int)) = false := by simp [haj]
                  have HZ : Hid (anyB (gm xs a) (j + 1) = false) := hid (by rw [HS.out, HGM.out, decide_eq_false (by simp [haj])]; rfl)
                  clear haj
                  go_wp2_with (first
                    | (refine wpList_sva (x := xb) rfl (.tmp 13) (.tmp 57) rfl rfl rfl r4 ?_; intro w5 r5 b5 o5 s5; have B5 : Hid (Below wr.heap.size wr w5) := hid (b4.trans b5))
                    | (refine wpList_ala rfl rfl ?_; intro w4 r4 b4 s4)
                    | (refine wpList_lde (x := xb) rfl (.tmp 56) rfl rfl r1.out ?_))
                  exact ⟨⟨j + 1, by go_num, by omega, by rw [HZ.out], HVA.out.below B5.out HVA.out.lt, HBI.out.trans (B5.out.mono HBI.out.size)⟩, by simp [intOf]; omega⟩
                · have hq : ((a : Int) != (j : Int)) = true := by simp; omega
                  have HZ : Hid (anyB (gm xs a) (j + 1) = meet xa xb) := hid (by rw [HS.out, HGM.out, decide_eq_true (by omega : a ≠ j), Bool.true_and, Bool.false_or])
                  have HME := hid (fun w => meet_any xa xb w)
                  generalize meet xa xb = M at *
                  clear haj
                  go_wp2_with (first
                    | (go_at_call 16; refine (HME.out w5).mono ?_; rintro e w6 ⟨rfl, b6⟩; have B6 : Hid (Below wr.heap.size wr w6) := hid (B5.out.trans (b6.mono B5.out.size)))
                    | (refine wpList_lda (x := xb) rfl (.tmp 13) rfl rfl r5 ?_)
                    | (refine wpList_lda (x := xa) rfl (.tmp 10) rfl rfl v5 ?_)
                    | (refine wpList_sva (x := xb) rfl (.tmp 13) (.tmp 57) rfl rfl rfl r4 ?_; intro w5 r5 b5 o5 s5; have B5 : Hid (Below wr.heap.size wr w5) := hid (b4.trans b5); have v5 := HVA.out.below B5.out HVA.out.lt)
                    | (refine wpList_ala rfl rfl ?_; intro w4 r4 b4 s4)
                    | (refine wpList_lde (x := xb) rfl (.tmp 56) rfl rfl r1.out ?_))
                  exact ⟨⟨j + 1, by go_num, by omega, by rw [HZ.out], HVA.out.below B6.out HVA.out.lt, HBI.out.trans (B6.out.mono HBI.out.size)⟩, by simp [intOf]; omega⟩
            · have hjk2 : j = k := by omega
              subst hjk2
              obtain ⟨b', o', hA9, hlc⟩ := HLB.out wr (HB.out.trans (HBI.out.mono HH))
              subst hA9
              have k0 := HVA.out.c0
              have k6 := HVA.out.c6
              have hnu := HNU.out
              have d1 : decide ((i : Int) ≤ xa.id) = false := decide_eq_false (by have := HI1.out; omega)
              have hi0 := HI0.out
              have hi1 := HI1.out
              generalize anyB (gm xs a) j = R at *
              cases R with
              | true =>
                rw [HBD.out] at k6
                go_upto_region 24 with fail
                go_quiet (fail)
                go_wp2
                exact ⟨⟨a + 1, by go_num, by omega, bel_drewN HBI.out _⟩, by simp [intOf]; omega⟩
              | false =>
                rw [HBD.out, Bool.false_or] at k6
                have hbb : (LB != LB) = false := by simp
                go_upto_region 24 with fail
                go_quiet (fail)
                go_wp2
                exact ⟨⟨a + 1, by go_num, by omega, bel_drewN HBI.out _⟩, by simp [intOf]; omega⟩
        · go_wp2_with (go_at_call 17; refine (HCK.out w0 HB2.out).mono ?_; rintro e w3 ⟨rfl, b3⟩)
          go_ret
          exact ⟨rfl, (HB.out.trans (HB2.out.mono HH)).trans (b3.mono (Nat.le_trans HH HB2.out.size))⟩
end Go.Proofs.Ytjmkhhmibkiijaa
