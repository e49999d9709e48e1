/-
  medium.Arrive and the document's Arrive: what both tell. What is asked: what their heads say.
-/
import Derived.Test.YtjmkhhmibkiijaaRD
import Derived.Test.YtjmkhhmibkiijaaM0
namespace Go.Proofs.Ytjmkhhmibkiijaa
open Go Go.RowKit

/-- When it is heard. -/
def arrB (x : Ar) (to : Int) (rs : List Ro) : Bool := (mayA x && delB (rs.length : Int) rs) && ((decide (x.fr < (rs.length : Int)) && decide (0 ≤ to)) && (decide (to < (rs.length : Int)) && !decide (to = x.fr)))
def arrZ (x : Ar) (to : Int) (rs : List Ro) : Int := zth (rth rs x.fr.toNat).zs to.toNat
def arr (x : Ar) (to : Int) (rs : List Ro) : Int × Int × Int :=
  if arrB x to rs then (if 1152921504606846976 < x.en + arrZ x to rs then (0, 0, 2) else (x.sa + arrZ x to rs, x.en + arrZ x to rs, 0)) else (0, 0, 1)
def RetT (w : World) (t : Int × Int × Int) (e : Ending) (w' : World) : Prop := e = .returned (.tuple #[.int .i64 t.1, .int .i64 t.2.1, .int .i64 t.2.2]) ∧ Below w.heap.size w w'
theorem arr_no {x : Ar} {to : Int} {rs : List Ro} (h : arrB x to rs = false) : arr x to rs = (0, 0, 1) := by simp [arr, h]
theorem may_parts {x : Ar} (h : mayA x = true) : (0 ≤ x.fr ∧ x.fr < 16) ∧ (0 ≤ x.sa ∧ x.sa < x.en ∧ x.en ≤ 1152921504606846976) := by
  unfold mayA timeB at h; simp at h; omega
theorem del_parts {rs : List Ro} (h : delB (rs.length : Int) rs = true) : 1 ≤ rs.length ∧ rs.length ≤ 16 ∧ ∀ i, i < rs.length → (rth rs i).n = rs.length ∧ ∀ k, k < rs.length → 0 ≤ zth (rth rs i).zs k ∧ zth (rth rs i).zs k ≤ 1099511627776 := by
  unfold delB at h
  simp at h
  obtain ⟨⟨h1, h2⟩, h3⟩ := h
  refine ⟨by omega, by omega, fun i hi => ?_⟩
  have := anyB_false h3 hi
  unfold rowW at this
  simp at this
  refine ⟨this.1, fun k hk => ?_⟩
  have h4 := anyB_false this.2 hk
  unfold inW mb at h4
  split at h4 <;> simp at h4 <;> omega
set_option maxRecDepth 100000 in
set_option maxHeartbeats 4000000 in
theorem arrive_any (x : Ar) (to : Int) (A : Option Addr) (m c B : Nat) (rs : List Ro) (w : World) (ha : Mx w B A m rs) (hB : B ≤ w.heap.size) (hm : m ≤ 9223372036854775807) :
    Calls Try.prog 10 #[itv x, .int .i64 to, .slice A m c] w (RetT w (arr x to rs)) := by
  have HA := hid ha
  have HL := hid ha.len
  have HMM := hid hm
  have HK2 : Hid (∀ w' : World, Calls Try.prog 17 #[.slice (some ⟨w'.heap.size, 0, none⟩) 1 1] (w'.alloc (.cells (enc x).toArray 25)) fun e w'' => e = .returned (.int .i64 (okE [x])) ∧ Below w'.heap.size w' w'') :=
    hid fun w' => (check_any _ 1 1 (w'.heap.size + 1) [x] _ (row_one w' x) (by simp) (by omega)).mono fun e w'' ⟨he, hb⟩ => ⟨he, ((Below.refl _ _).alloc (Nat.le_refl _) _).trans (hb.mono (by simp))⟩
  have HB' : Hid (arrB x to rs = ((mayA x && delB (m : Int) rs) && ((decide (x.fr < (m : Int)) && decide (0 ≤ to)) && (decide (to < (m : Int)) && !decide (to = x.fr))))) := hid (by unfold arrB; rw [HL.out])
  have HNO : Hid (arrB x to rs = false → arr x to rs = (0, 0, 1)) := hid arr_no
  have HDP : Hid (delB (m : Int) rs = true → 1 ≤ m ∧ m ≤ 16 ∧ ∀ i, i < m → (rth rs i).n = m ∧ ∀ k, k < m → 0 ≤ zth (rth rs i).zs k ∧ zth (rth rs i).zs k ≤ 1099511627776) := hid (by have := @del_parts rs; rw [HL.out] at this; exact this)
  clear ha hm
  cases h1 : mayA x with
  | false =>
    have HR := hid (HNO.out (by rw [HB'.out, h1]; rfl))
    rw [okE_no (show okA [x] = false by rw [okA_one]; exact h1)] at HK2
    clear h1 HNO HB' HDP
    rw [HR.out]
    go_enter Try.func10, Try.ntmps10
    go_wp2_with (first
        | (go_at_call 17; refine (HK2.out w1).mono ?_; rintro e w3 ⟨rfl, b3⟩; have B3 : Hid (Below w.heap.size w w3) := hid (b1.trans (b3.mono b1.size)); have v3 := v1.below b3 v1.lt)
        | (refine wpList_bs (x := x) rfl (.tmp 13) rfl rfl ?_)
        | (refine wpList_lda (x := x) rfl (.tmp 3) rfl rfl v1 ?_)
        | (refine wpList_boxa (x := x) rfl (.tmp 0) rfl rfl ?_; intro w1 v1 b1 s1; have hB1 : B ≤ w1.heap.size := Nat.le_trans hB b1.size))
    go_ret3
    exact ⟨rfl, B3.out⟩
  | true =>
    obtain ⟨⟨f1, f2⟩, s1, s2, s3⟩ := may_parts h1
    rw [okE_one (show okA [x] = true by rw [okA_one]; exact h1)] at HK2
    cases h2 : delB (m : Int) rs with
    | false =>
      have HR := hid (HNO.out (by rw [HB'.out, h2]; simp))
      have HDE : Hid (delE (m : Int) rs = 1) := hid (by unfold delE; rw [h2]; rfl)
      clear h1 h2 HNO HB' HDP f1 f2 s1 s2 s3
      rw [HR.out]
      go_enter Try.func10, Try.ntmps10
      go_wp2_with (first
        | (go_at_call 12; refine (delays_any _ m c B (m : Int) rs w3 (HA.out.below (B3.out.mono hB)) (Nat.le_trans hB B3.out.size) HMM.out).mono ?_; rintro e w4 ⟨rfl, b4⟩; rw [HDE.out]; have B4 : Hid (Below w.heap.size w w4) := hid (B3.out.trans (b4.mono B3.out.size)); have v4 := v3.below b4 v3.lt; clear v4)
        | (go_at_call 17; refine (HK2.out w1).mono ?_; rintro e w3 ⟨rfl, b3⟩; have B3 : Hid (Below w.heap.size w w3) := hid (b1.trans (b3.mono b1.size)); have v3 := v1.below b3 v1.lt)
        | (refine wpList_bs (x := x) rfl (.tmp 13) rfl rfl ?_)
        | (refine wpList_lda (x := x) rfl (.tmp 3) rfl rfl v1 ?_)
        | (refine wpList_boxa (x := x) rfl (.tmp 0) rfl rfl ?_; intro w1 v1 b1 s1; have hB1 : B ≤ w1.heap.size := Nat.le_trans hB b1.size))
      go_ret3
      exact ⟨rfl, B4.out⟩
    | true =>
      have HDE : Hid (delE (m : Int) rs = 0) := hid (by unfold delE; rw [h2]; rfl)
      obtain ⟨m1, m2, hrow⟩ := HDP.out h2
      have HROW := hid hrow
      have hbb : arrB x to rs = ((decide (x.fr < (m : Int)) && decide (0 ≤ to)) && (decide (to < (m : Int)) && !decide (to = x.fr))) := by rw [HB'.out, h1, h2]; rfl
      clear h1 h2 hrow HB' HDP
      by_cases q1 : (m : Int) ≤ x.fr
      · have d1 : decide ((m : Int) ≤ x.fr) = true := decide_eq_true q1
        have HR := hid (HNO.out (by rw [hbb, decide_eq_false (by omega : ¬ x.fr < (m : Int))]; simp))
        clear q1 f1 f2 s1 s2 s3 hbb HNO
        rw [HR.out]
        go_enter Try.func10, Try.ntmps10
        go_wp2_with (first
        | (go_at_call 12; refine (delays_any _ m c B (m : Int) rs w3 (HA.out.below (B3.out.mono hB)) (Nat.le_trans hB B3.out.size) HMM.out).mono ?_; rintro e w4 ⟨rfl, b4⟩; rw [HDE.out]; have B4 : Hid (Below w.heap.size w w4) := hid (B3.out.trans (b4.mono B3.out.size)); have v4 := v3.below b4 v3.lt; have f1c := v4.c1; have V4 := hid v4; clear v1 v3 v4)
        | (go_at_call 17; refine (HK2.out w1).mono ?_; rintro e w3 ⟨rfl, b3⟩; have B3 : Hid (Below w.heap.size w w3) := hid (b1.trans (b3.mono b1.size)); have v3 := v1.below b3 v1.lt)
        | (refine wpList_bs (x := x) rfl (.tmp 13) rfl rfl ?_)
        | (refine wpList_lda (x := x) rfl (.tmp 3) rfl rfl v1 ?_)
        | (refine wpList_boxa (x := x) rfl (.tmp 0) rfl rfl ?_; intro w1 v1 b1 s1; have hB1 : B ≤ w1.heap.size := Nat.le_trans hB b1.size))
        go_ret3
        exact ⟨rfl, B4.out⟩
      have d1 : decide ((m : Int) ≤ x.fr) = false := decide_eq_false q1
      by_cases q2 : to < 0
      · have d2 : decide (to < 0) = true := decide_eq_true q2
        have HR := hid (HNO.out (by rw [hbb, decide_eq_false (by omega : ¬ 0 ≤ to)]; simp))
        clear q1 q2 f1 f2 s1 s2 s3 hbb HNO
        rw [HR.out]
        go_enter Try.func10, Try.ntmps10
        go_wp2_with (first
        | (go_at_call 12; refine (delays_any _ m c B (m : Int) rs w3 (HA.out.below (B3.out.mono hB)) (Nat.le_trans hB B3.out.size) HMM.out).mono ?_; rintro e w4 ⟨rfl, b4⟩; rw [HDE.out]; have B4 : Hid (Below w.heap.size w w4) := hid (B3.out.trans (b4.mono B3.out.size)); have v4 := v3.below b4 v3.lt; have f1c := v4.c1; have V4 := hid v4; clear v1 v3 v4)
        | (go_at_call 17; refine (HK2.out w1).mono ?_; rintro e w3 ⟨rfl, b3⟩; have B3 : Hid (Below w.heap.size w w3) := hid (b1.trans (b3.mono b1.size)); have v3 := v1.below b3 v1.lt)
        | (refine wpList_bs (x := x) rfl (.tmp 13) rfl rfl ?_)
        | (refine wpList_lda (x := x) rfl (.tmp 3) rfl rfl v1 ?_)
        | (refine wpList_boxa (x := x) rfl (.tmp 0) rfl rfl ?_; intro w1 v1 b1 s1; have hB1 : B ≤ w1.heap.size := Nat.le_trans hB b1.size))
        go_ret3
        exact ⟨rfl, B4.out⟩
      have d2 : decide (to < 0) = false := decide_eq_false q2
      by_cases q3 : (m : Int) ≤ to
      · have d3 : decide ((m : Int) ≤ to) = true := decide_eq_true q3
        have HR := hid (HNO.out (by rw [hbb, decide_eq_false (by omega : ¬ to < (m : Int))]; simp))
        clear q1 q2 q3 f1 f2 s1 s2 s3 hbb HNO
        rw [HR.out]
        go_enter Try.func10, Try.ntmps10
        go_wp2_with (first
        | (go_at_call 12; refine (delays_any _ m c B (m : Int) rs w3 (HA.out.below (B3.out.mono hB)) (Nat.le_trans hB B3.out.size) HMM.out).mono ?_; rintro e w4 ⟨rfl, b4⟩; rw [HDE.out]; have B4 : Hid (Below w.heap.size w w4) := hid (B3.out.trans (b4.mono B3.out.size)); have v4 := v3.below b4 v3.lt; have f1c := v4.c1; have V4 := hid v4; clear v1 v3 v4)
        | (go_at_call 17; refine (HK2.out w1).mono ?_; rintro e w3 ⟨rfl, b3⟩; have B3 : Hid (Below w.heap.size w w3) := hid (b1.trans (b3.mono b1.size)); have v3 := v1.below b3 v1.lt)
        | (refine wpList_bs (x := x) rfl (.tmp 13) rfl rfl ?_)
        | (refine wpList_lda (x := x) rfl (.tmp 3) rfl rfl v1 ?_)
        | (refine wpList_boxa (x := x) rfl (.tmp 0) rfl rfl ?_; intro w1 v1 b1 s1; have hB1 : B ≤ w1.heap.size := Nat.le_trans hB b1.size))
        go_ret3
        exact ⟨rfl, B4.out⟩
      have d3 : decide ((m : Int) ≤ to) = false := decide_eq_false q3
      by_cases q4 : to = x.fr
      · have d4 : (to == x.fr) = true := by simp [q4]
        have HR := hid (HNO.out (by rw [hbb, decide_eq_true q4]; simp))
        clear q1 q2 q3 q4 f1 f2 s1 s2 s3 hbb HNO
        rw [HR.out]
        go_enter Try.func10, Try.ntmps10
        go_wp2_with (first
        | (go_at_call 12; refine (delays_any _ m c B (m : Int) rs w3 (HA.out.below (B3.out.mono hB)) (Nat.le_trans hB B3.out.size) HMM.out).mono ?_; rintro e w4 ⟨rfl, b4⟩; rw [HDE.out]; have B4 : Hid (Below w.heap.size w w4) := hid (B3.out.trans (b4.mono B3.out.size)); have v4 := v3.below b4 v3.lt; have f1c := v4.c1; have V4 := hid v4; clear v1 v3 v4)
        | (go_at_call 17; refine (HK2.out w1).mono ?_; rintro e w3 ⟨rfl, b3⟩; have B3 : Hid (Below w.heap.size w w3) := hid (b1.trans (b3.mono b1.size)); have v3 := v1.below b3 v1.lt)
        | (refine wpList_bs (x := x) rfl (.tmp 13) rfl rfl ?_)
        | (refine wpList_lda (x := x) rfl (.tmp 3) rfl rfl v1 ?_)
        | (refine wpList_boxa (x := x) rfl (.tmp 0) rfl rfl ?_; intro w1 v1 b1 s1; have hB1 : B ≤ w1.heap.size := Nat.le_trans hB b1.size))
        go_ret3
        exact ⟨rfl, B4.out⟩
      have d4 : (to == x.fr) = false := by simp [q4]
      have hyes : arrB x to rs = true := by
        rw [hbb, decide_eq_true (by omega : x.fr < (m : Int)), decide_eq_true (by omega : 0 ≤ to), decide_eq_true (by omega : to < (m : Int)), decide_eq_false q4]; rfl
      have ht1 : 0 ≤ to := by omega
      have ht2 : to < (m : Int) := by omega
      have hf2 : x.fr < (m : Int) := by omega
      obtain ⟨hn, hz⟩ := HROW.out x.fr.toNat (by omega)
      have hz1 := hz to.toNat (by omega)
      obtain ⟨b, o, rfl, hb, hc⟩ := HA.out.all (by omega)
      have hr := hc x.fr.toNat (by omega)
      have HRR : Hid (Row w B (rth rs x.fr.toNat).A (rth rs x.fr.toNat).n (sv (rth rs x.fr.toNat).zs)) := hid (HA.out.2 _ (rth_mem (by rw [HL.out]; omega)))
      obtain ⟨b2, o2, e2, hb2, hzz⟩ := zrow_all HRR.out (by rw [hn]; omega)
      have hzc := hzz to.toNat (by rw [hn]; omega)
      rw [e2, hn] at hr
      have HRC : Hid (∀ w', Below w.heap.size w w' → w'.cell? ⟨b, o + x.fr.toNat, none⟩ = some (.slice (some ⟨b2, o2, none⟩) m (rth rs x.fr.toNat).c)) := hid fun w' h => ((h.mono hB).cell hb).trans hr
      have HZC : Hid (∀ w', Below w.heap.size w w' → w'.cell? ⟨b2, o2 + to.toNat, none⟩ = some (.int .i64 (arrZ x to rs))) := hid fun w' h => ((h.mono hB).cell hb2).trans hzc
      have hz2 : 0 ≤ arrZ x to rs ∧ arrZ x to rs ≤ 1099511627776 := hz1
      have HAR : Hid (arr x to rs = if 1152921504606846976 < x.en + arrZ x to rs then (0, 0, 2) else (x.sa + arrZ x to rs, x.en + arrZ x to rs, 0)) := hid (by unfold arr; rw [hyes]; rfl)
      clear hz hz1 hc hr hzz hzc hb hb2 hbb hyes HRR HROW q1 q2 q3 q4 HNO
      generalize arrZ x to rs = z at *
      generalize arr x to rs = T at *
      generalize (rth rs x.fr.toNat).c = c2 at *
      obtain ⟨z1, z2⟩ := hz2
      by_cases u1 : 1152921504606846976 < x.sa + z
      · have hT : T = (0, 0, 2) := by rw [HAR.out, if_pos (by omega)]
        have H1 : Hid (∀ w', Calls Try.prog 22 #[.int .i64 x.sa, .int .i64 z] w' fun e w'' => e = .returned (.tuple #[.int .i64 0, .int .i64 2]) ∧ Below w'.heap.size w' w'') := hid fun w' => add_over _ _ _ (by omega) (by omega) (by omega) (by omega) (.inr u1)
        have H2 : Hid (∀ w', Calls Try.prog 22 #[.int .i64 x.en, .int .i64 z] w' fun e w'' => e = .returned (.tuple #[.int .i64 0, .int .i64 2]) ∧ Below w'.heap.size w' w'') := hid fun w' => add_over _ _ _ (by omega) (by omega) (by omega) (by omega) (.inr (by omega))
        subst hT
        clear HAR u1 z1 z2 s1 s2 s3
        go_enter Try.func10, Try.ntmps10
        go_wp2_with (first
        | (go_at_call 22; refine (H1.out w4).mono ?_; rintro e w5 ⟨rfl, b5⟩; have B5 : Hid (Below w.heap.size w w5) := hid (B4.out.trans (b5.mono B4.out.size)); have v5 := V4.out.below b5 V4.out.lt; have g4c := v5.c4; clear f1c f3c f4c l1 l2 v5)
        | (go_at_call 12; refine (delays_any _ m c B (m : Int) rs w3 (HA.out.below (B3.out.mono hB)) (Nat.le_trans hB B3.out.size) HMM.out).mono ?_; rintro e w4 ⟨rfl, b4⟩; rw [HDE.out]; have B4 : Hid (Below w.heap.size w w4) := hid (B3.out.trans (b4.mono B3.out.size)); have v4 := v3.below b4 v3.lt; have f1c := v4.c1; have f3c := v4.c3; have f4c := v4.c4; have l1 := HRC.out _ B4.out; have l2 := HZC.out _ B4.out; have V4 := hid v4; clear v1 v3 v4)
        | (go_at_call 17; refine (HK2.out w1).mono ?_; rintro e w3 ⟨rfl, b3⟩; have B3 : Hid (Below w.heap.size w w3) := hid (b1.trans (b3.mono b1.size)); have v3 := v1.below b3 v1.lt)
        | (refine wpList_bs (x := x) rfl (.tmp 13) rfl rfl ?_)
        | (refine wpList_lda (x := x) rfl (.tmp 3) rfl rfl v1 ?_)
        | (refine wpList_boxa (x := x) rfl (.tmp 0) rfl rfl ?_; intro w1 v1 b1 s1; have hB1 : B ≤ w1.heap.size := Nat.le_trans hB b1.size))
        go_ret3
        exact ⟨rfl, B5.out⟩
      · have H1 : Hid (∀ w', Calls Try.prog 22 #[.int .i64 x.sa, .int .i64 z] w' fun e w'' => e = .returned (.tuple #[.int .i64 (x.sa + z), .int .i64 0]) ∧ Below w'.heap.size w' w'') := hid fun w' => add_ok _ _ _ (by omega) (by omega) (by omega) (by omega) (by omega) (by omega)
        by_cases u2 : 1152921504606846976 < x.en + z
        · have hT : T = (0, 0, 2) := by rw [HAR.out, if_pos u2]
          have H2 : Hid (∀ w', Calls Try.prog 22 #[.int .i64 x.en, .int .i64 z] w' fun e w'' => e = .returned (.tuple #[.int .i64 0, .int .i64 2]) ∧ Below w'.heap.size w' w'') := hid fun w' => add_over _ _ _ (by omega) (by omega) (by omega) (by omega) (.inr u2)
          subst hT
          clear HAR u1 u2 z1 z2 s1 s2 s3
          generalize x.sa + z = sz at *
          go_enter Try.func10, Try.ntmps10
          go_wp2_with (first
        | (go_at_call 22; refine (H2.out w5).mono ?_; rintro e w6 ⟨rfl, b6⟩; have B6 : Hid (Below w.heap.size w w6) := hid (B5.out.trans (b6.mono B5.out.size)))
        | (go_at_call 22; refine (H1.out w4).mono ?_; rintro e w5 ⟨rfl, b5⟩; have B5 : Hid (Below w.heap.size w w5) := hid (B4.out.trans (b5.mono B4.out.size)); have v5 := V4.out.below b5 V4.out.lt; have g4c := v5.c4; clear f1c f3c f4c l1 l2 v5)
        | (go_at_call 12; refine (delays_any _ m c B (m : Int) rs w3 (HA.out.below (B3.out.mono hB)) (Nat.le_trans hB B3.out.size) HMM.out).mono ?_; rintro e w4 ⟨rfl, b4⟩; rw [HDE.out]; have B4 : Hid (Below w.heap.size w w4) := hid (B3.out.trans (b4.mono B3.out.size)); have v4 := v3.below b4 v3.lt; have f1c := v4.c1; have f3c := v4.c3; have f4c := v4.c4; have l1 := HRC.out _ B4.out; have l2 := HZC.out _ B4.out; have V4 := hid v4; clear v1 v3 v4)
        | (go_at_call 17; refine (HK2.out w1).mono ?_; rintro e w3 ⟨rfl, b3⟩; have B3 : Hid (Below w.heap.size w w3) := hid (b1.trans (b3.mono b1.size)); have v3 := v1.below b3 v1.lt)
        | (refine wpList_bs (x := x) rfl (.tmp 13) rfl rfl ?_)
        | (refine wpList_lda (x := x) rfl (.tmp 3) rfl rfl v1 ?_)
        | (refine wpList_boxa (x := x) rfl (.tmp 0) rfl rfl ?_; intro w1 v1 b1 s1; have hB1 : B ≤ w1.heap.size := Nat.le_trans hB b1.size))
          go_ret3
          exact ⟨rfl, B6.out⟩
        · have hT : T = (x.sa + z, x.en + z, 0) := by rw [HAR.out, if_neg u2]
          have H2 : Hid (∀ w', Calls Try.prog 22 #[.int .i64 x.en, .int .i64 z] w' fun e w'' => e = .returned (.tuple #[.int .i64 (x.en + z), .int .i64 0]) ∧ Below w'.heap.size w' w'') := hid fun w' => add_ok _ _ _ (by omega) (by omega) (by omega) (by omega) (by omega) (by omega)
          subst hT
          clear HAR u1 u2 z1 z2 s1 s2 s3
          generalize x.sa + z = sz at *
          generalize x.en + z = ez at *
          go_enter Try.func10, Try.ntmps10
          go_wp2_with (first
        | (go_at_call 22; refine (H2.out w5).mono ?_; rintro e w6 ⟨rfl, b6⟩; have B6 : Hid (Below w.heap.size w w6) := hid (B5.out.trans (b6.mono B5.out.size)))
        | (go_at_call 22; refine (H1.out w4).mono ?_; rintro e w5 ⟨rfl, b5⟩; have B5 : Hid (Below w.heap.size w w5) := hid (B4.out.trans (b5.mono B4.out.size)); have v5 := V4.out.below b5 V4.out.lt; have g4c := v5.c4; clear f1c f3c f4c l1 l2 v5)
        | (go_at_call 12; refine (delays_any _ m c B (m : Int) rs w3 (HA.out.below (B3.out.mono hB)) (Nat.le_trans hB B3.out.size) HMM.out).mono ?_; rintro e w4 ⟨rfl, b4⟩; rw [HDE.out]; have B4 : Hid (Below w.heap.size w w4) := hid (B3.out.trans (b4.mono B3.out.size)); have v4 := v3.below b4 v3.lt; have f1c := v4.c1; have f3c := v4.c3; have f4c := v4.c4; have l1 := HRC.out _ B4.out; have l2 := HZC.out _ B4.out; have V4 := hid v4; clear v1 v3 v4)
        | (go_at_call 17; refine (HK2.out w1).mono ?_; rintro e w3 ⟨rfl, b3⟩; have B3 : Hid (Below w.heap.size w w3) := hid (b1.trans (b3.mono b1.size)); have v3 := v1.below b3 v1.lt)
        | (refine wpList_bs (x := x) rfl (.tmp 13) rfl rfl ?_)
        | (refine wpList_lda (x := x) rfl (.tmp 3) rfl rfl v1 ?_)
        | (refine wpList_boxa (x := x) rfl (.tmp 0) rfl rfl ?_; intro w1 v1 b1 s1; have hB1 : B ≤ w1.heap.size := Nat.le_trans hB b1.size))
          go_ret3
          exact ⟨rfl, B6.out⟩
set_option maxRecDepth 100000 in
set_option maxHeartbeats 4000000 in
theorem rarrive_any (x : Ar) (to : Int) (A : Option Addr) (m c B : Nat) (rs : List Ro) (w : World) (ha : Mx w B A m rs) (hB : B ≤ w.heap.size) (hm : m ≤ 9223372036854775807) :
    Calls Try.prog 11 #[itv x, .int .i64 to, .slice A m c] w (RetT w (arr x to rs)) := by
  have HA := hid ha
  have HL := hid ha.len
  have HMM := hid hm
  have HK2 : Hid (∀ w' : World, Calls Try.prog 23 #[itv x] w' fun e w'' => e = .returned (.bool (mayA x)) ∧ Below w'.heap.size w' w'') := hid fun w' => rmay_air x w'
  have HB' : Hid (arrB x to rs = ((mayA x && delB (m : Int) rs) && ((decide (x.fr < (m : Int)) && decide (0 ≤ to)) && (decide (to < (m : Int)) && !decide (to = x.fr))))) := hid (by unfold arrB; rw [HL.out])
  have HNO : Hid (arrB x to rs = false → arr x to rs = (0, 0, 1)) := hid arr_no
  have HDP : Hid (delB (m : Int) rs = true → 1 ≤ m ∧ m ≤ 16 ∧ ∀ i, i < m → (rth rs i).n = m ∧ ∀ k, k < m → 0 ≤ zth (rth rs i).zs k ∧ zth (rth rs i).zs k ≤ 1099511627776) := hid (by have := @del_parts rs; rw [HL.out] at this; exact this)
  clear ha hm
  cases h1 : mayA x with
  | false =>
    have HR := hid (HNO.out (by rw [HB'.out, h1]; rfl))
    rw [h1] at HK2
    clear h1 HNO HB' HDP
    rw [HR.out]
    go_enter Try.func11, Try.ntmps11
    go_wp2_with (first
        | (go_at_call 23; refine (HK2.out w1).mono ?_; rintro e w3 ⟨rfl, b3⟩; have B3 : Hid (Below w.heap.size w w3) := hid (b1.trans (b3.mono b1.size)); have v3 := v1.below b3 v1.lt)
        | (refine wpList_lda (x := x) rfl (.tmp 3) rfl rfl v1 ?_)
        | (refine wpList_boxa (x := x) rfl (.tmp 0) rfl rfl ?_; intro w1 v1 b1 s1; have hB1 : B ≤ w1.heap.size := Nat.le_trans hB b1.size))
    go_ret3
    exact ⟨rfl, B3.out⟩
  | true =>
    obtain ⟨⟨f1, f2⟩, s1, s2, s3⟩ := may_parts h1
    rw [h1] at HK2
    cases h2 : delB (m : Int) rs with
    | false =>
      have HR := hid (HNO.out (by rw [HB'.out, h2]; simp))
      have HDE : Hid (delE (m : Int) rs = 1) := hid (by unfold delE; rw [h2]; rfl)
      clear h1 h2 HNO HB' HDP f1 f2 s1 s2 s3
      rw [HR.out]
      go_enter Try.func11, Try.ntmps11
      go_wp2_with (first
        | (go_at_call 13; refine (rdelays_any _ m c B (m : Int) rs w3 (HA.out.below (B3.out.mono hB)) (Nat.le_trans hB B3.out.size) HMM.out).mono ?_; rintro e w4 ⟨rfl, b4⟩; rw [HDE.out]; have B4 : Hid (Below w.heap.size w w4) := hid (B3.out.trans (b4.mono B3.out.size)); have v4 := v3.below b4 v3.lt; clear v4)
        | (go_at_call 23; refine (HK2.out w1).mono ?_; rintro e w3 ⟨rfl, b3⟩; have B3 : Hid (Below w.heap.size w w3) := hid (b1.trans (b3.mono b1.size)); have v3 := v1.below b3 v1.lt)
        | (refine wpList_lda (x := x) rfl (.tmp 3) rfl rfl v1 ?_)
        | (refine wpList_boxa (x := x) rfl (.tmp 0) rfl rfl ?_; intro w1 v1 b1 s1; have hB1 : B ≤ w1.heap.size := Nat.le_trans hB b1.size))
      go_ret3
      exact ⟨rfl, B4.out⟩
    | true =>
      have HDE : Hid (delE (m : Int) rs = 0) := hid (by unfold delE; rw [h2]; rfl)
      obtain ⟨m1, m2, hrow⟩ := HDP.out h2
      have HROW := hid hrow
      have hbb : arrB x to rs = ((decide (x.fr < (m : Int)) && decide (0 ≤ to)) && (decide (to < (m : Int)) && !decide (to = x.fr))) := by rw [HB'.out, h1, h2]; rfl
      clear h1 h2 hrow HB' HDP
      by_cases q1 : (m : Int) ≤ x.fr
      · have d1 : decide ((m : Int) ≤ x.fr) = true := decide_eq_true q1
        have HR := hid (HNO.out (by rw [hbb, decide_eq_false (by omega : ¬ x.fr < (m : Int))]; simp))
        clear q1 f1 f2 s1 s2 s3 hbb HNO
        rw [HR.out]
        go_enter Try.func11, Try.ntmps11
        go_wp2_with (first
        | (go_at_call 13; refine (rdelays_any _ m c B (m : Int) rs w3 (HA.out.below (B3.out.mono hB)) (Nat.le_trans hB B3.out.size) HMM.out).mono ?_; rintro e w4 ⟨rfl, b4⟩; rw [HDE.out]; have B4 : Hid (Below w.heap.size w w4) := hid (B3.out.trans (b4.mono B3.out.size)); have v4 := v3.below b4 v3.lt; have f1c := v4.c1; have V4 := hid v4; clear v1 v3 v4)
        | (go_at_call 23; refine (HK2.out w1).mono ?_; rintro e w3 ⟨rfl, b3⟩; have B3 : Hid (Below w.heap.size w w3) := hid (b1.trans (b3.mono b1.size)); have v3 := v1.below b3 v1.lt)
        | (refine wpList_lda (x := x) rfl (.tmp 3) rfl rfl v1 ?_)
        | (refine wpList_boxa (x := x) rfl (.tmp 0) rfl rfl ?_; intro w1 v1 b1 s1; have hB1 : B ≤ w1.heap.size := Nat.le_trans hB b1.size))
        go_ret3
        exact ⟨rfl, B4.out⟩
      have d1 : decide ((m : Int) ≤ x.fr) = false := decide_eq_false q1
      by_cases q2 : to < 0
      · have d2 : decide (to < 0) = true := decide_eq_true q2
        have HR := hid (HNO.out (by rw [hbb, decide_eq_false (by omega : ¬ 0 ≤ to)]; simp))
        clear q1 q2 f1 f2 s1 s2 s3 hbb HNO
        rw [HR.out]
        go_enter Try.func11, Try.ntmps11
        go_wp2_with (first
        | (go_at_call 13; refine (rdelays_any _ m c B (m : Int) rs w3 (HA.out.below (B3.out.mono hB)) (Nat.le_trans hB B3.out.size) HMM.out).mono ?_; rintro e w4 ⟨rfl, b4⟩; rw [HDE.out]; have B4 : Hid (Below w.heap.size w w4) := hid (B3.out.trans (b4.mono B3.out.size)); have v4 := v3.below b4 v3.lt; have f1c := v4.c1; have V4 := hid v4; clear v1 v3 v4)
        | (go_at_call 23; refine (HK2.out w1).mono ?_; rintro e w3 ⟨rfl, b3⟩; have B3 : Hid (Below w.heap.size w w3) := hid (b1.trans (b3.mono b1.size)); have v3 := v1.below b3 v1.lt)
        | (refine wpList_lda (x := x) rfl (.tmp 3) rfl rfl v1 ?_)
        | (refine wpList_boxa (x := x) rfl (.tmp 0) rfl rfl ?_; intro w1 v1 b1 s1; have hB1 : B ≤ w1.heap.size := Nat.le_trans hB b1.size))
        go_ret3
        exact ⟨rfl, B4.out⟩
      have d2 : decide (to < 0) = false := decide_eq_false q2
      by_cases q3 : (m : Int) ≤ to
      · have d3 : decide ((m : Int) ≤ to) = true := decide_eq_true q3
        have HR := hid (HNO.out (by rw [hbb, decide_eq_false (by omega : ¬ to < (m : Int))]; simp))
        clear q1 q2 q3 f1 f2 s1 s2 s3 hbb HNO
        rw [HR.out]
        go_enter Try.func11, Try.ntmps11
        go_wp2_with (first
        | (go_at_call 13; refine (rdelays_any _ m c B (m : Int) rs w3 (HA.out.below (B3.out.mono hB)) (Nat.le_trans hB B3.out.size) HMM.out).mono ?_; rintro e w4 ⟨rfl, b4⟩; rw [HDE.out]; have B4 : Hid (Below w.heap.size w w4) := hid (B3.out.trans (b4.mono B3.out.size)); have v4 := v3.below b4 v3.lt; have f1c := v4.c1; have V4 := hid v4; clear v1 v3 v4)
        | (go_at_call 23; refine (HK2.out w1).mono ?_; rintro e w3 ⟨rfl, b3⟩; have B3 : Hid (Below w.heap.size w w3) := hid (b1.trans (b3.mono b1.size)); have v3 := v1.below b3 v1.lt)
        | (refine wpList_lda (x := x) rfl (.tmp 3) rfl rfl v1 ?_)
        | (refine wpList_boxa (x := x) rfl (.tmp 0) rfl rfl ?_; intro w1 v1 b1 s1; have hB1 : B ≤ w1.heap.size := Nat.le_trans hB b1.size))
        go_ret3
        exact ⟨rfl, B4.out⟩
      have d3 : decide ((m : Int) ≤ to) = false := decide_eq_false q3
      by_cases q4 : to = x.fr
      · have d4 : (to == x.fr) = true := by simp [q4]
        have HR := hid (HNO.out (by rw [hbb, decide_eq_true q4]; simp))
        clear q1 q2 q3 q4 f1 f2 s1 s2 s3 hbb HNO
        rw [HR.out]
        go_enter Try.func11, Try.ntmps11
        go_wp2_with (first
        | (go_at_call 13; refine (rdelays_any _ m c B (m : Int) rs w3 (HA.out.below (B3.out.mono hB)) (Nat.le_trans hB B3.out.size) HMM.out).mono ?_; rintro e w4 ⟨rfl, b4⟩; rw [HDE.out]; have B4 : Hid (Below w.heap.size w w4) := hid (B3.out.trans (b4.mono B3.out.size)); have v4 := v3.below b4 v3.lt; have f1c := v4.c1; have V4 := hid v4; clear v1 v3 v4)
        | (go_at_call 23; refine (HK2.out w1).mono ?_; rintro e w3 ⟨rfl, b3⟩; have B3 : Hid (Below w.heap.size w w3) := hid (b1.trans (b3.mono b1.size)); have v3 := v1.below b3 v1.lt)
        | (refine wpList_lda (x := x) rfl (.tmp 3) rfl rfl v1 ?_)
        | (refine wpList_boxa (x := x) rfl (.tmp 0) rfl rfl ?_; intro w1 v1 b1 s1; have hB1 : B ≤ w1.heap.size := Nat.le_trans hB b1.size))
        go_ret3
        exact ⟨rfl, B4.out⟩
      have d4 : (to == x.fr) = false := by simp [q4]
      have hyes : arrB x to rs = true := by
        rw [hbb, decide_eq_true (by omega : x.fr < (m : Int)), decide_eq_true (by omega : 0 ≤ to), decide_eq_true (by omega : to < (m : Int)), decide_eq_false q4]; rfl
      have ht1 : 0 ≤ to := by omega
      have ht2 : to < (m : Int) := by omega
      have hf2 : x.fr < (m : Int) := by omega
      obtain ⟨hn, hz⟩ := HROW.out x.fr.toNat (by omega)
      have hz1 := hz to.toNat (by omega)
      obtain ⟨b, o, rfl, hb, hc⟩ := HA.out.all (by omega)
      have hr := hc x.fr.toNat (by omega)
      have HRR : Hid (Row w B (rth rs x.fr.toNat).A (rth rs x.fr.toNat).n (sv (rth rs x.fr.toNat).zs)) := hid (HA.out.2 _ (rth_mem (by rw [HL.out]; omega)))
      obtain ⟨b2, o2, e2, hb2, hzz⟩ := zrow_all HRR.out (by rw [hn]; omega)
      have hzc := hzz to.toNat (by rw [hn]; omega)
      rw [e2, hn] at hr
      have HRC : Hid (∀ w', Below w.heap.size w w' → w'.cell? ⟨b, o + x.fr.toNat, none⟩ = some (.slice (some ⟨b2, o2, none⟩) m (rth rs x.fr.toNat).c)) := hid fun w' h => ((h.mono hB).cell hb).trans hr
      have HZC : Hid (∀ w', Below w.heap.size w w' → w'.cell? ⟨b2, o2 + to.toNat, none⟩ = some (.int .i64 (arrZ x to rs))) := hid fun w' h => ((h.mono hB).cell hb2).trans hzc
      have hz2 : 0 ≤ arrZ x to rs ∧ arrZ x to rs ≤ 1099511627776 := hz1
      have HAR : Hid (arr x to rs = if 1152921504606846976 < x.en + arrZ x to rs then (0, 0, 2) else (x.sa + arrZ x to rs, x.en + arrZ x to rs, 0)) := hid (by unfold arr; rw [hyes]; rfl)
      clear hz hz1 hc hr hzz hzc hb hb2 hbb hyes HRR HROW q1 q2 q3 q4 HNO
      generalize arrZ x to rs = z at *
      generalize arr x to rs = T at *
      generalize (rth rs x.fr.toNat).c = c2 at *
      obtain ⟨z1, z2⟩ := hz2
      by_cases u1 : 1152921504606846976 < x.sa + z
      · have hT : T = (0, 0, 2) := by rw [HAR.out, if_pos (by omega)]
        have H1 : Hid (∀ w', Calls Try.prog 24 #[.int .i64 x.sa, .int .i64 z] w' fun e w'' => e = .returned (.tuple #[.int .i64 0, .int .i64 2]) ∧ Below w'.heap.size w' w'') := hid fun w' => radd_over _ _ _ (by omega) (by omega) (by omega) (by omega) (.inr u1)
        have H2 : Hid (∀ w', Calls Try.prog 24 #[.int .i64 x.en, .int .i64 z] w' fun e w'' => e = .returned (.tuple #[.int .i64 0, .int .i64 2]) ∧ Below w'.heap.size w' w'') := hid fun w' => radd_over _ _ _ (by omega) (by omega) (by omega) (by omega) (.inr (by omega))
        subst hT
        clear HAR u1 z1 z2 s1 s2 s3
        go_enter Try.func11, Try.ntmps11
        go_wp2_with (first
        | (go_at_call 24; refine (H2.out w5).mono ?_; rintro e w6 ⟨rfl, b6⟩; have B6 : Hid (Below w.heap.size w w6) := hid (B5.out.trans (b6.mono B5.out.size)))
        | (go_at_call 24; refine (H1.out w4).mono ?_; rintro e w5 ⟨rfl, b5⟩; have B5 : Hid (Below w.heap.size w w5) := hid (B4.out.trans (b5.mono B4.out.size)); have v5 := V4.out.below b5 V4.out.lt; have g4c := v5.c4; clear f1c f3c f4c l1 l2 v5)
        | (go_at_call 13; refine (rdelays_any _ m c B (m : Int) rs w3 (HA.out.below (B3.out.mono hB)) (Nat.le_trans hB B3.out.size) HMM.out).mono ?_; rintro e w4 ⟨rfl, b4⟩; rw [HDE.out]; have B4 : Hid (Below w.heap.size w w4) := hid (B3.out.trans (b4.mono B3.out.size)); have v4 := v3.below b4 v3.lt; have f1c := v4.c1; have f3c := v4.c3; have f4c := v4.c4; have l1 := HRC.out _ B4.out; have l2 := HZC.out _ B4.out; have V4 := hid v4; clear v1 v3 v4)
        | (go_at_call 23; refine (HK2.out w1).mono ?_; rintro e w3 ⟨rfl, b3⟩; have B3 : Hid (Below w.heap.size w w3) := hid (b1.trans (b3.mono b1.size)); have v3 := v1.below b3 v1.lt)
        | (refine wpList_lda (x := x) rfl (.tmp 3) rfl rfl v1 ?_)
        | (refine wpList_boxa (x := x) rfl (.tmp 0) rfl rfl ?_; intro w1 v1 b1 s1; have hB1 : B ≤ w1.heap.size := Nat.le_trans hB b1.size))
        go_ret3
        exact ⟨rfl, B6.out⟩
      · have H1 : Hid (∀ w', Calls Try.prog 24 #[.int .i64 x.sa, .int .i64 z] w' fun e w'' => e = .returned (.tuple #[.int .i64 (x.sa + z), .int .i64 0]) ∧ Below w'.heap.size w' w'') := hid fun w' => radd_ok _ _ _ (by omega) (by omega) (by omega) (by omega) (by omega) (by omega)
        by_cases u2 : 1152921504606846976 < x.en + z
        · have hT : T = (0, 0, 2) := by rw [HAR.out, if_pos u2]
          have H2 : Hid (∀ w', Calls Try.prog 24 #[.int .i64 x.en, .int .i64 z] w' fun e w'' => e = .returned (.tuple #[.int .i64 0, .int .i64 2]) ∧ Below w'.heap.size w' w'') := hid fun w' => radd_over _ _ _ (by omega) (by omega) (by omega) (by omega) (.inr u2)
          subst hT
          clear HAR u1 u2 z1 z2 s1 s2 s3
          generalize x.sa + z = sz at *
          go_enter Try.func11, Try.ntmps11
          go_wp2_with (first
        | (go_at_call 24; refine (H2.out w5).mono ?_; rintro e w6 ⟨rfl, b6⟩; have B6 : Hid (Below w.heap.size w w6) := hid (B5.out.trans (b6.mono B5.out.size)))
        | (go_at_call 24; refine (H1.out w4).mono ?_; rintro e w5 ⟨rfl, b5⟩; have B5 : Hid (Below w.heap.size w w5) := hid (B4.out.trans (b5.mono B4.out.size)); have v5 := V4.out.below b5 V4.out.lt; have g4c := v5.c4; clear f1c f3c f4c l1 l2 v5)
        | (go_at_call 13; refine (rdelays_any _ m c B (m : Int) rs w3 (HA.out.below (B3.out.mono hB)) (Nat.le_trans hB B3.out.size) HMM.out).mono ?_; rintro e w4 ⟨rfl, b4⟩; rw [HDE.out]; have B4 : Hid (Below w.heap.size w w4) := hid (B3.out.trans (b4.mono B3.out.size)); have v4 := v3.below b4 v3.lt; have f1c := v4.c1; have f3c := v4.c3; have f4c := v4.c4; have l1 := HRC.out _ B4.out; have l2 := HZC.out _ B4.out; have V4 := hid v4; clear v1 v3 v4)
        | (go_at_call 23; refine (HK2.out w1).mono ?_; rintro e w3 ⟨rfl, b3⟩; have B3 : Hid (Below w.heap.size w w3) := hid (b1.trans (b3.mono b1.size)); have v3 := v1.below b3 v1.lt)
        | (refine wpList_lda (x := x) rfl (.tmp 3) rfl rfl v1 ?_)
        | (refine wpList_boxa (x := x) rfl (.tmp 0) rfl rfl ?_; intro w1 v1 b1 s1; have hB1 : B ≤ w1.heap.size := Nat.le_trans hB b1.size))
          go_ret3
          exact ⟨rfl, B6.out⟩
        · have hT : T = (x.sa + z, x.en + z, 0) := by rw [HAR.out, if_neg u2]
          have H2 : Hid (∀ w', Calls Try.prog 24 #[.int .i64 x.en, .int .i64 z] w' fun e w'' => e = .returned (.tuple #[.int .i64 (x.en + z), .int .i64 0]) ∧ Below w'.heap.size w' w'') := hid fun w' => radd_ok _ _ _ (by omega) (by omega) (by omega) (by omega) (by omega) (by omega)
          subst hT
          clear HAR u1 u2 z1 z2 s1 s2 s3
          generalize x.sa + z = sz at *
          generalize x.en + z = ez at *
          go_enter Try.func11, Try.ntmps11
          go_wp2_with (first
        | (go_at_call 24; refine (H2.out w5).mono ?_; rintro e w6 ⟨rfl, b6⟩; have B6 : Hid (Below w.heap.size w w6) := hid (B5.out.trans (b6.mono B5.out.size)))
        | (go_at_call 24; refine (H1.out w4).mono ?_; rintro e w5 ⟨rfl, b5⟩; have B5 : Hid (Below w.heap.size w w5) := hid (B4.out.trans (b5.mono B4.out.size)); have v5 := V4.out.below b5 V4.out.lt; have g4c := v5.c4; clear f1c f3c f4c l1 l2 v5)
        | (go_at_call 13; refine (rdelays_any _ m c B (m : Int) rs w3 (HA.out.below (B3.out.mono hB)) (Nat.le_trans hB B3.out.size) HMM.out).mono ?_; rintro e w4 ⟨rfl, b4⟩; rw [HDE.out]; have B4 : Hid (Below w.heap.size w w4) := hid (B3.out.trans (b4.mono B3.out.size)); have v4 := v3.below b4 v3.lt; have f1c := v4.c1; have f3c := v4.c3; have f4c := v4.c4; have l1 := HRC.out _ B4.out; have l2 := HZC.out _ B4.out; have V4 := hid v4; clear v1 v3 v4)
        | (go_at_call 23; refine (HK2.out w1).mono ?_; rintro e w3 ⟨rfl, b3⟩; have B3 : Hid (Below w.heap.size w w3) := hid (b1.trans (b3.mono b1.size)); have v3 := v1.below b3 v1.lt)
        | (refine wpList_lda (x := x) rfl (.tmp 3) rfl rfl v1 ?_)
        | (refine wpList_boxa (x := x) rfl (.tmp 0) rfl rfl ?_; intro w1 v1 b1 s1; have hB1 : B ≤ w1.heap.size := Nat.le_trans hB b1.size))
          go_ret3
          exact ⟨rfl, B6.out⟩
end Go.Proofs.Ytjmkhhmibkiijaa
