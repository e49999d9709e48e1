/-
  osc.Ticks: how many ticks there are in a time, or why not, at every oscillator and number; osc.Apart, where both oscillators' ticks take a time.
-/
import Derived.Test.YtmmcnbhhdgnljaaD
namespace Go.Proofs.Ytmmcnbhhdgnljaa
open Go Go.RowKit
set_option maxRecDepth 100000 in
theorem ticks_walk (p d r T n W L : Int) (w : World) (h : Ok ⟨p, d, r⟩) (hT : p * (1000000000 + d) = T) (hn0 : 0 ≤ n) (hn1 : n ≤ 1152921504606846976) (hT1 : 999000000 ≤ T) (hT2 : T ≤ 1001000000000000000)
    (hS : ∀ w : World, Calls Try.prog 15 #[.int .i64 n, .int .i64 1000000000, .int .i64 T] w fun e w' => e = .returned (.tuple #[.int .i64 W, .int .i64 L, .int .i64 0]) ∧ Below w.heap.size w w')
    (hW0 : 0 ≤ W) (hW1 : W ≤ 1152921504606846976) (hL0 : 0 ≤ L) (hL1 : L < T) :
    Calls Try.prog 12 #[ov ⟨p, d, r⟩, .int .i64 n] w fun e w' => e = .returned (.tuple #[.int .i64 (min (W + (L + (999999999 - r)) / T) 1099511627776), .int .i64 0]) ∧ Below w.heap.size w w' := by
  have HK := hid h
  obtain ⟨h1, h2, h3, h4, h5, h6⟩ := h
  simp only at h1 h2 h3 h4 h5 h6
  have HT := hid hT
  have HS := hid hS
  clear hT hS
  go_enter Try.func12, Try.ntmps12
  go_wp2_with (first
    | (refine wpList_boxo (x := ⟨p, d, r⟩) rfl (.tmp 0) rfl rfl ?_; intro w1 v1 b1 s1)
    | (refine wpList_ldo rfl (.tmp 2) rfl rfl v1 ?_)
    | (go_at_call 14; refine (rate_ok p d r T w1 HK.out HT.out).mono ?_; rintro e w3 ⟨rfl, b3⟩; have v3 := v1.keep b3; have B3 : Hid (Below w.heap.size w w3) := hid (b1.trans (b3.mono b1.size)))
    | (go_at_call 17; refine (may_1 _ _ n true (timeB_yes (by omega) (by omega)) _ (by simp)).mono ?_; rintro e w4 ⟨rfl, e4⟩; have b4 : Below w3.heap.size w3 w4 := (by rw [← e4]; exact (Below.refl _ _).alloc (Nat.le_refl _) _); clear e4; have v4 := v3.keep b4; have B4 : Hid (Below w.heap.size w w4) := hid (B3.out.trans (b4.mono B3.out.size)))
    | (go_at_call 15; refine (HS.out w4).mono ?_; rintro e w5 ⟨rfl, b5⟩; have v5 := v4.keep b5; have B5 : Hid (Below w.heap.size w w5) := hid (B4.out.trans (b5.mono B4.out.size)); have c2 : w5.cell? ⟨w.heap.size, 2, none⟩ = some (.int .i64 r) := v5.c2))
  go_ret2
  refine ⟨ret_two ?_ rfl, B5.out⟩
  have q0 : 0 ≤ (L + (999999999 - r)) / T := Int.ediv_nonneg (by omega) (by omega)
  have q1 : (L + (999999999 - r)) / T ≤ L + (999999999 - r) := Int.ediv_le_self _ (by omega)
  have e : wrap64 (W + (L + (999999999 - r)) / T) = W + (L + (999999999 - r)) / T := by
    unfold wrap64
    generalize (L + (999999999 - r)) / T = q at *
    omega
  rw [e]
set_option maxRecDepth 100000 in
theorem ticks_most (p d r T n : Int) (w : World) (h : Ok ⟨p, d, r⟩) (hT : p * (1000000000 + d) = T) (hn0 : 0 ≤ n) (hn1 : n ≤ 1152921504606846976)
    (hS : ∀ w : World, Calls Try.prog 15 #[.int .i64 n, .int .i64 1000000000, .int .i64 T] w fun e w' => e = .returned (.tuple #[.int .i64 0, .int .i64 0, .int .i64 2]) ∧ Below w.heap.size w w') :
    Calls Try.prog 12 #[ov ⟨p, d, r⟩, .int .i64 n] w fun e w' => e = .returned (.tuple #[.int .i64 1099511627776, .int .i64 0]) ∧ Below w.heap.size w w' := by
  have HK := hid h
  have HT := hid hT
  have HS := hid hS
  clear h hT hS
  go_enter Try.func12, Try.ntmps12
  go_wp2_with (first
    | (refine wpList_boxo (x := ⟨p, d, r⟩) rfl (.tmp 0) rfl rfl ?_; intro w1 v1 b1 s1)
    | (refine wpList_ldo rfl (.tmp 2) rfl rfl v1 ?_)
    | (go_at_call 14; refine (rate_ok p d r T w1 HK.out HT.out).mono ?_; rintro e w3 ⟨rfl, b3⟩; have v3 := v1.keep b3; have B3 : Hid (Below w.heap.size w w3) := hid (b1.trans (b3.mono b1.size)))
    | (go_at_call 17; refine (may_1 _ _ n true (timeB_yes (by omega) (by omega)) _ (by simp)).mono ?_; rintro e w4 ⟨rfl, e4⟩; have b4 : Below w3.heap.size w3 w4 := (by rw [← e4]; exact (Below.refl _ _).alloc (Nat.le_refl _) _); clear e4; have v4 := v3.keep b4; have B4 : Hid (Below w.heap.size w w4) := hid (B3.out.trans (b4.mono B3.out.size)))
    | (go_at_call 15; refine (HS.out w4).mono ?_; rintro e w5 ⟨rfl, b5⟩; have B5 : Hid (Below w.heap.size w w5) := hid (B4.out.trans (b5.mono B4.out.size))))
  go_ret2
  exact ⟨rfl, B5.out⟩
set_option maxRecDepth 100000 in
theorem ticks_bad (p d r n : Int) (w : World) (h : ¬ Ok ⟨p, d, r⟩) :
    Calls Try.prog 12 #[ov ⟨p, d, r⟩, .int .i64 n] w fun e w' => e = .returned (.tuple #[.int .i64 0, .int .i64 1]) ∧ Below w.heap.size w w' := by
  have HK := hid h
  clear h
  go_enter Try.func12, Try.ntmps12
  go_wp2_with (first
    | (refine wpList_boxo (x := ⟨p, d, r⟩) rfl (.tmp 0) rfl rfl ?_; intro w1 v1 b1 s1)
    | (refine wpList_ldo rfl (.tmp 2) rfl rfl v1 ?_)
    | (go_at_call 14; refine (rate_bad p d r w1 HK.out).mono ?_; rintro e w3 ⟨rfl, b3⟩; have v3 := v1.keep b3; have B3 : Hid (Below w.heap.size w w3) := hid (b1.trans (b3.mono b1.size))))
  go_ret2
  exact ⟨rfl, B3.out⟩
set_option maxRecDepth 100000 in
theorem ticks_low (p d r T n : Int) (w : World) (h : Ok ⟨p, d, r⟩) (hT : p * (1000000000 + d) = T) (hn0 : n < 0) :
    Calls Try.prog 12 #[ov ⟨p, d, r⟩, .int .i64 n] w fun e w' => e = .returned (.tuple #[.int .i64 0, .int .i64 1]) ∧ Below w.heap.size w w' := by
  have HK := hid h
  have HT := hid hT
  clear h hT
  go_enter Try.func12, Try.ntmps12
  go_wp2_with (first
    | (refine wpList_boxo (x := ⟨p, d, r⟩) rfl (.tmp 0) rfl rfl ?_; intro w1 v1 b1 s1)
    | (refine wpList_ldo rfl (.tmp 2) rfl rfl v1 ?_)
    | (go_at_call 14; refine (rate_ok p d r T w1 HK.out HT.out).mono ?_; rintro e w3 ⟨rfl, b3⟩; have v3 := v1.keep b3; have B3 : Hid (Below w.heap.size w w3) := hid (b1.trans (b3.mono b1.size))))
  go_ret2
  exact ⟨rfl, B3.out⟩
set_option maxRecDepth 100000 in
theorem ticks_high (p d r T n : Int) (w : World) (h : Ok ⟨p, d, r⟩) (hT : p * (1000000000 + d) = T) (hn0 : 1152921504606846976 < n) :
    Calls Try.prog 12 #[ov ⟨p, d, r⟩, .int .i64 n] w fun e w' => e = .returned (.tuple #[.int .i64 0, .int .i64 1]) ∧ Below w.heap.size w w' := by
  have HK := hid h
  have HT := hid hT
  clear h hT
  go_enter Try.func12, Try.ntmps12
  go_wp2_with (first
    | (refine wpList_boxo (x := ⟨p, d, r⟩) rfl (.tmp 0) rfl rfl ?_; intro w1 v1 b1 s1)
    | (refine wpList_ldo rfl (.tmp 2) rfl rfl v1 ?_)
    | (go_at_call 14; refine (rate_ok p d r T w1 HK.out HT.out).mono ?_; rintro e w3 ⟨rfl, b3⟩; have v3 := v1.keep b3; have B3 : Hid (Below w.heap.size w w3) := hid (b1.trans (b3.mono b1.size)))
    | (go_at_call 17; refine (may_1 _ _ n false (timeB_no (.inr hn0)) _ (by simp)).mono ?_; rintro e w4 ⟨rfl, e4⟩; have b4 : Below w3.heap.size w3 w4 := (by rw [← e4]; exact (Below.refl _ _).alloc (Nat.le_refl _) _); clear e4; have v4 := v3.keep b4; have B4 : Hid (Below w.heap.size w w4) := hid (B3.out.trans (b4.mono B3.out.size))))
  go_ret2
  exact ⟨rfl, B4.out⟩

/-- How many ticks there are in a time. -/
def tkO (x : Oc) (n : Int) : Int := min ((n * 1000000000 + (999999999 - x.r)) / (x.p * (1000000000 + x.d))) 1099511627776
theorem split_div (N c T : Int) (hT : 0 < T) : N / T + (N % T + c) / T = (N + c) / T := by
  have e := Int.mul_ediv_add_emod N T
  have : N + c = (N % T + c) + T * (N / T) := by omega
  rw [this, Int.add_mul_ediv_left _ _ (by omega), Int.add_comm]
theorem ticks_ok (x : Oc) (n : Int) (w : World) (h : Ok x) (hn0 : 0 ≤ n) (hn1 : n ≤ 1152921504606846976) :
    Calls Try.prog 12 #[ov x, .int .i64 n] w fun e w' => e = .returned (.tuple #[.int .i64 (tkO x n), .int .i64 0]) ∧ Below w.heap.size w w' := by
  obtain ⟨p, d, r⟩ := x
  have hr := rate_range h.1 h.2.1 h.2.2.1 h.2.2.2.1
  have h5 := h.2.2.2.2.1
  have h6 := h.2.2.2.2.2
  simp only [tkO] at hr h5 h6 ⊢
  generalize hT : p * (1000000000 + d) = T at *
  have hs := scaled n 1000000000 T
  have ho := scaled_over n 1000000000 T
  have hN0 : 0 ≤ n * 1000000000 := by omega
  generalize n * 1000000000 = N at *
  have e := split_div N (999999999 - r) T (by omega)
  have w0 : 0 ≤ N / T := Int.ediv_nonneg hN0 (by omega)
  have m0 := Int.emod_nonneg N (show T ≠ 0 by omega)
  have m1 := Int.emod_lt_of_pos N (show 0 < T by omega)
  rw [← e]
  by_cases hc : 1152921504606846976 < N / T
  · have q0 : 0 ≤ (N % T + (999999999 - r)) / T := Int.ediv_nonneg (by omega) (by omega)
    rw [Int.min_eq_right (by omega)]
    exact ticks_most p d r T n w h hT hn0 hn1 (fun w => ho w (by omega) (by omega) (by omega) (by omega) (by omega) (by omega) (.inr hc))
  · exact ticks_walk p d r T n (N / T) (N % T) w h hT hn0 hn1 hr.1 hr.2 (fun w => hs w (by omega) (by omega) (by omega) (by omega) (by omega) (by omega) (by omega) (by omega)) w0 (by omega) m0 m1
theorem ticks_arg (x : Oc) (n : Int) (w : World) (h : ¬ (Ok x ∧ 0 ≤ n ∧ n ≤ 1152921504606846976)) :
    Calls Try.prog 12 #[ov x, .int .i64 n] w fun e w' => e = .returned (.tuple #[.int .i64 0, .int .i64 1]) ∧ Below w.heap.size w w' := by
  obtain ⟨p, d, r⟩ := x
  by_cases hk : Ok ⟨p, d, r⟩
  · by_cases h0 : n < 0
    · exact ticks_low p d r _ n w hk rfl h0
    · exact ticks_high p d r _ n w hk rfl (by have : ¬ (0 ≤ n ∧ n ≤ 1152921504606846976) := fun x => h ⟨hk, x⟩
                                              omega)
  · exact ticks_bad p d r n w hk

/-- osc.Apart, where both take a time. -/
theorem apart_ok (x y : Oc) (n : Int) (w : World) (hx : Ok x) (hy : Ok y) (hn0 : 0 ≤ n) (hn1 : n ≤ 1099511627776) (hp : 0 ≤ psO x n) (hq : 0 ≤ psO y n) (hp1 : psO x n ≤ 1152921504606846976) (hq1 : psO y n ≤ 1152921504606846976) :
    Calls Try.prog 13 #[ov x, ov y, .int .i64 n] w fun e w' => e = .returned (.tuple #[.int .i64 (psO x n - psO y n), .int .i64 0]) ∧ Below w.heap.size w w' := by
  have HX := hid (fun w => run_ok x n w hx hn0 hn1 hp1)
  have HY := hid (fun w => run_ok y n w hy hn0 hn1 hq1)
  have HD := hid (fun w => sub_ok (psO x n) (psO y n) w (by omega) (by omega) (by omega) (by omega) (by omega) (by omega))
  generalize psO x n = P at *
  generalize psO y n = Q at *
  generalize aft x n = X at *
  generalize aft y n = Y at *
  clear hx hy
  go_enter Try.func13, Try.ntmps13
  go_wp2_with (first
    | (refine wpList_boxo (x := x) rfl (.tmp 0) rfl rfl ?_; intro w1 v1 b1 s1)
    | (refine wpList_boxo (x := y) rfl (.tmp 1) rfl rfl ?_; intro w2 u2 b2 s2; have v2 := v1.keep b2; have B2 : Hid (Below w.heap.size w w2) := hid (b1.trans (b2.mono b1.size)))
    | (refine wpList_ldo rfl (.tmp 3) rfl rfl v2 ?_)
    | (refine wpList_ldo rfl (.tmp 4) rfl rfl u5 ?_)
    | (go_at_call 11; (with_reducible refine (HX.out w2).mono ?_); rintro e w3 ⟨rfl, b3⟩; have u3 := u2.keep b3; have B3 : Hid (Below w.heap.size w w3) := hid (B2.out.trans (b3.mono B2.out.size)))
    | (refine wpList_alo rfl rfl ?_; intro w4 r4 b4 s4; have u4 := u3.keep b4; have B4 : Hid (Below w.heap.size w w4) := hid (B3.out.trans (b4.mono B3.out.size)))
    | (refine wpList_svo rfl (.tmp 9) (.tmp 18) rfl rfl rfl r4 ?_; intro w5 r5 b5 o5 _; have u5 := u4.other o5 (by have := u3.lt; omega); have B5 : Hid (Below w.heap.size w w5) := hid (B4.out.trans (b5.mono B3.out.size)))
    | (go_at_call 11; (with_reducible refine (HY.out w5).mono ?_); rintro e w6 ⟨rfl, b6⟩; have B6 : Hid (Below w.heap.size w w6) := hid (B5.out.trans (b6.mono B5.out.size)))
    | (refine wpList_alo rfl rfl ?_; intro w7 r7 b7 s7; have B7 : Hid (Below w.heap.size w w7) := hid (B6.out.trans (b7.mono B6.out.size)))
    | (refine wpList_svo rfl (.tmp 12) (.tmp 28) rfl rfl rfl r7 ?_; intro w8 r8 b8 o8 _; have B8 : Hid (Below w.heap.size w w8) := hid (B7.out.trans (b8.mono B6.out.size)))
    | (go_at_call 18; refine (HD.out w8).mono ?_; rintro e w9 ⟨rfl, b9⟩; have B9 : Hid (Below w.heap.size w w9) := hid (B8.out.trans (b9.mono B8.out.size))))
  go_ret2
  exact ⟨rfl, B9.out⟩
end Go.Proofs.Ytmmcnbhhdgnljaa
