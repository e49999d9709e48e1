/-
  osc.Run: how long ticks take, and what is left, or why not; at every oscillator and every number of ticks.
-/
import Derived.Test.YtmmcnbhhdgnljaaC
namespace Go.Proofs.Ytmmcnbhhdgnljaa
open Go Go.RowKit
set_option maxRecDepth 100000 in
theorem run_walk (p d r T n W L : Int) (w : World) (h : Ok ⟨p, d, r⟩) (hT : p * (1000000000 + d) = T) (hn0 : 0 ≤ n) (hn1 : n ≤ 1099511627776)
    (hS : ∀ w : World, Calls Try.prog 15 #[.int .i64 n, .int .i64 T, .int .i64 1000000000] w fun e w' => e = .returned (.tuple #[.int .i64 W, .int .i64 L, .int .i64 0]) ∧ Below w.heap.size w w')
    (hW0 : 0 ≤ W) (hW1 : W ≤ 1152921504606846976) (hL0 : 0 ≤ L) (hL1 : L < 1000000000) (hQ : W + (L + r) / 1000000000 ≤ 1152921504606846976) :
    Calls Try.prog 11 #[ov ⟨p, d, r⟩, .int .i64 n] w fun e w' => e = .returned (.tuple #[.int .i64 (W + (L + r) / 1000000000), ov ⟨p, d, (L + r) % 1000000000⟩, .int .i64 0]) ∧ Below w.heap.size w w' := by
  have HK := hid h
  obtain ⟨h1, h2, h3, h4, h5, h6⟩ := h
  simp only at h1 h2 h3 h4 h5 h6
  have HT := hid hT
  have HS := hid hS
  have HA := hid (fun w => add_ok W ((L + r) / 1000000000) w (by omega) (by omega) (by omega) (by omega) (by omega) hQ)
  clear hT hS hQ
  go_enter Try.func11, Try.ntmps11
  go_wp2_with (first
    | (refine wpList_boxo (x := ⟨p, d, r⟩) rfl (.tmp 0) rfl rfl ?_; intro w1 v1 b1 s1)
    | (refine wpList_alo rfl rfl ?_; intro w2 r2 b2 s2; have v2 := v1.keep b2; have B2 : Hid (Below w.heap.size w w2) := hid (b1.trans (b2.mono b1.size)))
    | (refine wpList_ldo rfl (.tmp 2) rfl rfl v2 ?_)
    | (go_at_call 14; refine (rate_ok p d r T w2 HK.out HT.out).mono ?_; rintro e w3 ⟨rfl, b3⟩; have r3 := r2.keep b3; have v3 := v2.keep b3; have B3 : Hid (Below w.heap.size w w3) := hid (B2.out.trans (b3.mono B2.out.size)))
    | (go_at_call 15; refine (HS.out w3).mono ?_; rintro e w4 ⟨rfl, b4⟩; have r4 := r3.keep b4; have v4 := v3.keep b4; have B4 : Hid (Below w.heap.size w w4) := hid (B3.out.trans (b4.mono B3.out.size)); have c2 : w4.cell? ⟨w.heap.size, 2, none⟩ = some (.int .i64 r) := v4.c2)
    | (go_at_call 16; refine (HA.out w4).mono ?_; rintro e w5 ⟨rfl, b5⟩; have r5 := r4.keep b5; have v5 := v4.keep b5; have B5 : Hid (Below w.heap.size w w5) := hid (B4.out.trans (b5.mono B4.out.size)))
    | (refine wpList_sr rfl (.tmp 56) (.tmp 55) rfl rfl rfl v5 ?_; intro w6 v6 b6 o6 _; have r6 := r5.other o6 (by have := v1.lt; omega); have B6 : Hid (Below w.heap.size w w6) := hid (B5.out.trans b6)))
  obtain ⟨a0, a1, a2⟩ : w6.cell? ⟨w.heap.size, 0, none⟩ = some (.int .i64 p) ∧ w6.cell? ⟨w.heap.size, 1, none⟩ = some (.int .i64 d) ∧ w6.cell? ⟨w.heap.size, 2, none⟩ = some (.int .i64 ((L + r) % 1000000000)) := ⟨v6.c0, v6.c1, v6.c2⟩
  obtain ⟨⟨y0, k0⟩, ⟨y1, k1⟩, ⟨y2, k2⟩⟩ : (∃ u, w6.cell? ⟨w1.heap.size, 0, none⟩ = some u) ∧ (∃ u, w6.cell? ⟨w1.heap.size, 1, none⟩ = some u) ∧ (∃ u, w6.cell? ⟨w1.heap.size, 2, none⟩ = some u) := ⟨⟨_, r6.c0⟩, ⟨_, r6.c1⟩, ⟨_, r6.c2⟩⟩
  obtain ⟨q0, q1, q2⟩ : w6.frozen? ⟨w1.heap.size, 0, none⟩ = false ∧ w6.frozen? ⟨w1.heap.size, 1, none⟩ = false ∧ w6.frozen? ⟨w1.heap.size, 2, none⟩ = false := ⟨(r6.2 0 (by omega)).2, (r6.2 1 (by omega)).2, (r6.2 2 (by omega)).2⟩
  have R6 := hid r6
  have N1 : Hid (w.heap.size < w1.heap.size) := hid v1.lt
  clear v1 v2 v3 v4 v5 v6 r2 r3 r4 r5 r6 o6 c2 B2 B3 B4 B5 HA HS HT HK b1 b2 b3 b4 b5 b6 s1 s2
  generalize w1.heap.size = g2 at *
  generalize hG : w.heap.size = g1 at *
  have n1 : ¬ g1 = g2 := by have := N1.out; omega
  generalize hR : (L + r) % 1000000000 = R at *
  generalize hS : W + (L + r) / 1000000000 = S at *
  have HR := hid hR
  have HS := hid hS
  clear hR hS
  go_region
  go_wp2_with fail
  have r7 := varo_stored R6.out.2 ⟨p, d, R⟩
  have o7 := setCells_oth g2 (enco ⟨p, d, R⟩) 0 w6
  have b7 : Below g1 w (w6.setCells g2 0 (enco ⟨p, d, R⟩)) := B6.out.trans (o7.1.mono (by have := N1.out; omega))
  clear a0 a1 a2 k0 k1 k2 q0 q1 q2
  generalize hV : w6.setCells g2 0 (enco ⟨p, d, R⟩) = V at r7 b7
  simp only [World.setCells, enco, Nat.reduceAdd] at hV
  rw [hV]
  clear hV o7
  refine bodyPost_ret (w := V.drew) (results_101 Try.results11 _ rfl (show VarO V.drew _ _ from r7)) rfl ?_
  exact ⟨by rw [HS.out, HR.out]; rfl, (show Below _ _ V.drew from by rw [hG]; exact b7.drew)⟩
set_option maxRecDepth 100000 in
theorem run_bad (p d r n : Int) (w : World) (h : ¬ Ok ⟨p, d, r⟩) :
    Calls Try.prog 11 #[ov ⟨p, d, r⟩, .int .i64 n] w fun e w' => e = .returned (.tuple #[.int .i64 0, ov oz, .int .i64 1]) ∧ Below w.heap.size w w' := by
  have HK := hid h
  clear h
  go_enter Try.func11, Try.ntmps11
  go_wp2_with (first
    | (refine wpList_boxo (x := ⟨p, d, r⟩) rfl (.tmp 0) rfl rfl ?_; intro w1 v1 b1 s1)
    | (refine wpList_alo rfl rfl ?_; intro w2 r2 b2 s2; have v2 := v1.keep b2; have B2 : Hid (Below w.heap.size w w2) := hid (b1.trans (b2.mono b1.size)))
    | (refine wpList_ldo rfl (.tmp 2) rfl rfl v2 ?_)
    | (go_at_call 14; refine (rate_bad p d r w2 HK.out).mono ?_; rintro e w3 ⟨rfl, b3⟩; have r3 := r2.keep b3; have B3 : Hid (Below w.heap.size w w3) := hid (B2.out.trans (b3.mono B2.out.size)))
    | (refine wpList_svo (x := oz) rfl (.tmp 5) (.tmp 19) rfl rfl rfl r3 ?_; intro w9 r9 b9 o9 _; have B9 : Hid (Below w.heap.size w w9) := hid (B3.out.trans (b9.mono b1.size))))
  refine bodyPost_ret (w := w9) (results_101 Try.results11 _ rfl r9) rfl ?_
  exact ⟨rfl, B9.out⟩
set_option maxRecDepth 100000 in
theorem run_ticks (p d r T n : Int) (w : World) (h : Ok ⟨p, d, r⟩) (hT : p * (1000000000 + d) = T) (hn : (decide (n < 0) || decide (1099511627776 < n)) = true) :
    Calls Try.prog 11 #[ov ⟨p, d, r⟩, .int .i64 n] w fun e w' => e = .returned (.tuple #[.int .i64 0, ov oz, .int .i64 1]) ∧ Below w.heap.size w w' := by
  have HK := hid h
  have HT := hid hT
  clear h hT
  go_enter Try.func11, Try.ntmps11
  go_wp2_with (first
    | (refine wpList_boxo (x := ⟨p, d, r⟩) rfl (.tmp 0) rfl rfl ?_; intro w1 v1 b1 s1)
    | (refine wpList_alo rfl rfl ?_; intro w2 r2 b2 s2; have v2 := v1.keep b2; have B2 : Hid (Below w.heap.size w w2) := hid (b1.trans (b2.mono b1.size)))
    | (refine wpList_ldo rfl (.tmp 2) rfl rfl v2 ?_)
    | (go_at_call 14; refine (rate_ok p d r T w2 HK.out HT.out).mono ?_; rintro e w3 ⟨rfl, b3⟩; have r3 := r2.keep b3; have v3 := v2.keep b3; have B3 : Hid (Below w.heap.size w w3) := hid (B2.out.trans (b3.mono B2.out.size)))
    | (refine wpList_svo (x := oz) rfl (.tmp 5) (.tmp 27) rfl rfl rfl r3 ?_; intro w9 r9 b9 o9 _; have B9 : Hid (Below w.heap.size w w9) := hid (B3.out.trans (b9.mono b1.size))))
  all_goals
    refine bodyPost_ret (w := w9) (results_101 Try.results11 _ rfl r9) rfl ?_
    exact ⟨rfl, B9.out⟩
set_option maxRecDepth 100000 in
theorem run_over1 (p d r T n : Int) (w : World) (h : Ok ⟨p, d, r⟩) (hT : p * (1000000000 + d) = T) (hn0 : 0 ≤ n) (hn1 : n ≤ 1099511627776)
    (hS : ∀ w : World, Calls Try.prog 15 #[.int .i64 n, .int .i64 T, .int .i64 1000000000] w fun e w' => e = .returned (.tuple #[.int .i64 0, .int .i64 0, .int .i64 2]) ∧ Below w.heap.size w w') :
    Calls Try.prog 11 #[ov ⟨p, d, r⟩, .int .i64 n] w fun e w' => e = .returned (.tuple #[.int .i64 0, ov oz, .int .i64 2]) ∧ Below w.heap.size w w' := by
  have HK := hid h
  have HT := hid hT
  have HS := hid hS
  clear h hT hS
  go_enter Try.func11, Try.ntmps11
  go_wp2_with (first
    | (refine wpList_boxo (x := ⟨p, d, r⟩) rfl (.tmp 0) rfl rfl ?_; intro w1 v1 b1 s1)
    | (refine wpList_alo rfl rfl ?_; intro w2 r2 b2 s2; have v2 := v1.keep b2; have B2 : Hid (Below w.heap.size w w2) := hid (b1.trans (b2.mono b1.size)))
    | (refine wpList_ldo rfl (.tmp 2) rfl rfl v2 ?_)
    | (go_at_call 14; refine (rate_ok p d r T w2 HK.out HT.out).mono ?_; rintro e w3 ⟨rfl, b3⟩; have r3 := r2.keep b3; have v3 := v2.keep b3; have B3 : Hid (Below w.heap.size w w3) := hid (B2.out.trans (b3.mono B2.out.size)))
    | (go_at_call 15; refine (HS.out w3).mono ?_; rintro e w4 ⟨rfl, b4⟩; have r4 := r3.keep b4; have B4 : Hid (Below w.heap.size w w4) := hid (B3.out.trans (b4.mono B3.out.size)))
    | (refine wpList_svo (x := oz) rfl (.tmp 5) (.tmp 37) rfl rfl rfl r4 ?_; intro w9 r9 b9 o9 _; have B9 : Hid (Below w.heap.size w w9) := hid (B4.out.trans (b9.mono b1.size))))
  refine bodyPost_ret (w := w9) (results_101 Try.results11 _ rfl r9) rfl ?_
  exact ⟨rfl, B9.out⟩
set_option maxRecDepth 100000 in
theorem run_over2 (p d r T n W L : Int) (w : World) (h : Ok ⟨p, d, r⟩) (hT : p * (1000000000 + d) = T) (hn0 : 0 ≤ n) (hn1 : n ≤ 1099511627776)
    (hS : ∀ w : World, Calls Try.prog 15 #[.int .i64 n, .int .i64 T, .int .i64 1000000000] w fun e w' => e = .returned (.tuple #[.int .i64 W, .int .i64 L, .int .i64 0]) ∧ Below w.heap.size w w')
    (hW0 : 0 ≤ W) (hW1 : W ≤ 1152921504606846976) (hL0 : 0 ≤ L) (hL1 : L < 1000000000) (hQ : 1152921504606846976 < W + (L + r) / 1000000000) :
    Calls Try.prog 11 #[ov ⟨p, d, r⟩, .int .i64 n] w fun e w' => e = .returned (.tuple #[.int .i64 0, ov oz, .int .i64 2]) ∧ Below w.heap.size w w' := by
  have HK := hid h
  obtain ⟨h1, h2, h3, h4, h5, h6⟩ := h
  simp only at h1 h2 h3 h4 h5 h6
  have HT := hid hT
  have HS := hid hS
  have HA := hid (fun w => add_over W ((L + r) / 1000000000) w (by omega) (by omega) (by omega) (by omega) (.inr hQ))
  clear hT hS hQ
  go_enter Try.func11, Try.ntmps11
  go_wp2_with (first
    | (refine wpList_boxo (x := ⟨p, d, r⟩) rfl (.tmp 0) rfl rfl ?_; intro w1 v1 b1 s1)
    | (refine wpList_alo rfl rfl ?_; intro w2 r2 b2 s2; have v2 := v1.keep b2; have B2 : Hid (Below w.heap.size w w2) := hid (b1.trans (b2.mono b1.size)))
    | (refine wpList_ldo rfl (.tmp 2) rfl rfl v2 ?_)
    | (go_at_call 14; refine (rate_ok p d r T w2 HK.out HT.out).mono ?_; rintro e w3 ⟨rfl, b3⟩; have r3 := r2.keep b3; have v3 := v2.keep b3; have B3 : Hid (Below w.heap.size w w3) := hid (B2.out.trans (b3.mono B2.out.size)))
    | (go_at_call 15; refine (HS.out w3).mono ?_; rintro e w4 ⟨rfl, b4⟩; have r4 := r3.keep b4; have v4 := v3.keep b4; have B4 : Hid (Below w.heap.size w w4) := hid (B3.out.trans (b4.mono B3.out.size)); have c2 : w4.cell? ⟨w.heap.size, 2, none⟩ = some (.int .i64 r) := v4.c2)
    | (go_at_call 16; refine (HA.out w4).mono ?_; rintro e w5 ⟨rfl, b5⟩; have r5 := r4.keep b5; have B5 : Hid (Below w.heap.size w w5) := hid (B4.out.trans (b5.mono B4.out.size)))
    | (refine wpList_svo (x := oz) rfl (.tmp 5) (.tmp 52) rfl rfl rfl r5 ?_; intro w9 r9 b9 o9 _; have B9 : Hid (Below w.heap.size w w9) := hid (B5.out.trans (b9.mono b1.size))))
  refine bodyPost_ret (w := w9) (results_101 Try.results11 _ rfl r9) rfl ?_
  exact ⟨rfl, B9.out⟩

/-- How long ticks take, and what is left. -/
def tot (x : Oc) (n : Int) : Int := n * (x.p * (1000000000 + x.d)) + x.r
def psO (x : Oc) (n : Int) : Int := tot x n / 1000000000
def aft (x : Oc) (n : Int) : Oc := ⟨x.p, x.d, tot x n % 1000000000⟩
theorem split_tot (N r : Int) : N / 1000000000 + (N % 1000000000 + r) / 1000000000 = (N + r) / 1000000000 ∧ (N % 1000000000 + r) % 1000000000 = (N + r) % 1000000000 := by omega
/-- osc.Run, where ticks take a time. -/
theorem run_ok (x : Oc) (n : Int) (w : World) (h : Ok x) (hn0 : 0 ≤ n) (hn1 : n ≤ 1099511627776) (hq : psO x n ≤ 1152921504606846976) :
    Calls Try.prog 11 #[ov x, .int .i64 n] w fun e w' => e = .returned (.tuple #[.int .i64 (psO x n), ov (aft x n), .int .i64 0]) ∧ Below w.heap.size w w' := by
  obtain ⟨p, d, r⟩ := x
  have hr := rate_range h.1 h.2.1 h.2.2.1 h.2.2.2.1
  have h5 := h.2.2.2.2.1
  have h6 := h.2.2.2.2.2
  simp only [psO, aft, tot] at hq hr h5 h6 ⊢
  generalize hT : p * (1000000000 + d) = T at *
  have hN0 : 0 ≤ n * T := Int.mul_nonneg hn0 (by omega)
  have hs := scaled n T 1000000000
  generalize n * T = N at *
  have e := split_tot N r
  rw [← e.1] at hq ⊢
  rw [← e.2]
  exact run_walk p d r T n (N / 1000000000) (N % 1000000000) w h hT hn0 hn1 (fun w => hs w (by omega) (by omega) (by omega) (by omega) (by omega) (by omega) (by omega) (by omega)) (by omega) (by omega) (by omega) (by omega) hq
theorem run_over (x : Oc) (n : Int) (w : World) (h : Ok x) (hn0 : 0 ≤ n) (hn1 : n ≤ 1099511627776) (hq : 1152921504606846976 < psO x n) :
    Calls Try.prog 11 #[ov x, .int .i64 n] w fun e w' => e = .returned (.tuple #[.int .i64 0, ov oz, .int .i64 2]) ∧ Below w.heap.size w w' := by
  obtain ⟨p, d, r⟩ := x
  have hr := rate_range h.1 h.2.1 h.2.2.1 h.2.2.2.1
  have h5 := h.2.2.2.2.1
  have h6 := h.2.2.2.2.2
  simp only [psO, tot] at hq hr h5 h6 ⊢
  generalize hT : p * (1000000000 + d) = T at *
  have hN0 : 0 ≤ n * T := Int.mul_nonneg hn0 (by omega)
  have hs := scaled n T 1000000000
  have ho := scaled_over n T 1000000000
  generalize n * T = N at *
  have e := split_tot N r
  rw [← e.1] at hq
  by_cases hc : 1152921504606846976 < N / 1000000000
  · exact run_over1 p d r T n w h hT hn0 hn1 (fun w => ho w (by omega) (by omega) (by omega) (by omega) (by omega) (by omega) (.inr hc))
  · exact run_over2 p d r T n (N / 1000000000) (N % 1000000000) w h hT hn0 hn1 (fun w => hs w (by omega) (by omega) (by omega) (by omega) (by omega) (by omega) (by omega) (by omega)) (by omega) (by omega) (by omega) (by omega) hq
theorem run_arg (x : Oc) (n : Int) (w : World) (h : ¬ (Ok x ∧ 0 ≤ n ∧ n ≤ 1099511627776)) :
    Calls Try.prog 11 #[ov x, .int .i64 n] w fun e w' => e = .returned (.tuple #[.int .i64 0, ov oz, .int .i64 1]) ∧ Below w.heap.size w w' := by
  obtain ⟨p, d, r⟩ := x
  by_cases hk : Ok ⟨p, d, r⟩
  · refine run_ticks p d r _ n w hk rfl ?_
    simp only [Bool.or_eq_true, decide_eq_true_eq]
    have : ¬ (0 ≤ n ∧ n ≤ 1099511627776) := fun x => h ⟨hk, x⟩
    omega
  · exact run_bad p d r n w hk
theorem aft_ok (x : Oc) (n : Int) (h : Ok x) : Ok (aft x n) := by
  obtain ⟨h1, h2, h3, h4, h5, h6⟩ := h
  exact ⟨h1, h2, h3, h4, by simp only [aft]; omega, by simp only [aft]; omega⟩
end Go.Proofs.Ytmmcnbhhdgnljaa
