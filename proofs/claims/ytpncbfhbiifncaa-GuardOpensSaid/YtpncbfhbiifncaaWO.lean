/-
  The walk of GuardOpens at its arguments: it returns true at every guardian, schedule, period, two nodes and time.
-/
import Derived.Test.YtpncbfhbiifncaaOB
import Derived.Test.YtpncbfhbiifncaaWN
namespace Go.Proofs.Ytpncbfhbiifncaa
open Go Go.RowKit
set_option maxHeartbeats 2000000 in
theorem opens_row {w : World} (g : Gd) (gs : 0 ≤ g.s ∧ g.s ≤ 18446744073709551615) (_ : In64 g.a) (n ms l f d : Int) (_ : In64 n) (_ : In64 ms) (_ : In64 l) (_ : In64 f) (_ : In64 d) (p : Int) (_ : -9223372036854775808 ≤ p) (_ : p ≤ 9223372036854775807)
    (q : Int) (_ : -9223372036854775808 ≤ q) (_ : q ≤ 9223372036854775807) (q2 : Int) (_ : -9223372036854775808 ≤ q2) (_ : q2 ≤ 9223372036854775807) (at_ : Int) (_ : -9223372036854775808 ≤ at_) (_ : at_ ≤ 9223372036854775807) :
    Calls Try.prog 3 #[gv g, mv ⟨n, ms, l, f, d⟩, .int .i64 p, .int .i64 q, .int .i64 q2, .int .i64 at_] w fun e w' => e = .returned (.bool true) ∧ Below w.heap.size w w' := by
  obtain ⟨o, k, s, a⟩ := g
  simp only at gs
  obtain ⟨x, y, e, he, hS, HO⟩ := opens_any ⟨true, k, s, a⟩ ⟨n, ms, l, f, d⟩ p q gs.1
  by_cases h0 : e = 0
  · subst h0
    obtain ⟨hF, hk, K, K1, K2, K3, K4, hy, hx, hy2⟩ := hS rfl
    by_cases hx1 : x < 1
    · exact opens_err o k s a n ms l f d p q q2 at_ x y 0 w HO (.inr (.inr ⟨rfl, decide_eq_true hx1⟩))
    · obtain ⟨hG, hm, p1, p2, q0, q1⟩ := id hF
      obtain ⟨g2, ga, _⟩ := hG
      simp only [timeB, decide_eq_true_eq] at g2 ga
      obtain ⟨a1, a2⟩ := ga
      obtain ⟨o1, o2, o3, o4, o5, o6, o7, o8, o9⟩ := id hm
      simp only at o1 o2 o3 o4 o5 o6 o7 o8 o9 K1 K2 K3 K4 hy hx hy2 q1
      obtain ⟨_, T0, T1⟩ := far_len (l := l) K1 (by omega) o3 o4 o5 (by omega) p1 p2
      obtain ⟨W0, W1⟩ := win_in o7 (by omega) o4 p1 p2
      obtain ⟨LL0, LL1⟩ := win_in o5 (by omega) o4 p1 p2
      obtain ⟨L0, L1⟩ := len_in o3 o4 p1 p2
      have hw := win_half (d := d) (s := ms) (p := p) (by omega) p1
      have eP : (K * ms + l) * p = K * (ms * p) + l * p := by rw [Int.add_mul, Int.mul_assoc]
      rw [eP] at hy T0 T1
      have hP0 : 0 ≤ K * (ms * p) := Int.mul_nonneg (by omega) (by omega)
      have eK : (K + 1) * (ms * p) = K * (ms * p) + ms * p := by rw [Int.add_mul, Int.one_mul]
      by_cases hy3 : y + 1 ≤ 1152921504606846976
      · have HPS : ∀ (t : Int) (w : World), x ≤ t → t ≤ y → Calls Try.prog 10 #[gv ⟨true, k, s, a⟩, mv ⟨n, ms, l, f, d⟩, .int .i64 p, .int .i64 q, .agg #[.int .i64 0, .int .i64 0, .int .u64 0, .int .u16 0], .int .i64 t] w fun e w' => e = .returned (.tuple #[gv ⟨true, true, s + K, t - l * p⟩, .bool true, .int .i64 0]) ∧ Below w.heap.size w w' := by
          intro t w t0 t1
          have hC := pass_any ⟨true, k, s, a⟩ ⟨n, ms, l, f, d⟩ p q ⟨0, 0, 0, 0⟩ t w gs.1 hF (by omega) (by omega)
          have hN := ps_near ⟨true, k, s, a⟩ ⟨n, ms, l, f, d⟩ p q ⟨0, 0, 0, 0⟩ t K rfl hk (by omega) (by show 1 ≤ ms * p; omega)
            (by show -(ms * p) ≤ 2 * (t - l * p - a - K * (ms * p)); omega) (by show 2 * (t - l * p - a - K * (ms * p)) < ms * p; omega)
            (by show -1152921504606846976 ≤ t - l * p - a; omega) (by show t - l * p - a ≤ 1152921504606846976; omega)
            (by show -(d * p) ≤ t - l * p - a - K * (ms * p); omega) (by show t - l * p - a - K * (ms * p) ≤ d * p; omega)
            (by unfold ownB; exact decide_eq_true ⟨hm, by show s + K ≤ 4294967296; omega, K3⟩)
          rw [hN.1, hN.2] at hC
          exact hC
        have HZS : ∀ (t : Int) (w : World), (t = x - 1 ∨ t = y + 1) → Calls Try.prog 10 #[gv ⟨true, k, s, a⟩, mv ⟨n, ms, l, f, d⟩, .int .i64 p, .int .i64 q, .agg #[.int .i64 0, .int .i64 0, .int .u64 0, .int .u16 0], .int .i64 t] w fun e w' => e = .returned (.tuple #[gv ⟨true, k, s, a⟩, .bool false, .int .i64 0]) ∧ Below w.heap.size w w' := by
          intro t w ht
          have hC := pass_any ⟨true, k, s, a⟩ ⟨n, ms, l, f, d⟩ p q ⟨0, 0, 0, 0⟩ t w gs.1 hF (by omega) (by omega)
          have hB : recB ⟨true, k, s, a⟩ ⟨n, ms, l, f, d⟩ p q (t - l * p) = false := by
            rcases ht with ht | ht
            · rw [recB_near _ _ p q _ K (by omega) (by show 1 ≤ ms * p; omega) (by show -(ms * p) ≤ 2 * (t - l * p - a - K * (ms * p)); omega) (by show 2 * (t - l * p - a - K * (ms * p)) < ms * p; omega)
                (by show -1152921504606846976 ≤ t - l * p - a; omega) (by show t - l * p - a ≤ 1152921504606846976; omega)]
              rw [decide_eq_false (show ¬ -(d * p) ≤ t - l * p - a - K * (ms * p) by omega)]; rfl
            · by_cases hh : 2 * (d * p + 1) < ms * p
              · rw [recB_near _ _ p q _ K (by omega) (by show 1 ≤ ms * p; omega) (by show -(ms * p) ≤ 2 * (t - l * p - a - K * (ms * p)); omega) (by show 2 * (t - l * p - a - K * (ms * p)) < ms * p; omega)
                  (by show -1152921504606846976 ≤ t - l * p - a; omega) (by show t - l * p - a ≤ 1152921504606846976; omega)]
                rw [decide_eq_false (show ¬ t - l * p - a - K * (ms * p) ≤ d * p by omega), Bool.false_and, Bool.and_false]
              · rw [recB_near _ _ p q _ (K + 1) (by omega) (by show 1 ≤ ms * p; omega) (by show -(ms * p) ≤ 2 * (t - l * p - a - (K + 1) * (ms * p)); omega) (by show 2 * (t - l * p - a - (K + 1) * (ms * p)) < ms * p; omega)
                  (by show -1152921504606846976 ≤ t - l * p - a; omega) (by show t - l * p - a ≤ 1152921504606846976; omega)]
                rw [decide_eq_false (show ¬ -(d * p) ≤ t - l * p - a - (K + 1) * (ms * p) by omega)]; rfl
          obtain ⟨e1, e2⟩ := ps_of ⟨true, k, s, a⟩ ⟨n, ms, l, f, d⟩ p q ⟨0, 0, 0, 0⟩ t rfl hk false hB
          rw [e1, e2 rfl] at hC
          exact hC
        by_cases hq : q2 = q
        · subst hq
          exact opens_walk o k s a n ms l f d p q2 q2 at_ x y (d * p) (l * p) (s + K) 0 true w HO (by omega) (by omega) hy3 W0 W1 rfl LL0 LL1 (by omega) HPS
            (fun t t0 t1 => ⟨_, .inl (by simp), fun w => HPS t w t0 t1⟩) HZS
        · by_cases hr : 0 ≤ q2 ∧ q2 < n
          · refine opens_walk o k s a n ms l f d p q q2 at_ x y (d * p) (l * p) (s + K) 0 false w HO (by omega) (by omega) hy3 W0 W1 rfl LL0 LL1 (by omega) HPS (fun t t0 t1 => ⟨⟨true, k, s, a⟩, .inr ⟨by simpa using hq, rfl, .inl ⟨rfl, rfl⟩⟩, fun w => ?_⟩) HZS
            have hC := pass_any ⟨true, k, s, a⟩ ⟨n, ms, l, f, d⟩ p q2 ⟨0, 0, 0, 0⟩ t w gs.1 ⟨hF.1, hm, p1, p2, hr.1, hr.2⟩ (by omega) (by omega)
            have hB : recB ⟨true, k, s, a⟩ ⟨n, ms, l, f, d⟩ p q2 (t - l * p) = false := by
              rw [recB_near _ _ p q2 _ K (by omega) (by show 1 ≤ ms * p; omega) (by show -(ms * p) ≤ 2 * (t - l * p - a - K * (ms * p)); omega) (by show 2 * (t - l * p - a - K * (ms * p)) < ms * p; omega)
                (by show -1152921504606846976 ≤ t - l * p - a; omega) (by show t - l * p - a ≤ 1152921504606846976; omega)]
              rw [show ownB ⟨n, ms, l, f, d⟩ q2 (s + K) = false by unfold ownB; exact decide_eq_false (fun hh => hq (hh.2.2.symm.trans K3)), Bool.and_false, Bool.and_false]
            obtain ⟨e1, e2⟩ := ps_of ⟨true, k, s, a⟩ ⟨n, ms, l, f, d⟩ p q2 ⟨0, 0, 0, 0⟩ t rfl hk false hB
            rw [e1, e2 rfl] at hC
            exact hC
          · exact opens_walk o k s a n ms l f d p q q2 at_ x y (d * p) (l * p) (s + K) 1 false w HO (by omega) (by omega) hy3 W0 W1 rfl LL0 LL1 (by omega) HPS
              (fun t t0 t1 => ⟨⟨true, k, s, a⟩, .inr ⟨by simpa using hq, rfl, .inr rfl⟩, fun w => pass_bad ⟨true, k, s, a⟩ ⟨n, ms, l, f, d⟩ p q2 ⟨0, 0, 0, 0⟩ t w (fun hh => hr ⟨hh.1.2.2.2.2.1, hh.1.2.2.2.2.2⟩)⟩) HZS
      · exact opens_end o k s a n ms l f d p q q2 at_ x y w HO (decide_eq_false hx1) (decide_eq_false (by omega)) (timeB_no (by omega)) (by omega) hy2
  · exact opens_err o k s a n ms l f d p q q2 at_ x y e w HO (by omega)
end Go.Proofs.Ytpncbfhbiifncaa
