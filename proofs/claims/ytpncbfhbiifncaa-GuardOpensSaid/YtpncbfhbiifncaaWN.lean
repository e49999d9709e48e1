/-
  The walk of GuardChains at its arguments: it returns true at every guardian, schedule, period and slice of numbers.
-/
import Derived.Test.YtpncbfhbiifncaaCB
namespace Go.Proofs.Ytpncbfhbiifncaa
open Go Go.RowKit
theorem len_small {s p : Int} (h1 : 16 ≤ s) (h2 : s ≤ 1048576) (p1 : 1 ≤ p) (p2 : p ≤ 1000) : 16 ≤ s * p ∧ s * p ≤ 1048576000 := by
  have a := Int.mul_le_mul h1 p1 (by omega) (by omega)
  have b := Int.mul_le_mul h2 p2 (by omega) (by omega)
  omega
theorem win_small {d s p : Int} (h1 : 1 ≤ d) (h2 : 2 * d < s) (h4 : s ≤ 1048576) (p1 : 1 ≤ p) (p2 : p ≤ 1000) : 1 ≤ d * p ∧ d * p ≤ 1048576000 := by
  have a := Int.mul_le_mul h1 p1 (by omega) (by omega)
  have b := Int.mul_le_mul (show d ≤ 1048576 by omega) p2 (by omega) (by omega)
  omega
/-- The window is less than half of a length, by a tick and more. -/
theorem win_half {d s p : Int} (h2 : 2 * d + 2 ≤ s) (p1 : 1 ≤ p) : 2 * (d * p) + 2 ≤ s * p := by
  have a := Int.mul_le_mul_of_nonneg_right h2 (show 0 ≤ p by omega)
  rw [Int.add_mul, Int.mul_assoc] at a
  omega
set_option maxHeartbeats 1000000 in
theorem chains_row {w : World} (g : Gd) (gs : 0 ≤ g.s ∧ g.s ≤ 18446744073709551615) (_ : In64 g.a) (n ms l f d : Int) (_ : In64 n) (_ : In64 ms) (_ : In64 l) (_ : In64 f) (_ : In64 d) (p : Int) (_ : -9223372036854775808 ≤ p) (_ : p ≤ 9223372036854775807)
    (A : Option Addr) (nn c : Nat) (zs : List Int) (hc : Came .i64 w A nn c zs) (_ : c ≤ 140737488351232) :
    Calls Try.prog 6 #[gv g, mv ⟨n, ms, l, f, d⟩, .int .i64 p, .slice A nn c] w fun e w' => e = .returned (.bool true) ∧ Below w.heap.size w w' := by
  obtain ⟨o, k, s, a⟩ := g
  simp only at gs
  obtain ⟨_, _, hrow, hwf⟩ := hc
  by_cases h : Ok ⟨n, ms, l, f, d⟩
  · by_cases hp : 1 ≤ p ∧ p ≤ 1000
    · obtain ⟨p1, p2⟩ := hp
      have i1 : decide (p < 1) = false := by simp; omega
      have i2 : decide (1000 < p) = false := by simp; omega
      by_cases hg : OkG ⟨true, k, s, a⟩
      · have e0 : okgE ⟨true, k, s, a⟩ = 0 := if_pos hg
        by_cases hr : k = true ∧ 0 ≤ a ∧ a ≤ 1125899906842624 ∧ s ≤ 1073741824 ∧ nn ≤ 50
        · obtain ⟨rfl, a0, a1, s1, n0⟩ := hr
          obtain ⟨o1, o2, o3, o4, o5, o6, o7, o8, o9⟩ := id h
          simp only at o1 o2 o3 o4 o5 o6 o7 o8 o9
          obtain ⟨L0, L1⟩ := len_small o3 o4 p1 p2
          obtain ⟨X0, X1⟩ := win_small o7 (by omega) o4 p1 p2
          have hl : 1 ≤ l * p ∧ l * p ≤ 1048576000 := by
            have a := Int.mul_le_mul o5 p1 (by omega) (by omega)
            have b := Int.mul_le_mul (show l ≤ 1048576 by omega) p2 (by omega) (by omega)
            omega
          have hw := win_half (d := d) (s := ms) (p := p) (by omega) p1
          refine chains_walk o s a n ms l f d p (ms * p) (l * p) (d * p) A nn c _ w h p1 p2 e0 gs.1 s1 a0 a1 n0 hrow ?_ rfl L0 L1 rfl hl.1 hl.2 rfl X0 X1 (by omega) ?_
          · intro u hu
            obtain ⟨z, hz, rfl⟩ := List.mem_map.1 hu
            have := bounds_i64 (hwf z hz)
            exact ⟨z, rfl, by omega, by omega⟩
          · intro S Aa δ w' S0 S1 A0 A1 d0 d1
            have q0 := Int.emod_nonneg (S + 1) (show n ≠ 0 by omega)
            have q1 := Int.emod_lt_of_pos (S + 1) (show 0 < n by omega)
            have hG : OkG ⟨true, true, S, Aa⟩ := ⟨by show S ≤ 4294967296; omega, timeB_yes (n := Aa) (by omega) (by omega), knB_known _ _ _⟩
            have hP := pass_any ⟨true, true, S, Aa⟩ ⟨n, ms, l, f, d⟩ p ((S + 1) % n) ⟨0, 0, 0, 0⟩ (Aa + ms * p + l * p + δ) w' S0 ⟨hG, h, p1, by omega, q0, q1⟩ (by omega) (by omega)
            have e : Aa + ms * p + l * p + δ - l * p = Aa + ms * p + δ := by omega
            have hN := ps_near ⟨true, true, S, Aa⟩ ⟨n, ms, l, f, d⟩ p ((S + 1) % n) ⟨0, 0, 0, 0⟩ (Aa + ms * p + l * p + δ) 1 rfl (knB_known _ _ _) (by omega)
              (by show 1 ≤ ms * p; omega) (by show -(ms * p) ≤ 2 * (Aa + ms * p + l * p + δ - l * p - Aa - 1 * (ms * p)); omega) (by show 2 * (Aa + ms * p + l * p + δ - l * p - Aa - 1 * (ms * p)) < ms * p; omega)
              (by show -1152921504606846976 ≤ Aa + ms * p + l * p + δ - l * p - Aa; omega) (by show Aa + ms * p + l * p + δ - l * p - Aa ≤ 1152921504606846976; omega)
              (by show -(d * p) ≤ Aa + ms * p + l * p + δ - l * p - Aa - 1 * (ms * p); omega) (by show Aa + ms * p + l * p + δ - l * p - Aa - 1 * (ms * p) ≤ d * p; omega)
              (by unfold ownB; exact decide_eq_true ⟨h, by show S + 1 ≤ 4294967296; omega, rfl⟩)
            rw [hN.1, hN.2] at hP
            simp only [e] at hP
            exact hP
        · refine chains_rest o k s a n ms l f d p A nn c w h i1 i2 e0 ?_
          simp only [decide_eq_true_eq, decide_eq_false_iff_not]
          cases k
          · exact .inl rfl
          · simp only [true_and] at hr
            simp only [true_and]
            right
            omega
      · exact chains_guard o k s a n ms l f d p A nn c w h i1 i2 (if_neg hg)
    · exact chains_period o k s a n ms l f d p A nn c w h (by simp only [decide_eq_true_eq, decide_eq_false_iff_not]; omega)
  · exact chains_sched o k s a n ms l f d p A nn c w h
end Go.Proofs.Ytpncbfhbiifncaa
