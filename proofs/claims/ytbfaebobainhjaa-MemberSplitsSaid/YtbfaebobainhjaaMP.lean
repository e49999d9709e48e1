/-
  Plain words of layer 8 (no program): members as the bits of a number below 65536: a bit put in, taken out, counted. No condition but what each head says.
-/
import Derived.Laws.BitsAllLaws
namespace Go.Proofs.Ytbfaebobainhjaa
open Go

/-- Bit k of m is 1; m with it; m without it; how many of the lowest n are 1. -/
def hs (m k : Nat) : Bool := decide (m / 2 ^ k % 2 = 1)
def addb (m k : Nat) : Nat := if hs m k then m else m + 2 ^ k
def subb (m k : Nat) : Nat := if hs m k then m - 2 ^ k else m
def cn (m : Nat) : Nat → Nat
  | 0 => 0
  | n + 1 => cn m n + m / 2 ^ n % 2

theorem hs_bit (m k : Nat) : hs m k = m.testBit k := (Nat.testBit_eq_decide_div_mod_eq ..).symm
theorem one_bit (m k : Nat) : m / 2 ^ k % 2 = if hs m k then 1 else 0 := by
  unfold hs
  by_cases h : m / 2 ^ k % 2 = 1
  · simp [h]
  · simp [h]; omega
theorem pow15 (k : Nat) (h : k ≤ 15) : 2 ^ k ≤ 32768 := by
  have := Nat.pow_le_pow_right (show 0 < 2 by omega) h; simpa using this
theorem and_pow (m k : Nat) : m &&& 2 ^ k = if hs m k then 2 ^ k else 0 := by
  rw [nat_bit, one_bit]; split <;> simp
theorem or_pow (m k : Nat) : m ||| 2 ^ k = addb m k := by
  unfold addb
  split
  · rename_i h
    rw [hs_bit] at h
    refine Nat.eq_of_testBit_eq fun j => ?_
    rw [Nat.testBit_or, Nat.testBit_two_pow]
    by_cases e : k = j
    · subst e; simp [h]
    · simp [e]
  · rename_i h
    have h0 : m / 2 ^ k % 2 = 0 := by rw [one_bit, if_neg h]
    have hp := Nat.two_pow_pos k
    have e1 : m = 2 ^ (k + 1) * (m / 2 ^ k / 2) + m % 2 ^ k := by
      have a1 := Nat.div_add_mod m (2 ^ k)
      have a2 := Nat.div_add_mod (m / 2 ^ k) 2
      rw [h0, Nat.add_zero] at a2
      rw [Nat.pow_succ, Nat.mul_assoc, a2, a1]
    have hb := Nat.mod_lt m hp
    generalize m % 2 ^ k = b at e1 hb
    generalize m / 2 ^ k / 2 = a at e1
    have hb2 : b < 2 ^ (k + 1) := by rw [Nat.pow_succ]; omega
    have hb3 : 2 ^ k + b < 2 ^ (k + 1) := by rw [Nat.pow_succ]; omega
    rw [e1, ← nat_join (k + 1) (2 ^ (k + 1) * a) b (by simp) hb2, Nat.or_assoc, Nat.or_comm b, nat_join k (2 ^ k) b (by simp) hb, nat_join (k + 1) _ _ (by simp) hb3]
    rw [nat_join (k + 1) (2 ^ (k + 1) * a) b (by simp) hb2]
    omega
theorem addb_bit (m k j : Nat) : (addb m k).testBit j = (m.testBit j || decide (k = j)) := by
  rw [← or_pow, Nat.testBit_or, Nat.testBit_two_pow]
theorem addb_lt (m k : Nat) (hm : m < 65536) (hk : k ≤ 15) : addb m k < 65536 := by
  rw [← or_pow]
  exact Nat.or_lt_two_pow (n := 16) hm (Nat.pow_lt_pow_right (by omega) (by omega))
theorem subb_add (m k : Nat) (h : hs m k = true) : addb (m - 2 ^ k) k = m := by
  have h1 : m / 2 ^ k % 2 = 1 := by rw [one_bit, if_pos h]
  have hp := Nat.two_pow_pos k
  have h2 : 2 ^ k ≤ m := by
    apply Nat.le_of_not_lt; intro hlt
    rw [Nat.div_eq_of_lt hlt] at h1; omega
  have h3 : (m - 2 ^ k) / 2 ^ k = m / 2 ^ k - 1 := by
    have := Nat.sub_mul_div m (2 ^ k) 1
    rwa [Nat.mul_one] at this
  have h4 : hs (m - 2 ^ k) k = false := by
    unfold hs; rw [h3, decide_eq_false_iff_not]; omega
  unfold addb; rw [if_neg (by rw [h4]; decide)]; omega
theorem subb_bit (m k j : Nat) : (subb m k).testBit j = (m.testBit j && !decide (k = j)) := by
  unfold subb
  split
  · rename_i h
    have h1 := subb_add m k h
    have hp := Nat.two_pow_pos k
    by_cases e : k = j
    · subst e
      have h3 : (m - 2 ^ k) / 2 ^ k = m / 2 ^ k - 1 := by
        have := Nat.sub_mul_div m (2 ^ k) 1
        rwa [Nat.mul_one] at this
      have h5 : m / 2 ^ k % 2 = 1 := by rw [one_bit, if_pos h]
      rw [← hs_bit]; unfold hs
      rw [h3]; simp; omega
    · have h2 := addb_bit (m - 2 ^ k) k j
      rw [h1] at h2
      rw [h2]; simp [e]
  · rename_i h
    by_cases e : k = j
    · subst e; rw [hs_bit] at h; simp at h; simp [h]
    · simp [e]
theorem subb_le (m k : Nat) : subb m k ≤ m := by
  unfold subb; split
  · exact Nat.sub_le ..
  · exact Nat.le_refl _
theorem andNot_pow (m k : Nat) (hm : m < 65536) (hk : k ≤ 15) : m &&& (65535 - 2 ^ k) = subb m k := by
  refine Nat.eq_of_testBit_eq fun j => ?_
  have hp := pow15 k hk
  rw [subb_bit, Nat.testBit_and, show 65535 - 2 ^ k = 2 ^ 16 - (2 ^ k + 1) by omega, Nat.testBit_two_pow_sub_succ (by omega), Nat.testBit_two_pow]
  by_cases hj : j < 16
  · simp [hj]
  · have : m.testBit j = false := Nat.testBit_lt_two_pow (Nat.lt_of_lt_of_le hm (by
      have := Nat.pow_le_pow_right (show 0 < 2 by omega) (show 16 ≤ j by omega); simpa using this))
    simp [this]
theorem and_self0 (m : Nat) : m &&& 65535 = m % 65536 := Nat.and_two_pow_sub_one_eq_mod m 16

/-! What follows of members. -/
theorem hs_addb (m k j : Nat) : hs (addb m k) j = (hs m j || decide (k = j)) := by rw [hs_bit, hs_bit, addb_bit]
theorem hs_subb (m k j : Nat) : hs (subb m k) j = (hs m j && !decide (k = j)) := by rw [hs_bit, hs_bit, subb_bit]
theorem addb_comm (m a b : Nat) : addb (addb m a) b = addb (addb m b) a := by
  refine Nat.eq_of_testBit_eq fun j => ?_
  simp only [addb_bit, Bool.or_assoc, Bool.or_comm (decide (a = j))]
theorem subb_comm (m a b : Nat) : subb (subb m a) b = subb (subb m b) a := by
  refine Nat.eq_of_testBit_eq fun j => ?_
  simp only [subb_bit, Bool.and_assoc, Bool.and_comm (!decide (a = j))]
theorem cn_same (x y a : Nat) (h : ∀ j, j ≠ a → hs x j = hs y j) : ∀ n, n ≤ a → cn x n = cn y n
  | 0, _ => rfl
  | n + 1, hn => by rw [cn, cn, cn_same x y a h n (by omega), one_bit, one_bit, h n (by omega)]
theorem cn_one (x y a : Nat) (h : ∀ j, j ≠ a → hs x j = hs y j) (hx : hs x a = true) (hy : hs y a = false) : ∀ n, a < n → cn x n = cn y n + 1
  | 0, hn => by omega
  | n + 1, hn => by
    by_cases e : n = a
    · subst e
      rw [cn, cn, cn_same x y n h n (Nat.le_refl _), one_bit, one_bit, hx, hy]; simp
    · rw [cn, cn, cn_one x y a h hx hy n (by omega), one_bit, one_bit, h n e]; omega
theorem cn_addb (m a : Nat) (ha : a < 16) : cn (addb m a) 16 = cn (subb m a) 16 + 1 :=
  cn_one _ _ a (fun j hj => by rw [hs_addb, hs_subb, decide_eq_false (fun e : a = j => hj e.symm)]; simp) (by rw [hs_addb]; simp) (by rw [hs_subb]; simp) 16 ha
theorem cn_le (m : Nat) : ∀ n, cn m n ≤ n
  | 0 => Nat.le_refl _
  | n + 1 => by have := cn_le m n; rw [cn]; omega
theorem cn_high (m : Nat) : ∀ n, cn m (8 + n) = cn m 8 + cn (m / 256) n
  | 0 => rfl
  | n + 1 => by
    show cn m (8 + n) + m / 2 ^ (8 + n) % 2 = cn m 8 + (cn (m / 256) n + m / 256 / 2 ^ n % 2)
    rw [cn_high m n, Nat.div_div_eq_div_mul, show (256 : Nat) * 2 ^ n = 2 ^ (8 + n) by rw [Nat.pow_add], Nat.add_assoc]
theorem cn_low (m : Nat) : ∀ n, n ≤ 8 → cn (m % 256) n = cn m n
  | 0, _ => rfl
  | n + 1, hn => by
    rw [cn, cn, cn_low m n (by omega), one_bit, one_bit, hs_bit, hs_bit, show (256 : Nat) = 2 ^ 8 by decide, Nat.testBit_mod_two_pow, decide_eq_true (show n < 8 by omega), Bool.true_and]
/-- By halves. -/
theorem cn_halves (m : Nat) : cn m 16 = cn (m / 256) 8 + cn (m % 256) 8 := by
  rw [cn_low m 8 (Nat.le_refl _), show (16 : Nat) = 8 + 8 by decide, cn_high, Nat.add_comm]
end Go.Proofs.Ytbfaebobainhjaa
