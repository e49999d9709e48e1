/-
  pico.Scale in whole numbers: its parts and what is left are those of the division, down, of the product; under: what bits.Div64 answers at that product is given.
-/
import Derived.Test.YtinjhnflnfpoeaaGreatDoorD
namespace Go.Proofs.YtinjhnflnfpoeaaGreatDoor
open Go Go.RowKit Go.Joins

theorem same_mul (a b : Int) (h : a < 0 ↔ b < 0) : a * b = ((a.natAbs * b.natAbs : Nat) : Int) := by
  rw [Int.natCast_mul]
  by_cases ha : a < 0
  · have hb := h.1 ha
    rw [show (a.natAbs : Int) = -a by omega, show (b.natAbs : Int) = -b by omega, Int.neg_mul_neg]
  · have hb : ¬ b < 0 := fun x => ha (h.2 x)
    rw [show (a.natAbs : Int) = a by omega, show (b.natAbs : Int) = b by omega]
theorem opp_mul (a b : Int) (h : ¬ (a < 0 ↔ b < 0)) : a * b = -((a.natAbs * b.natAbs : Nat) : Int) := by
  rw [Int.natCast_mul]
  by_cases ha : a < 0
  · have hb : ¬ b < 0 := fun x => h ⟨fun _ => x, fun _ => ha⟩
    rw [show (a.natAbs : Int) = -a by omega, show (b.natAbs : Int) = b by omega, Int.neg_mul, Int.neg_neg]
  · have hb : b < 0 := Classical.byContradiction fun x => h ⟨fun y => absurd y ha, fun y => absurd y x⟩
    rw [show (a.natAbs : Int) = a by omega, show (b.natAbs : Int) = -b by omega, Int.mul_neg, Int.neg_neg]

/-- division of a number below 0, down -/
theorem neg_div0 (p d : Nat) (hd : 1 ≤ d) (h : p % d = 0) : -(p : Int) / (d : Int) = -((p / d : Nat) : Int) ∧ -(p : Int) % (d : Int) = 0 := by
  have e : p = d * (p / d) := by have := Nat.div_add_mod p d; omega
  generalize p / d = q at *
  subst e
  have hd0 : (d : Int) ≠ 0 := by omega
  refine ⟨?_, ?_⟩
  · rw [show (-((d * q : Nat) : Int)) = (d : Int) * (-(q : Int)) by rw [Int.natCast_mul, Int.mul_neg], Int.mul_ediv_cancel_left _ hd0]
  · rw [show (-((d * q : Nat) : Int)) = (d : Int) * (-(q : Int)) by rw [Int.natCast_mul, Int.mul_neg], Int.mul_emod_right]
theorem neg_div1 (p d : Nat) (hd : 1 ≤ d) (h : 0 < p % d) : -(p : Int) / (d : Int) = -(((p / d : Nat) : Int) + 1) ∧ -(p : Int) % (d : Int) = (d : Int) - ((p % d : Nat) : Int) := by
  have hm : p % d < d := Nat.mod_lt _ hd
  have e : p = d * (p / d) + p % d := (Nat.div_add_mod p d).symm
  generalize p / d = q at *
  generalize p % d = r at *
  subst e
  have hd0 : 0 < (d : Int) := by omega
  have key : (-((d * q + r : Nat) : Int)) = ((d : Int) - r) + (-((q : Int) + 1)) * (d : Int) := by
    rw [Int.natCast_add, Int.natCast_mul, Int.neg_mul, Int.add_mul, Int.one_mul, Int.mul_comm (q : Int) (d : Int)]; omega
  refine ⟨?_, ?_⟩
  · rw [key, Int.add_mul_ediv_right _ _ (by omega), Int.ediv_eq_zero_of_lt (by omega) (by omega)]; omega
  · rw [key, Int.add_mul_emod_self_right, Int.emod_eq_of_lt (by omega) (by omega)]

theorem hi_lt (p d : Nat) (hd : 1 ≤ d) (h : p / d ≤ 1152921504606846976) : p / 18446744073709551616 < d := by
  have h1 : p < d * 1152921504606846977 := by
    have := (Nat.div_lt_iff_lt_mul hd).1 (Nat.lt_succ_of_le h)
    rw [Nat.mul_comm]; exact this
  exact Nat.div_lt_of_lt_mul (by omega)

/-- pico.Scale, where the parts are a time -/
theorem scale_ok (a b d : Int) (w : World) (ha1 : -1152921504606846976 ≤ a) (ha2 : a ≤ 1152921504606846976) (hb1 : -1152921504606846976 ≤ b) (hb2 : b ≤ 1152921504606846976)
    (hd1 : 1 ≤ d) (hd2 : d ≤ 1152921504606846976) (hD : DivSaid (a.natAbs * b.natAbs) d.toNat) (hq1 : -1152921504606846976 ≤ a * b / d) (hq2 : a * b / d ≤ 1152921504606846976) :
    Calls Tryz.prog 106 #[.int .i64 a, .int .i64 b, .int .i64 d] w fun e w' => e = .returned (.tuple #[.int .i64 (a * b / d), .int .i64 (a * b % d), .int .i64 0]) ∧ Below w.heap.size w w' := by
  obtain ⟨n, rfl⟩ := Int.eq_ofNat_of_zero_le (show 0 ≤ d by omega)
  rw [Int.toNat_natCast] at hD
  by_cases hs : (a < 0 ↔ b < 0)
  · have hm := same_mul a b hs
    rw [hm] at hq1 hq2 ⊢
    rw [← Int.natCast_ediv] at hq1 hq2
    rw [← Int.natCast_ediv, ← Int.natCast_emod]
    have hq : a.natAbs * b.natAbs / n ≤ 1152921504606846976 := by omega
    exact scale_same a b n w ha1 ha2 hb1 hb2 (by omega) (by omega) hs hD (hi_lt _ _ (by omega) hq) hq
  · have hm := opp_mul a b hs
    rw [hm] at hq1 hq2 ⊢
    by_cases hr : a.natAbs * b.natAbs % n = 0
    · obtain ⟨e1, e2⟩ := neg_div0 _ n (by omega) hr
      rw [e1] at hq1 hq2 ⊢
      rw [e2]
      have hq : a.natAbs * b.natAbs / n ≤ 1152921504606846976 := by omega
      exact scale_opp0 a b n w ha1 ha2 hb1 hb2 (by omega) (by omega) hs hD (hi_lt _ _ (by omega) hq) hq hr
    · obtain ⟨e1, e2⟩ := neg_div1 _ n (by omega) (Nat.pos_of_ne_zero hr)
      rw [e1] at hq1 hq2 ⊢
      rw [e2]
      have hq : a.natAbs * b.natAbs / n < 1152921504606846976 := by omega
      exact scale_opp a b n w ha1 ha2 hb1 hb2 (by omega) (by omega) hs hD (hi_lt _ _ (by omega) (by omega)) hq (Nat.pos_of_ne_zero hr)

/-- pico.Scale, where the parts are no time -/
theorem scale_ov (a b d : Int) (w : World) (ha1 : -1152921504606846976 ≤ a) (ha2 : a ≤ 1152921504606846976) (hb1 : -1152921504606846976 ≤ b) (hb2 : b ≤ 1152921504606846976)
    (hd1 : 1 ≤ d) (hd2 : d ≤ 1152921504606846976) (hD : a.natAbs * b.natAbs / 18446744073709551616 < d.toNat → DivSaid (a.natAbs * b.natAbs) d.toNat) (hq : a * b / d < -1152921504606846976 ∨ 1152921504606846976 < a * b / d) :
    Calls Tryz.prog 106 #[.int .i64 a, .int .i64 b, .int .i64 d] w fun e w' => e = .returned (.tuple #[.int .i64 0, .int .i64 0, .int .i64 2]) ∧ Below w.heap.size w w' := by
  obtain ⟨n, rfl⟩ := Int.eq_ofNat_of_zero_le (show 0 ≤ d by omega)
  rw [Int.toNat_natCast] at hD
  by_cases hh : a.natAbs * b.natAbs / 18446744073709551616 < n
  · by_cases hg : 1152921504606846976 < a.natAbs * b.natAbs / n
    · exact scale_over a b n w ha1 ha2 hb1 hb2 (by omega) (by omega) (hD hh) hh hg
    · by_cases hs : (a < 0 ↔ b < 0)
      · have hm := same_mul a b hs
        rw [hm, ← Int.natCast_ediv] at hq
        generalize a.natAbs * b.natAbs / n = q at *
        omega
      · have hm := opp_mul a b hs
        rw [hm] at hq
        by_cases hr : a.natAbs * b.natAbs % n = 0
        · obtain ⟨e1, e2⟩ := neg_div0 _ n (by omega) hr
          rw [e1] at hq
          clear e1 e2
          generalize a.natAbs * b.natAbs / n = q at *
          omega
        · obtain ⟨e1, e2⟩ := neg_div1 _ n (by omega) (Nat.pos_of_ne_zero hr)
          rw [e1] at hq
          have hv : a.natAbs * b.natAbs / n = 1152921504606846976 := by
            clear e1 e2
            generalize a.natAbs * b.natAbs / n = q at *
            omega
          exact scale_opp_over a b n w ha1 ha2 hb1 hb2 (by omega) (by omega) hs (hD hh) hh hv (Nat.pos_of_ne_zero hr)
  · exact scale_over_hi a b n w ha1 ha2 hb1 hb2 (by omega) (by omega) (by omega)

/-- pico.Scale at a small product -/
theorem mul_small {a b : Int} {A B : Nat} (ha : a.natAbs ≤ A) (hb : b.natAbs ≤ B) : a.natAbs * b.natAbs ≤ A * B := Nat.mul_le_mul ha hb
end Go.Proofs.YtinjhnflnfpoeaaGreatDoor
