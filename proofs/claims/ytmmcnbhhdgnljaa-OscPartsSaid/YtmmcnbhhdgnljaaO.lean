/-
  bits.Div64: at a high word less than what is divided by (at most 2^60) its quotient and its rest are those of the number of two words; no other condition.
-/
import Derived.Test.YtmmcnbhhdgnljaaM
import Derived.Laws.BitsAllLaws
import Derived.Lib.ItoaNum
namespace Go.Proofs.Ytmmcnbhhdgnljaa
open Go Go.RowKit

theorem shift_of (y : Nat) (h2 : 2 ≤ y) (h4 : y ≤ 1152921504606846976) : ∃ s, 3 ≤ s ∧ s ≤ 62 ∧ s + Lib.bitLen y = 64 ∧ 9223372036854775808 ≤ y * 2 ^ s ∧ y * 2 ^ s < 18446744073709551616 := by
  obtain ⟨b1, b2, b3⟩ := Lib.bitLenAux_bounds 64 y (by omega) (by omega)
  have b4 : Lib.bitLen y ≤ 61 := Lib.bitLen_le y 61 (by omega) (by omega)
  have hb : Lib.bitLenAux 64 y = Lib.bitLen y := rfl
  rw [hb] at b1 b2 b3
  have b5 : 2 ≤ Lib.bitLen y := by
    rcases Nat.lt_or_ge (Lib.bitLen y) 2 with h | h
    · have : Lib.bitLen y = 1 := by omega
      rw [this] at b3
      omega
    · exact h
  generalize Lib.bitLen y = b at *
  refine ⟨64 - b, by omega, by omega, by omega, ?_, ?_⟩
  · have e : (9223372036854775808 : Nat) = 2 ^ (b - 1) * 2 ^ (64 - b) := by rw [← Nat.pow_add, show b - 1 + (64 - b) = 63 by omega]
    rw [e]
    exact Nat.mul_le_mul_right _ b2
  · have e : (18446744073709551616 : Nat) = 2 ^ b * 2 ^ (64 - b) := by rw [← Nat.pow_add, show b + (64 - b) = 64 by omega]
    rw [e]
    exact Nat.mul_lt_mul_of_pos_right b3 (Nat.two_pow_pos _)

theorem lz_said (y s : Nat) (hy : y < 18446744073709551616) (hs : s + Lib.bitLen y = 64) : LzSaid (y : Int) s := fun w => by
  refine (Try.bits_LeadingZeros64 y w (by omega) (by omega)).mono ?_
  rintro e w' ⟨rfl, rfl⟩
  exact ⟨ret_int (by rw [Int.toNat_natCast]; omega), rfl⟩

/-- the low word, shifted: what goes over, and what stays -/
theorem low_parts (lo s : Nat) (hs : s ≤ 64) : lo * 2 ^ s = lo / 2 ^ (64 - s) * 18446744073709551616 + lo * 2 ^ s % 18446744073709551616 := by
  have e : (18446744073709551616 : Nat) = 2 ^ (64 - s) * 2 ^ s := by rw [← Nat.pow_add, show 64 - s + s = 64 by omega]
  have d : lo * 2 ^ s / 18446744073709551616 = lo / 2 ^ (64 - s) := by rw [e, Nat.mul_div_mul_right _ _ (Nat.two_pow_pos _)]
  have := Nat.div_add_mod (lo * 2 ^ s) 18446744073709551616
  rw [d] at this
  omega
theorem low_lt (lo s : Nat) (hs : s ≤ 64) (h : lo < 18446744073709551616) : lo / 2 ^ (64 - s) < 2 ^ s := by
  have e : (18446744073709551616 : Nat) = 2 ^ (64 - s) * 2 ^ s := by rw [← Nat.pow_add, show 64 - s + s = 64 by omega]
  exact Nat.div_lt_of_lt_mul (by rw [← e]; exact h)

theorem cast_shl (a s : Nat) : ((a : Int) * 2 ^ s) = ((a * 2 ^ s : Nat) : Int) := by rw [Int.natCast_mul, Int.natCast_pow]; rfl
theorem cast_shr (a s : Nat) : ((a : Int) / 2 ^ s) = ((a / 2 ^ s : Nat) : Int) := by rw [Int.natCast_ediv, Int.natCast_pow]; rfl

set_option maxRecDepth 10000 in
theorem div_high (p d : Nat) (h0 : 0 < p / 18446744073709551616) (hlt : p / 18446744073709551616 < d) (hd : d ≤ 1152921504606846976) : DivSaid p d := fun w => by
  obtain ⟨s, s1, s2, s3, y1, y2⟩ := shift_of d (by omega) hd
  have hlo : p % 18446744073709551616 < 18446744073709551616 := Nat.mod_lt _ (by decide)
  have hp := Nat.div_add_mod p 18446744073709551616
  generalize p / 18446744073709551616 = hi at *
  generalize p % 18446744073709551616 = lo at *
  have k0 : 0 < 2 ^ s := Nat.two_pow_pos s
  have lp := low_parts lo s (by omega)
  have ll := low_lt lo s (by omega) hlo
  have hH : hi * 2 ^ s + 2 ^ s ≤ d * 2 ^ s := by
    have := Nat.mul_le_mul_right (2 ^ s) (show hi + 1 ≤ d by omega)
    rwa [Nat.add_mul, Nat.one_mul] at this
  have hHL : hi * 2 ^ s + lo / 2 ^ (64 - s) < d * 2 ^ s := by omega
  have hHb : hi * 2 ^ s < 18446744073709551616 := by omega
  have hLb : lo / 2 ^ (64 - s) < 18446744073709551616 := by omega
  have hMb : lo * 2 ^ s % 18446744073709551616 < 18446744073709551616 := Nat.mod_lt _ (by decide)
  have hor : (hi * 2 ^ s) ||| (lo / 2 ^ (64 - s)) = hi * 2 ^ s + lo / 2 ^ (64 - s) := nat_join s _ _ (Nat.mul_mod_left _ _) ll
  have hN : p * 2 ^ s = (hi * 2 ^ s + lo / 2 ^ (64 - s)) * 18446744073709551616 + lo * 2 ^ s % 18446744073709551616 := by
    rw [← hp, Nat.add_mul, Nat.add_mul, Nat.mul_assoc, Nat.mul_comm 18446744073709551616]
    omega
  have hw := div64_walk (hi : Int) (lo : Int) (d : Int) ((d * 2 ^ s : Nat) : Int) ((d * 2 ^ s / 4294967296 : Nat) : Int) ((d * 2 ^ s % 4294967296 : Nat) : Int) ((hi * 2 ^ s : Nat) : Int) ((lo / 2 ^ (64 - s) : Nat) : Int) ((hi * 2 ^ s + lo / 2 ^ (64 - s) : Nat) : Int)
    ((lo * 2 ^ s % 18446744073709551616 : Nat) : Int) ((lo * 2 ^ s % 18446744073709551616 / 4294967296 : Nat) : Int) ((lo * 2 ^ s % 18446744073709551616 % 4294967296 : Nat) : Int) s w (by omega) (by omega) (by omega) (by omega) (by omega) s1 s2 (lz_said d s (by omega) s3)
    (by rw [cast_shl]; exact Go.Proofs.Mul64.wrapN _ y2) (by rw [Int.natCast_ediv]; rfl) (Go.Proofs.Mul64.maskN _ y2) (by rw [cast_shl]; exact Go.Proofs.Mul64.wrapN _ hHb) (cast_shr _ _) (by rw [bits_or_u64_nat _ _ hHb hLb, hor]) (by rw [cast_shl]; exact Go.Proofs.Mul64.wrapM _)
    (by rw [Int.natCast_ediv]; rfl) (Go.Proofs.Mul64.maskN _ hMb)
    (by omega) (by omega) (by omega) (by omega) (by omega) (by omega) (by omega) (by omega)
    ⟨by omega, by omega, by omega, by omega, by omega, by omega, by omega, by omega, by omega⟩ (by omega) (by omega)
  refine hw.mono ?_
  rintro e w' ⟨rfl, rfl⟩
  generalize hYY : d * 2 ^ s = Y at *
  generalize hUU : hi * 2 ^ s + lo / 2 ^ (64 - s) = U at *
  generalize lo * 2 ^ s % 18446744073709551616 = M at *
  have fin := dwhole (N := (p : Int)) (y := (d : Int)) (U := (U : Int)) (un1 := ((M / 4294967296 : Nat) : Int)) (un0 := ((M % 4294967296 : Nat) : Int)) (Y := (Y : Int)) (k := ((2 ^ s : Nat) : Int)) (by omega) (by omega)
    (by rw [← Int.natCast_mul, hYY]) (by
      rw [← Int.natCast_mul, hN]
      omega) rfl rfl rfl rfl
  refine ⟨ret_two ?_ ?_, Below.refl _ _⟩
  · rw [fin.1, Int.natCast_ediv]
  · rw [show ((2 : Int) ^ s) = ((2 ^ s : Nat) : Int) by rw [Int.natCast_pow]; rfl, fin.2, Int.natCast_emod]

theorem div_low (p d : Nat) (h : p < 18446744073709551616) (hd : 1 ≤ d) (hd2 : d < 18446744073709551616) : DivSaid p d := fun w => by
  have e1 : p / 18446744073709551616 = 0 := Nat.div_eq_of_lt h
  have e2 : p % 18446744073709551616 = p := Nat.mod_eq_of_lt h
  rw [e1, e2]
  exact div64_low p d w h hd hd2


theorem div_any (p d : Nat) (hd0 : 1 ≤ d) (hlt : p / 18446744073709551616 < d) (hd : d ≤ 1152921504606846976) : DivSaid p d := by
  by_cases h : p / 18446744073709551616 = 0
  · exact div_low p d (by omega) hd0 (by omega)
  · exact div_high p d (by omega) hlt hd
end Go.Proofs.Ytmmcnbhhdgnljaa
