/-
  The walks of the statements PicoGrows and PicoSigns: each returns true at every input of its types; under: the tables hold what the program lays (LaidW).
-/
import Derived.Test.YtfhiiklpclkelaaDoorE
namespace Go.Proofs.YtfhiiklpclkelaaDoor
open Go Go.RowKit Go.Joins

theorem quo_small (a b d : Int) (ha1 : -4294967296 ≤ a) (ha2 : a ≤ 4294967296) (hb1 : 0 ≤ b) (hb2 : b ≤ 16777216) (hd1 : 1 ≤ d) : -72057594037927936 ≤ a * b / d ∧ a * b / d ≤ 72057594037927936 := by
  have hp : a.natAbs * b.natAbs ≤ 4294967296 * 16777216 := Nat.mul_le_mul (by omega) (by omega)
  have hab : -72057594037927936 ≤ a * b ∧ a * b ≤ 72057594037927936 := by
    have : (a * b).natAbs = a.natAbs * b.natAbs := Int.natAbs_mul a b
    omega
  generalize a * b = m at hab
  refine ⟨?_, ?_⟩
  · rw [Int.le_ediv_iff_mul_le (by omega)]
    have : (72057594037927936 : Int) * 1 ≤ 72057594037927936 * d := Int.mul_le_mul_of_nonneg_left hd1 (by omega)
    omega
  · exact Int.ediv_le_of_le_mul (by omega) (by
      have : (72057594037927936 : Int) * 1 ≤ 72057594037927936 * d := Int.mul_le_mul_of_nonneg_left hd1 (by omega)
      omega)

/-- pico.Scale where the sizes are small -/
theorem scale_small (a b d : Int) (w : World) (ha1 : -4294967296 ≤ a) (ha2 : a ≤ 4294967296) (hb1 : 0 ≤ b) (hb2 : b ≤ 16777216) (hd1 : 1 ≤ d) (hd2 : d ≤ 1152921504606846976) :
    Calls Tryd.prog 16 #[.int .i64 a, .int .i64 b, .int .i64 d] w fun e w' => e = .returned (.tuple #[.int .i64 (a * b / d), .int .i64 (a * b % d), .int .i64 0]) ∧ Below w.heap.size w w' := by
  have hp : a.natAbs * b.natAbs ≤ 4294967296 * 16777216 := Nat.mul_le_mul (by omega) (by omega)
  have hq := quo_small a b d ha1 ha2 hb1 hb2 hd1
  exact scale_ok a b d w (by omega) (by omega) (by omega) (by omega) hd1 hd2 (div_low _ _ (by omega) (by omega) (by omega)) (by omega) (by omega)

theorem grows_le (a b num d : Int) (hn : 0 ≤ num) (hd : 1 ≤ d) : (min a b) * num / d ≤ (max a b) * num / d :=
  Int.ediv_le_ediv (by omega) (Int.mul_le_mul_of_nonneg_right (by omega) hn)
theorem grows_add (a num d : Int) (hd : 1 ≤ d) : (a + d) * num / d = a * num / d + num := by
  rw [Int.add_mul, Int.mul_comm d num, Int.add_mul_ediv_right _ _ (by omega)]

set_option maxRecDepth 100000 in
set_option maxHeartbeats 400000 in
theorem grows_walk (a b num den : Int) (w : World) (hL : LaidW w) (ha1 : -2147483648 ≤ a) (ha2 : a ≤ 2147483647) (hb1 : -2147483648 ≤ b) (hb2 : b ≤ 2147483647) (hn1 : 0 ≤ num) (hn2 : num ≤ 65535) (hd1 : 0 ≤ den) (hd2 : den ≤ 65535) :
    Calls Tryd.prog 6 #[.int .i32 a, .int .i32 b, .int .u16 num, .int .u16 den] w fun e w' => e = .returned (.bool true) ∧ Below w.heap.size w w' := by
  go_enter Tryd.func6, Tryd.ntmps6
  go_wp2_with fail
  refine (live_any w hL).mono ?_
  rintro e w1 ⟨rfl, g1⟩
  go_wp2_with fail
  refine (scale_small _ num _ w1 (by omega) (by omega) (by omega) (by omega) (by omega) (by omega)).mono ?_
  rintro e w2 ⟨rfl, g2⟩
  have q1 := quo_small (min a b) num (den + 1) (by omega) (by omega) (by omega) (by omega) (by omega)
  go_wp2_with fail
  refine (scale_small _ num _ w2 (by omega) (by omega) (by omega) (by omega) (by omega) (by omega)).mono ?_
  rintro e w3 ⟨rfl, g3⟩
  go_wp2_with fail
  refine (scale_small _ num _ w3 (by omega) (by omega) (by omega) (by omega) (by omega) (by omega)).mono ?_
  rintro e w4 ⟨rfl, g4⟩
  go_wp2_with fail
  refine (scale_small _ num _ w4 (by omega) (by omega) (by omega) (by omega) (by omega) (by omega)).mono ?_
  rintro e w5 ⟨rfl, g5⟩
  have q4 := quo_small a num (den + 1) (by omega) (by omega) (by omega) (by omega) (by omega)
  have L1 := grows_le a b num (den + 1) hn1 (by omega)
  have L2 := grows_add a num (den + 1) (by omega)
  rw [L2]
  clear L2 q1
  generalize min a b * num / (den + 1) = x at *
  generalize max a b * num / (den + 1) = y at *
  generalize a * num / (den + 1) = z at *
  go_wp2
  go_ret
  refine ⟨ret_bool ?_, ?_⟩
  · simp
  · exact (((g1.trans (g2.mono g1.size)).trans (g3.mono (by have := g1.size; have := g2.size; omega))).trans (g4.mono (by have := g1.size; have := g2.size; have := g3.size; omega))).trans (g5.mono (by have := g1.size; have := g2.size; have := g3.size; have := g4.size; omega))


theorem signs_times (a num d k : Int) (hk : 1 ≤ k) : a * (k * num) / (k * d) = a * num / d ∧ a * (k * num) % (k * d) = k * (a * num % d) := by
  have e : a * (k * num) = k * (a * num) := by rw [← Int.mul_assoc, Int.mul_comm a k, Int.mul_assoc]
  rw [e]
  exact ⟨Int.mul_ediv_mul_of_pos _ _ (by omega), Int.mul_emod_mul_of_pos _ _ (by omega)⟩
theorem signs_zero (m d : Int) (h : m % d = 0) : (-m) / d = -(m / d) ∧ (-m) % d = 0 := by
  have hd : d ∣ m := Int.dvd_of_emod_eq_zero h
  exact ⟨Int.neg_ediv_of_dvd hd, Int.emod_eq_zero_of_dvd (Int.dvd_neg.2 hd)⟩
theorem signs_more (m d : Int) (hd : 1 ≤ d) (h : ¬ m % d = 0) : (-m) / d = -(m / d) - 1 ∧ (-m) % d = d - m % d := by
  have h0 := Int.emod_nonneg m (show d ≠ 0 by omega)
  have h1 := Int.emod_lt_of_pos m (show 0 < d by omega)
  have e := Int.mul_ediv_add_emod m d
  generalize m / d = q at *
  generalize m % d = r at *
  have key : -m = (d - r) + (-q - 1) * d := by
    rw [← e, Int.sub_mul, Int.neg_mul, Int.one_mul, Int.mul_comm q d]; omega
  refine ⟨?_, ?_⟩
  · rw [key, Int.add_mul_ediv_right _ _ (by omega), Int.ediv_eq_zero_of_lt (by omega) (by omega)]; omega
  · rw [key, Int.add_mul_emod_self_right, Int.emod_eq_of_lt (by omega) (by omega)]

theorem kd_small (k d : Int) (hk1 : 1 ≤ k) (hk2 : k ≤ 256) (hd1 : 1 ≤ d) (hd2 : d ≤ 65536) : 1 ≤ k * d ∧ k * d ≤ 16777216 := by
  have h1 : 1 * 1 ≤ k * d := Int.mul_le_mul hk1 hd1 (by omega) (by omega)
  have h2 : k * d ≤ 256 * 65536 := Int.mul_le_mul hk2 hd2 (by omega) (by omega)
  omega
theorem kn_small (k n : Int) (hk1 : 1 ≤ k) (hk2 : k ≤ 256) (hn1 : 0 ≤ n) (hn2 : n ≤ 65535) : 0 ≤ k * n ∧ k * n ≤ 16777216 := by
  have h1 : 0 ≤ k * n := Int.mul_nonneg (by omega) hn1
  have h2 : k * n ≤ 256 * 65535 := Int.mul_le_mul hk2 hn2 (by omega) (by omega)
  omega

set_option maxRecDepth 100000 in
set_option maxHeartbeats 400000 in
theorem signs_walk (a num den y : Int) (w : World) (hL : LaidW w) (ha1 : -2147483648 ≤ a) (ha2 : a ≤ 2147483647) (hn1 : 0 ≤ num) (hn2 : num ≤ 65535) (hd1 : 0 ≤ den) (hd2 : den ≤ 65535) (hy1 : 0 ≤ y) (hy2 : y ≤ 255) :
    Calls Tryd.prog 8 #[.int .i32 a, .int .u16 num, .int .u16 den, .int .u8 y] w fun e w' => e = .returned (.bool true) ∧ Below w.heap.size w w' := by
  have kd := kd_small (y + 1) (den + 1) (by omega) (by omega) (by omega) (by omega)
  have kn := kn_small (y + 1) num (by omega) (by omega) (by omega) (by omega)
  obtain ⟨kd1, kd2⟩ := kd
  obtain ⟨kn1, kn2⟩ := kn
  go_enter Tryd.func8, Tryd.ntmps8
  go_wp2_with fail
  refine (live_any w hL).mono ?_
  rintro e w1 ⟨rfl, g1⟩
  go_wp2_with fail
  refine (scale_small _ num _ w1 (by omega) (by omega) (by omega) (by omega) (by omega) (by omega)).mono ?_
  rintro e w2 ⟨rfl, g2⟩
  go_wp2_with fail
  refine (scale_small _ num _ w2 (by omega) (by omega) (by omega) (by omega) (by omega) (by omega)).mono ?_
  rintro e w3 ⟨rfl, g3⟩
  go_wp2_with fail
  refine (scale_small _ ((y + 1) * num) ((y + 1) * (den + 1)) w3 (by omega) (by omega) (by omega) (by omega) (by omega) (by omega)).mono ?_
  rintro e w4 ⟨rfl, g4⟩
  obtain ⟨t1, t2⟩ := signs_times a num (den + 1) (y + 1) (by omega)
  have qb := quo_small a num (den + 1) (by omega) (by omega) (by omega) (by omega) (by omega)
  have r0 := Int.emod_nonneg (a * num) (show den + 1 ≠ 0 by omega)
  have r1 := Int.emod_lt_of_pos (a * num) (show 0 < den + 1 by omega)
  have kr : 0 ≤ (y + 1) * (a * num % (den + 1)) ∧ (y + 1) * (a * num % (den + 1)) ≤ 256 * 65536 := ⟨Int.mul_nonneg (by omega) r0, Int.mul_le_mul (by omega) (by omega) (by omega) (by omega)⟩
  rw [t1, t2, Int.neg_mul]
  obtain ⟨kr1, kr2⟩ := kr
  obtain ⟨qb1, qb2⟩ := qb
  have GB : Hid (Below w.heap.size w w4) := hid (((g1.trans (g2.mono g1.size)).trans (g3.mono (by have := g1.size; have := g2.size; omega))).trans (g4.mono (by have := g1.size; have := g2.size; have := g3.size; omega)))
  clear t1 t2
  by_cases hz : a * num % (den + 1) = 0
  · obtain ⟨z1, z2⟩ := signs_zero _ _ hz
    rw [z1, z2]
    rw [hz] at kr1 kr2 ⊢
    clear z1 z2 hz r0 r1
    generalize a * num / (den + 1) = q at *
    go_wp2
    go_ret
    exact ⟨ret_bool (by simp), GB.out⟩
  · obtain ⟨z1, z2⟩ := signs_more _ _ (by omega) hz
    rw [z1, z2]
    clear z1 z2
    generalize a * num / (den + 1) = q at *
    generalize a * num % (den + 1) = r at *
    have hz' : (r == 0) = false := beq_eq_false_iff_ne.2 hz
    generalize hkr : (y + 1) * r = kr at *
    clear hz
    go_wp2
    go_ret
    exact ⟨ret_bool rfl, GB.out⟩
end Go.Proofs.YtfhiiklpclkelaaDoor
