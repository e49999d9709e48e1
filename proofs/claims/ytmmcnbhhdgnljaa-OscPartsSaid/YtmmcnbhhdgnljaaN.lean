/-
  Plain arithmetic behind bits.Div64: the school division by two halves, the estimate of each half corrected in at most two steps; conditions in each head.
-/
namespace Go.Proofs.Ytmmcnbhhdgnljaa

/-- Y is two halves, n1 the upper with its top bit, U below Y, d a half -/
structure DCtx (Y n1 n0 U d : Int) : Prop where
  y : Y = n1 * 4294967296 + n0
  a1 : 2147483648 ≤ n1
  a2 : n1 < 4294967296
  b1 : 0 ≤ n0
  b2 : n0 < 4294967296
  u1 : 0 ≤ U
  u2 : U < Y
  d1 : 0 ≤ d
  d2 : d < 4294967296

/-- q is no less than the quotient, and r what is left of U by the upper half -/
structure DInv (Y n1 U d q r : Int) : Prop where
  q0 : 0 ≤ q
  q1 : q ≤ 4294967297
  r0 : 0 ≤ r
  r1 : r < 4294967296
  eq : q * n1 + r = U
  ge : (U * 4294967296 + d) / Y ≤ q

theorem expand (q n1 n0 : Int) : q * (n1 * 4294967296 + n0) = q * n1 * 4294967296 + q * n0 := by
  rw [Int.mul_add, Int.mul_assoc]

theorem dstart {Y n1 n0 U d : Int} (c : DCtx Y n1 n0 U d) : DInv Y n1 U d (U / n1) (U - U / n1 * n1) := by
  obtain ⟨hy, a1, a2, b1, b2, u1, u2, d1, d2⟩ := c
  have e := Int.mul_ediv_add_emod U n1
  have m0 := Int.emod_nonneg U (show n1 ≠ 0 by omega)
  have m1 := Int.emod_lt_of_pos U (show 0 < n1 by omega)
  have hq0 : 0 ≤ U / n1 := Int.ediv_nonneg u1 (by omega)
  have hc : n1 * (U / n1) = U / n1 * n1 := Int.mul_comm _ _
  rw [hc] at e
  generalize hr : U % n1 = r at *
  have hq1 : U / n1 < 4294967298 := Int.ediv_lt_of_lt_mul (by omega) (by omega)
  generalize U / n1 = q at *
  have x := expand (q + 1) n1 n0
  have y := Int.mul_nonneg (show 0 ≤ q + 1 by omega) b1
  have z : (q + 1) * n1 = q * n1 + n1 := by rw [Int.add_mul, Int.one_mul]
  refine ⟨hq0, by omega, by omega, by omega, by omega, ?_⟩
  have : (U * 4294967296 + d) / Y < q + 1 := Int.ediv_lt_of_lt_mul (by omega) (by rw [hy, x, z]; omega)
  omega

theorem dtop {Y n1 n0 U d : Int} (c : DCtx Y n1 n0 U d) : 0 ≤ (U * 4294967296 + d) / Y ∧ (U * 4294967296 + d) / Y < 4294967296 := by
  obtain ⟨hy, a1, a2, b1, b2, u1, u2, d1, d2⟩ := c
  exact ⟨Int.ediv_nonneg (by omega) (by omega), Int.ediv_lt_of_lt_mul (by omega) (by omega)⟩

/-- the loop's test says no -/
theorem dno {Y n1 n0 U d q r : Int} (c : DCtx Y n1 n0 U d) (i : DInv Y n1 U d q r) (h : q * n0 ≤ 4294967296 * r + d) : q = (U * 4294967296 + d) / Y := by
  obtain ⟨hy, a1, a2, b1, b2, u1, u2, d1, d2⟩ := c
  obtain ⟨q0, q1, r0, r1, eq, ge⟩ := i
  have x := expand q n1 n0
  have : q ≤ (U * 4294967296 + d) / Y := (Int.le_ediv_iff_mul_le (by omega)).2 (by rw [hy, x]; omega)
  omega

/-- it says yes: one less is no less still -/
theorem dyes {Y n1 n0 U d q r : Int} (c : DCtx Y n1 n0 U d) (i : DInv Y n1 U d q r) (h : 4294967296 ≤ q ∨ 4294967296 * r + d < q * n0) : (U * 4294967296 + d) / Y ≤ q - 1 := by
  have t := dtop c
  obtain ⟨hy, a1, a2, b1, b2, u1, u2, d1, d2⟩ := c
  obtain ⟨q0, q1, r0, r1, eq, ge⟩ := i
  rcases h with h | h
  · omega
  · have x := expand q n1 n0
    have : (U * 4294967296 + d) / Y < q := Int.ediv_lt_of_lt_mul (by omega) (by rw [hy, x]; omega)
    omega

theorem dnext {Y n1 n0 U d q r : Int} (c : DCtx Y n1 n0 U d) (i : DInv Y n1 U d q r) (h : 4294967296 ≤ q ∨ 4294967296 * r + d < q * n0) (hr : r + n1 < 4294967296) : DInv Y n1 U d (q - 1) (r + n1) := by
  have t := dtop c
  have y := dyes c i h
  obtain ⟨hy, a1, a2, b1, b2, u1, u2, d1, d2⟩ := c
  obtain ⟨q0, q1, r0, r1, eq, ge⟩ := i
  have z : (q - 1) * n1 = q * n1 - n1 := by rw [Int.sub_mul, Int.one_mul]
  exact ⟨by omega, by omega, by omega, by omega, by rw [z]; omega, y⟩

/-- and where it breaks off, it is the quotient -/
theorem dbreak {Y n1 n0 U d q r : Int} (c : DCtx Y n1 n0 U d) (i : DInv Y n1 U d q r) (h : 4294967296 ≤ q ∨ 4294967296 * r + d < q * n0) (hr : 4294967296 ≤ r + n1) : q - 1 = (U * 4294967296 + d) / Y := by
  have t := dtop c
  have y := dyes c i h
  obtain ⟨hy, a1, a2, b1, b2, u1, u2, d1, d2⟩ := c
  obtain ⟨q0, q1, r0, r1, eq, ge⟩ := i
  have z : (q - 1) * n1 = q * n1 - n1 := by rw [Int.sub_mul, Int.one_mul]
  have x := expand (q - 1) n1 n0
  have k : (q - 1) * n0 ≤ 4294967296 * 4294967296 := Int.mul_le_mul (by omega) (by omega) b1 (by omega)
  have : q - 1 ≤ (U * 4294967296 + d) / Y := (Int.le_ediv_iff_mul_le (by omega)).2 (by rw [hy, x, z]; omega)
  omega

/-- what is left, reckoned going around -/
theorem dleft {Y n1 n0 U d q : Int} (c : DCtx Y n1 n0 U d) (hY : Y < 18446744073709551616) (hq : q = (U * 4294967296 + d) / Y) :
    ((U * 4294967296 % 18446744073709551616 + d) % 18446744073709551616 - q * Y % 18446744073709551616) % 18446744073709551616 = (U * 4294967296 + d) % Y ∧ 0 ≤ (U * 4294967296 + d) % Y ∧ (U * 4294967296 + d) % Y < Y := by
  obtain ⟨hy, a1, a2, b1, b2, u1, u2, d1, d2⟩ := c
  have e := Int.mul_ediv_add_emod (U * 4294967296 + d) Y
  have m0 := Int.emod_nonneg (U * 4294967296 + d) (show Y ≠ 0 by omega)
  have m1 := Int.emod_lt_of_pos (U * 4294967296 + d) (show 0 < Y by omega)
  have hc : Y * ((U * 4294967296 + d) / Y) = q * Y := by rw [hq, Int.mul_comm]
  rw [hc] at e
  refine ⟨?_, m0, m1⟩
  generalize (U * 4294967296 + d) % Y = R at *
  generalize q * Y = P at *
  omega

/-- two steps are the division of all -/
theorem dwhole {N y U un1 un0 Y q1 q0 R1 R2 k : Int} (hk : 0 < k) (hy : 0 < y) (hY : Y = y * k) (hN : N * k = (U * 4294967296 + un1) * 4294967296 + un0)
    (h1 : q1 = (U * 4294967296 + un1) / Y) (r1 : R1 = (U * 4294967296 + un1) % Y) (h0 : q0 = (R1 * 4294967296 + un0) / Y) (r2 : R2 = (R1 * 4294967296 + un0) % Y) :
    q1 * 4294967296 + q0 = N / y ∧ R2 / k = N % y := by
  have hYp : 0 < Y := by rw [hY]; exact Int.mul_pos hy hk
  have e1 := Int.mul_ediv_add_emod (U * 4294967296 + un1) Y
  have e0 := Int.mul_ediv_add_emod (R1 * 4294967296 + un0) Y
  have m0 := Int.emod_nonneg (R1 * 4294967296 + un0) (show Y ≠ 0 by omega)
  have m1 := Int.emod_lt_of_pos (R1 * 4294967296 + un0) hYp
  rw [← h1, ← r1] at e1
  rw [← h0, ← r2] at e0
  rw [← r2] at m0 m1
  clear h1 r1 h0 r2
  have key : N * k = (q1 * 4294967296 + q0) * y * k + R2 := by
    have x : (q1 * 4294967296 + q0) * y * k = Y * q1 * 4294967296 + Y * q0 := by
      rw [Int.mul_assoc, ← hY, Int.add_mul, Int.mul_comm (q1 * 4294967296) Y, ← Int.mul_assoc, Int.mul_comm q0 Y]
    rw [x, hN]
    omega
  generalize q1 * 4294967296 + q0 = Q at *
  have hR : R2 = (N - Q * y) * k := by rw [Int.sub_mul]; omega
  have hd : R2 / k = N - Q * y := by rw [hR, Int.mul_ediv_cancel _ (by omega)]
  have l0 : 0 ≤ N - Q * y := by rw [← hd]; exact Int.ediv_nonneg m0 (by omega)
  have l1 : N - Q * y < y := by
    rw [← hd]
    exact Int.ediv_lt_of_lt_mul hk (by rw [← hY]; exact m1)
  have fin : N = (N - Q * y) + Q * y := by omega
  refine ⟨?_, ?_⟩
  · rw [fin, Int.add_mul_ediv_right _ _ (by omega), Int.ediv_eq_zero_of_lt l0 l1]; omega
  · rw [hd]
    conv => rhs; rw [fin]
    rw [Int.add_mul_emod_self_right, Int.emod_eq_of_lt l0 l1]

end Go.Proofs.Ytmmcnbhhdgnljaa
