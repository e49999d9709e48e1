/-
  Texts Ob of this seat, as far as they are used.
-/
import Derived.Test.YtlgedfljmgedfaaGreatJ2
namespace Go.Proofs.YtlgedfljmgedfaaGreat.O6

/-- Y is two halves, n1 the upper with its top bit, U below Y, d a half -/
structure DCtx (Y n1 n0 U d : Int) : Prop where
  y : Y = n1 * 4294967296 + n0
  a1 : 2147483648 ≤ n1
  a2 : n1 < 4294967296
  b1 : 0 ≤ n0
  b2 : n0 < 4294967296
  u1 : 0 ≤ U
  u2 : U < Y
  d1 : 0 ≤ d
  d2 : d < 4294967296

/-- q is no less than the quotient, and r what is left of U by the upper half -/
structure DInv (Y n1 U d q r : Int) : Prop where
  q0 : 0 ≤ q
  q1 : q ≤ 4294967297
  r0 : 0 ≤ r
  r1 : r < 4294967296
  eq : q * n1 + r = U
  ge : (U * 4294967296 + d) / Y ≤ q

theorem expand (q n1 n0 : Int) : q * (n1 * 4294967296 + n0) = q * n1 * 4294967296 + q * n0 := by
  rw [Int.mul_add, Int.mul_assoc]

theorem dstart {Y n1 n0 U d : Int} (c : DCtx Y n1 n0 U d) : DInv Y n1 U d (U / n1) (U - U / n1 * n1) := by
  obtain ⟨hy, a1, a2, b1, b2, u1, u2, d1, d2⟩ := c
  have e := Int.mul_ediv_add_emod U n1
  have m0 := Int.emod_nonneg U (show n1 ≠ 0 by omega)
  have m1 := Int.emod_lt_of_pos U (show 0 < n1 by omega)
  have hq0 : 0 ≤ U / n1 := Int.ediv_nonneg u1 (by omega)
  have hc : n1 * (U / n1) = U / n1 * n1 := Int.mul_comm _ _
  rw [hc] at e
  generalize hr : U % n1 = r at *
  have hq1 : U / n1 < 4294967298 := Int.ediv_lt_of_lt_mul (by omega) (by omega)
  generalize U / n1 = q at *
  have x := expand (q + 1) n1 n0
  have y := Int.mul_nonneg (show 0 ≤ q + 1 by omega) b1
  have z : (q + 1) * n1 = q * n1 + n1 := by rw [Int.add_mul, Int.one_mul]
  refine ⟨hq0, by omega, by omega, by omega, by omega, ?_⟩
  have : (U * 4294967296 + d) / Y < q + 1 := Int.ediv_lt_of_lt_mul (by omega) (by rw [hy, x, z]; omega)
  omega

theorem dtop {Y n1 n0 U d : Int} (c : DCtx Y n1 n0 U d) : 0 ≤ (U * 4294967296 + d) / Y ∧ (U * 4294967296 + d) / Y < 4294967296 := by
  obtain ⟨hy, a1, a2, b1, b2, u1, u2, d1, d2⟩ := c
  exact ⟨Int.ediv_nonneg (by omega) (by omega), Int.ediv_lt_of_lt_mul (by omega) (by omega)⟩

/-- the loop's test says no -/
theorem dno {Y n1 n0 U d q r : Int} (c : DCtx Y n1 n0 U d) (i : DInv Y n1 U d q r) (h : q * n0 ≤ 4294967296 * r + d) : q = (U * 4294967296 + d) / Y := by
  obtain ⟨hy, a1, a2, b1, b2, u1, u2, d1, d2⟩ := c
  obtain ⟨q0, q1, r0, r1, eq, ge⟩ := i
  have x := expand q n1 n0
  have : q ≤ (U * 4294967296 + d) / Y := (Int.le_ediv_iff_mul_le (by omega)).2 (by rw [hy, x]; omega)
  omega

/-- it says yes: one less is no less still -/
theorem dyes {Y n1 n0 U d q r : Int} (c : DCtx Y n1 n0 U d) (i : DInv Y n1 U d q r) (h : 4294967296 ≤ q ∨ 4294967296 * r + d < q * n0) : (U * 4294967296 + d) / Y ≤ q - 1 := by
  have t := dtop c
  obtain ⟨hy, a1, a2, b1, b2, u1, u2, d1, d2⟩ := c
  obtain ⟨q0, q1, r0, r1, eq, ge⟩ := i
  rcases h with h | h
  · omega
  · have x := expand q n1 n0
    have : (U * 4294967296 + d) / Y < q := Int.ediv_lt_of_lt_mul (by omega) (by rw [hy, x]; omega)
    omega

theorem dnext {Y n1 n0 U d q r : Int} (c : DCtx Y n1 n0 U d) (i : DInv Y n1 U d q r) (h : 4294967296 ≤ q ∨ 4294967296 * r + d < q * n0) (hr : r + n1 < 4294967296) : DInv Y n1 U d (q - 1) (r + n1) := by
  have t := dtop c
  have y := dyes c i h
  obtain ⟨hy, a1, a2, b1, b2, u1, u2, d1, d2⟩ := c
  obtain ⟨q0, q1, r0, r1, eq, ge⟩ := i
  have z : (q - 1) * n1 = q * n1 - n1 := by rw [Int.sub_mul, Int.one_mul]
  exact ⟨by omega, by omega, by omega, by omega, by rw [z]; omega, y⟩

/-- and where it breaks off, it is the quotient -/
theorem dbreak {Y n1 n0 U d q r : Int} (c : DCtx Y n1 n0 U d) (i : DInv Y n1 U d q r) (h : 4294967296 ≤ q ∨ 4294967296 * r + d < q * n0) (hr : 4294967296 ≤ r + n1) : q - 1 = (U * 4294967296 + d) / Y := by
  have t := dtop c
  have y := dyes c i h
  obtain ⟨hy, a1, a2, b1, b2, u1, u2, d1, d2⟩ := c
  obtain ⟨q0, q1, r0, r1, eq, ge⟩ := i
  have z : (q - 1) * n1 = q * n1 - n1 := by rw [Int.sub_mul, Int.one_mul]
  have x := expand (q - 1) n1 n0
  have k : (q - 1) * n0 ≤ 4294967296 * 4294967296 := Int.mul_le_mul (by omega) (by omega) b1 (by omega)
  have : q - 1 ≤ (U * 4294967296 + d) / Y := (Int.le_ediv_iff_mul_le (by omega)).2 (by rw [hy, x, z]; omega)
  omega

/-- what is left, reckoned going around -/
theorem dleft {Y n1 n0 U d q : Int} (c : DCtx Y n1 n0 U d) (hY : Y < 18446744073709551616) (hq : q = (U * 4294967296 + d) / Y) :
    ((U * 4294967296 % 18446744073709551616 + d) % 18446744073709551616 - q * Y % 18446744073709551616) % 18446744073709551616 = (U * 4294967296 + d) % Y ∧ 0 ≤ (U * 4294967296 + d) % Y ∧ (U * 4294967296 + d) % Y < Y := by
  obtain ⟨hy, a1, a2, b1, b2, u1, u2, d1, d2⟩ := c
  have e := Int.mul_ediv_add_emod (U * 4294967296 + d) Y
  have m0 := Int.emod_nonneg (U * 4294967296 + d) (show Y ≠ 0 by omega)
  have m1 := Int.emod_lt_of_pos (U * 4294967296 + d) (show 0 < Y by omega)
  have hc : Y * ((U * 4294967296 + d) / Y) = q * Y := by rw [hq, Int.mul_comm]
  rw [hc] at e
  refine ⟨?_, m0, m1⟩
  generalize (U * 4294967296 + d) % Y = R at *
  generalize q * Y = P at *
  omega

/-- two steps are the division of all -/
theorem dwhole {N y U un1 un0 Y q1 q0 R1 R2 k : Int} (hk : 0 < k) (hy : 0 < y) (hY : Y = y * k) (hN : N * k = (U * 4294967296 + un1) * 4294967296 + un0)
    (h1 : q1 = (U * 4294967296 + un1) / Y) (r1 : R1 = (U * 4294967296 + un1) % Y) (h0 : q0 = (R1 * 4294967296 + un0) / Y) (r2 : R2 = (R1 * 4294967296 + un0) % Y) :
    q1 * 4294967296 + q0 = N / y ∧ R2 / k = N % y := by
  have hYp : 0 < Y := by rw [hY]; exact Int.mul_pos hy hk
  have e1 := Int.mul_ediv_add_emod (U * 4294967296 + un1) Y
  have e0 := Int.mul_ediv_add_emod (R1 * 4294967296 + un0) Y
  have m0 := Int.emod_nonneg (R1 * 4294967296 + un0) (show Y ≠ 0 by omega)
  have m1 := Int.emod_lt_of_pos (R1 * 4294967296 + un0) hYp
  rw [← h1, ← r1] at e1
  rw [← h0, ← r2] at e0
  rw [← r2] at m0 m1
  clear h1 r1 h0 r2
  have key : N * k = (q1 * 4294967296 + q0) * y * k + R2 := by
    have x : (q1 * 4294967296 + q0) * y * k = Y * q1 * 4294967296 + Y * q0 := by
      rw [Int.mul_assoc, ← hY, Int.add_mul, Int.mul_comm (q1 * 4294967296) Y, ← Int.mul_assoc, Int.mul_comm q0 Y]
    rw [x, hN]
    omega
  generalize q1 * 4294967296 + q0 = Q at *
  have hR : R2 = (N - Q * y) * k := by rw [Int.sub_mul]; omega
  have hd : R2 / k = N - Q * y := by rw [hR, Int.mul_ediv_cancel _ (by omega)]
  have l0 : 0 ≤ N - Q * y := by rw [← hd]; exact Int.ediv_nonneg m0 (by omega)
  have l1 : N - Q * y < y := by
    rw [← hd]
    exact Int.ediv_lt_of_lt_mul hk (by rw [← hY]; exact m1)
  have fin : N = (N - Q * y) + Q * y := by omega
  refine ⟨?_, ?_⟩
  · rw [fin, Int.add_mul_ediv_right _ _ (by omega), Int.ediv_eq_zero_of_lt l0 l1]; omega
  · rw [hd]
    conv => rhs; rw [fin]
    rw [Int.add_mul_emod_self_right, Int.emod_eq_of_lt l0 l1]
end Go.Proofs.YtlgedfljmgedfaaGreat.O6
namespace Go.Proofs.YtlgedfljmgedfaaGreat.O6
open Go Go.RowKit

def LzSaid (y : Int) (s : Nat) : Prop := ∀ w : World, Calls Tryz.prog 179 #[.int .u64 y] w fun e w' => e = .returned (.int .i64 (s : Nat)) ∧ w = w'
def DivPost (Y U un1 un0 : Int) (s : Nat) (w : World) (e : Ending) (w' : World) : Prop :=
  e = .returned (.tuple #[.int .u64 ((U * 4294967296 + un1) / Y * 4294967296 + ((U * 4294967296 + un1) % Y * 4294967296 + un0) / Y), .int .u64 (((U * 4294967296 + un1) % Y * 4294967296 + un0) % Y / 2 ^ s)]) ∧ w = w'

theorem dpos {Y n1 n0 U d q r : Int} (c : DCtx Y n1 n0 U d) (i : DInv Y n1 U d q r) (h : 4294967296 ≤ q ∨ 4294967296 * r + d < q * n0) : 1 ≤ q := by
  have t := dtop c
  have y := dyes c i h
  omega
/-- the product by the lower half -/
theorem half_var (q n0 : Int) (q0 : 0 ≤ q) (q1 : q < 4294967296) (b1 : 0 ≤ n0) (b2 : n0 < 4294967296) : ∃ P, IntKind.u64.wrap (q * n0) = P ∧ P = q * n0 ∧ 0 ≤ P ∧ P < 18446744073709551616 := by
  have h0 : 0 ≤ q * n0 := Int.mul_nonneg q0 b1
  have h1 : q * n0 ≤ 4294967295 * 4294967295 := Int.mul_le_mul (by omega) (by omega) b1 (by omega)
  refine ⟨q * n0, ?_, rfl, h0, by omega⟩
  rw [IntKind.wrap_u64]
  generalize q * n0 = P at *
  omega
/-- what is left, as it is reckoned -/
theorem left_var {Y n1 n0 U d q : Int} (c : DCtx Y n1 n0 U d) (hY : Y < 18446744073709551616) (hq : q = (U * 4294967296 + d) / Y) :
    ∃ V, IntKind.u64.wrap (IntKind.u64.wrap (IntKind.u64.wrap (U * 4294967296) + d) - IntKind.u64.wrap (q * Y)) = V ∧ V = (U * 4294967296 + d) % Y ∧ 0 ≤ V ∧ V < Y ∧ 0 ≤ q ∧ q < 4294967296 := by
  obtain ⟨h1, h2, h3⟩ := dleft c hY hq
  have t := dtop c
  rw [← hq] at t
  refine ⟨_, ?_, rfl, h2, h3, t.1, t.2⟩
  rw [IntKind.wrap_u64, IntKind.wrap_u64, IntKind.wrap_u64, IntKind.wrap_u64]
  exact h1
theorem rest_var {Y n1 n0 U d : Int} (c : DCtx Y n1 n0 U d) (hY : Y < 18446744073709551616) : IntKind.u64.wrap (U - IntKind.u64.wrap (U / n1 * n1)) = U - U / n1 * n1 := by
  have i := dstart c
  have h := i.eq
  have h0 := i.r0
  have hc := c.u2
  have h2 : 0 ≤ U / n1 * n1 := Int.mul_nonneg i.q0 (by have := c.a1; omega)
  have h3 := c.u1
  rw [IntKind.wrap_u64, IntKind.wrap_u64]
  generalize U / n1 * n1 = P at *
  omega

set_option maxRecDepth 100000 in
set_option maxHeartbeats 4000000 in
theorem div64_walk (hi lo y Y yn1 yn0 H L U M un1 un0 : Int) (s : Nat) (w : World) (_h1 : 0 ≤ lo) (_h1' : lo < 18446744073709551616) (h2 : 0 < hi) (h3 : hi < y) (_h4 : y ≤ 1152921504606846976) (hs1 : 3 ≤ s) (hs2 : s ≤ 62) (hZ : LzSaid y s)
    (E1 : IntKind.u64.wrap (y * 2 ^ s) = Y) (E2 : Y / 4294967296 = yn1) (E3 : bits .and .u64 Y 4294967295 = yn0) (E4 : IntKind.u64.wrap (hi * 2 ^ s) = H) (E5 : lo / 2 ^ (64 - s) = L) (E6 : bits .or .u64 H L = U) (E7 : IntKind.u64.wrap (lo * 2 ^ s) = M)
    (E8 : M / 4294967296 = un1) (E9 : bits .and .u64 M 4294967295 = un0)
    (bY1 : 9223372036854775808 ≤ Y) (bY2 : Y < 18446744073709551616) (_bH1 : 0 ≤ H) (_bH2 : H < 18446744073709551616) (_bL1 : 0 ≤ L) (_bL2 : L < 18446744073709551616)
    (_bM1 : 0 ≤ M) (_bM2 : M < 18446744073709551616) (c1 : DCtx Y yn1 yn0 U un1) (bu0 : 0 ≤ un0) (bu0' : un0 < 4294967296) :
    Calls Tryz.prog 161 #[.int .u64 hi, .int .u64 lo, .int .u64 y] w (DivPost Y U un1 un0 s w) := by
  obtain ⟨cy, b11, b12, b01, b02, bU1, bU2, bu1, bu1'⟩ := id c1
  have CY := hid cy
  have C1 := hid c1
  clear cy c1
  have hy : (y == 0) = false := beq_eq_false_iff_ne.2 (by omega)
  have hh : (hi == 0) = false := beq_eq_false_iff_ne.2 (by omega)
  have hle : ¬ y ≤ hi := by omega
  have hn1 : ¬ yn1 = 0 := by omega
  have I1 := hid (dstart C1.out)
  have HW := hid (rest_var C1.out bY2)
  go_enter Tryz.func161, Tryz.ntmps161
  go_wp2_with fail
  refine (hZ w).mono ?_
  rintro e w' ⟨rfl, rfl⟩
  go_wp2_with fail
  rw [HW.out]
  clear E1 E3 E4 E5 E6 E7 E8 E9
  go_loop [15, 16] (fun a b => ∃ q r : Int, a = .int .u64 q ∧ b = .int .u64 r ∧ DInv Y yn1 U un1 q r) (fun a _ => (intOf a).toNat)
  case atStart => exact ⟨_, _, rfl, rfl, I1.out⟩
  case round =>
    obtain ⟨q, r, rfl, rfl, i⟩ := hrel
    have IV := hid i
    obtain ⟨q0, q1, r0, r1, ieq, ige⟩ := i
    clear ieq ige
    by_cases hqa : 4294967296 ≤ q
    · by_cases hra : r + yn1 < 4294967296
      · go_wp2_with fail
        exact ⟨⟨q - 1, r + yn1, by simp, by simp, dnext C1.out IV.out (.inl hqa) hra⟩, by simp [intOf]; omega⟩
      · have hra' : 4294967296 ≤ r + yn1 := by omega
        have hza := dbreak C1.out IV.out (.inl hqa) hra'
        clear hra
        obtain ⟨V, F1, F2, F3, F4, F5, F6⟩ := left_var C1.out bY2 hza
        have C2 : Hid (DCtx Y yn1 yn0 V un0) := hid ⟨CY.out, b11, b12, b01, b02, F3, F4, bu0, bu0'⟩
        have HV := hid F2
        have HQ := hid hza
        have I2 := hid (dstart C2.out)
        have HW2 := hid (rest_var C2.out bY2)
        clear F2 hza
        go_wp2_with fail
        rw [HW2.out]
        clear F1
        go_loop [18, 16] (fun a b => ∃ t v : Int, a = .int .u64 t ∧ b = .int .u64 v ∧ DInv Y yn1 V un0 t v) (fun a _ => (intOf a).toNat)
        case atStart => exact ⟨_, _, rfl, rfl, I2.out⟩
        case round =>
          obtain ⟨t, v, rfl, rfl, i⟩ := hrel
          have IW := hid i
          obtain ⟨t0, t1, v0, v1, ieq, ige⟩ := i
          clear ieq ige
          by_cases hqb : 4294967296 ≤ t
          · by_cases hrb : v + yn1 < 4294967296
            · go_wp2_with fail
              exact ⟨⟨t - 1, v + yn1, by simp, by simp, dnext C2.out IW.out (.inl hqb) hrb⟩, by simp [intOf]; omega⟩
            · have hrb' : 4294967296 ≤ v + yn1 := by omega
              have hzb := dbreak C2.out IW.out (.inl hqb) hrb'
              clear hrb
              obtain ⟨V2, F1, F2, F3, F4, F5, F6⟩ := left_var C2.out bY2 hzb
              have HV2 := hid F2
              have HQ2 := hid hzb
              clear F2 hzb
              go_wp2
              go_ret2
              exact ⟨ret_two (by rw [HQ.out, HQ2.out, HV.out]) (by rw [HV2.out, HV.out]), rfl⟩
          · have hqb' : t < 4294967296 := by omega
            clear hqb
            obtain ⟨Pb, Pb1, Pb2, Pb3, Pb4⟩ := half_var t yn0 (by omega) hqb' b01 b02
            have HPb := hid Pb2
            clear Pb2
            by_cases htb : 4294967296 * v + un0 < Pb
            · have HTb : Hid (4294967296 * v + un0 < t * yn0) := hid (by rw [← HPb.out]; exact htb)
              have hpb : 1 ≤ t := dpos C2.out IW.out (.inr HTb.out)
              by_cases hrb : v + yn1 < 4294967296
              · go_wp2_with fail
                exact ⟨⟨t - 1, v + yn1, by simp, by simp, dnext C2.out IW.out (.inr HTb.out) hrb⟩, by simp [intOf]; omega⟩
              · have hrb' : 4294967296 ≤ v + yn1 := by omega
                have hzb := dbreak C2.out IW.out (.inr HTb.out) hrb'
                clear hrb
                obtain ⟨V2, F1, F2, F3, F4, F5, F6⟩ := left_var C2.out bY2 hzb
                have HV2 := hid F2
                have HQ2 := hid hzb
                clear F2 hzb
                go_wp2
                go_ret2
                exact ⟨ret_two (by rw [HQ.out, HQ2.out, HV.out]) (by rw [HV2.out, HV.out]), rfl⟩
            · have hzb := dno C2.out IW.out (by rw [← HPb.out]; omega)
              have htb' : Pb ≤ 4294967296 * v + un0 := by omega
              clear htb
              obtain ⟨V2, F1, F2, F3, F4, F5, F6⟩ := left_var C2.out bY2 hzb
              have HV2 := hid F2
              have HQ2 := hid hzb
              clear F2 hzb
              go_wp2
              go_ret2
              exact ⟨ret_two (by rw [HQ.out, HQ2.out, HV.out]) (by rw [HV2.out, HV.out]), rfl⟩
    · have hqa' : q < 4294967296 := by omega
      clear hqa
      obtain ⟨Pa, Pa1, Pa2, Pa3, Pa4⟩ := half_var q yn0 (by omega) hqa' b01 b02
      have HPa := hid Pa2
      clear Pa2
      by_cases hta : 4294967296 * r + un1 < Pa
      · have HTa : Hid (4294967296 * r + un1 < q * yn0) := hid (by rw [← HPa.out]; exact hta)
        have hpa : 1 ≤ q := dpos C1.out IV.out (.inr HTa.out)
        by_cases hra : r + yn1 < 4294967296
        · go_wp2_with fail
          exact ⟨⟨q - 1, r + yn1, by simp, by simp, dnext C1.out IV.out (.inr HTa.out) hra⟩, by simp [intOf]; omega⟩
        · have hra' : 4294967296 ≤ r + yn1 := by omega
          have hza := dbreak C1.out IV.out (.inr HTa.out) hra'
          clear hra
          obtain ⟨V, F1, F2, F3, F4, F5, F6⟩ := left_var C1.out bY2 hza
          have C2 : Hid (DCtx Y yn1 yn0 V un0) := hid ⟨CY.out, b11, b12, b01, b02, F3, F4, bu0, bu0'⟩
          have HV := hid F2
          have HQ := hid hza
          have I2 := hid (dstart C2.out)
          have HW2 := hid (rest_var C2.out bY2)
          clear F2 hza
          go_wp2_with fail
          rw [HW2.out]
          clear F1
          go_loop [18, 16] (fun a b => ∃ t v : Int, a = .int .u64 t ∧ b = .int .u64 v ∧ DInv Y yn1 V un0 t v) (fun a _ => (intOf a).toNat)
          case atStart => exact ⟨_, _, rfl, rfl, I2.out⟩
          case round =>
            obtain ⟨t, v, rfl, rfl, i⟩ := hrel
            have IW := hid i
            obtain ⟨t0, t1, v0, v1, ieq, ige⟩ := i
            clear ieq ige
            by_cases hqb : 4294967296 ≤ t
            · by_cases hrb : v + yn1 < 4294967296
              · go_wp2_with fail
                exact ⟨⟨t - 1, v + yn1, by simp, by simp, dnext C2.out IW.out (.inl hqb) hrb⟩, by simp [intOf]; omega⟩
              · have hrb' : 4294967296 ≤ v + yn1 := by omega
                have hzb := dbreak C2.out IW.out (.inl hqb) hrb'
                clear hrb
                obtain ⟨V2, F1, F2, F3, F4, F5, F6⟩ := left_var C2.out bY2 hzb
                have HV2 := hid F2
                have HQ2 := hid hzb
                clear F2 hzb
                go_wp2
                go_ret2
                exact ⟨ret_two (by rw [HQ.out, HQ2.out, HV.out]) (by rw [HV2.out, HV.out]), rfl⟩
            · have hqb' : t < 4294967296 := by omega
              clear hqb
              obtain ⟨Pb, Pb1, Pb2, Pb3, Pb4⟩ := half_var t yn0 (by omega) hqb' b01 b02
              have HPb := hid Pb2
              clear Pb2
              by_cases htb : 4294967296 * v + un0 < Pb
              · have HTb : Hid (4294967296 * v + un0 < t * yn0) := hid (by rw [← HPb.out]; exact htb)
                have hpb : 1 ≤ t := dpos C2.out IW.out (.inr HTb.out)
                by_cases hrb : v + yn1 < 4294967296
                · go_wp2_with fail
                  exact ⟨⟨t - 1, v + yn1, by simp, by simp, dnext C2.out IW.out (.inr HTb.out) hrb⟩, by simp [intOf]; omega⟩
                · have hrb' : 4294967296 ≤ v + yn1 := by omega
                  have hzb := dbreak C2.out IW.out (.inr HTb.out) hrb'
                  clear hrb
                  obtain ⟨V2, F1, F2, F3, F4, F5, F6⟩ := left_var C2.out bY2 hzb
                  have HV2 := hid F2
                  have HQ2 := hid hzb
                  clear F2 hzb
                  go_wp2
                  go_ret2
                  exact ⟨ret_two (by rw [HQ.out, HQ2.out, HV.out]) (by rw [HV2.out, HV.out]), rfl⟩
              · have hzb := dno C2.out IW.out (by rw [← HPb.out]; omega)
                have htb' : Pb ≤ 4294967296 * v + un0 := by omega
                clear htb
                obtain ⟨V2, F1, F2, F3, F4, F5, F6⟩ := left_var C2.out bY2 hzb
                have HV2 := hid F2
                have HQ2 := hid hzb
                clear F2 hzb
                go_wp2
                go_ret2
                exact ⟨ret_two (by rw [HQ.out, HQ2.out, HV.out]) (by rw [HV2.out, HV.out]), rfl⟩
      · have hza := dno C1.out IV.out (by rw [← HPa.out]; omega)
        have hta' : Pa ≤ 4294967296 * r + un1 := by omega
        clear hta
        obtain ⟨V, F1, F2, F3, F4, F5, F6⟩ := left_var C1.out bY2 hza
        have C2 : Hid (DCtx Y yn1 yn0 V un0) := hid ⟨CY.out, b11, b12, b01, b02, F3, F4, bu0, bu0'⟩
        have HV := hid F2
        have HQ := hid hza
        have I2 := hid (dstart C2.out)
        have HW2 := hid (rest_var C2.out bY2)
        clear F2 hza
        go_wp2_with fail
        rw [HW2.out]
        clear F1
        go_loop [18, 16] (fun a b => ∃ t v : Int, a = .int .u64 t ∧ b = .int .u64 v ∧ DInv Y yn1 V un0 t v) (fun a _ => (intOf a).toNat)
        case atStart => exact ⟨_, _, rfl, rfl, I2.out⟩
        case round =>
          obtain ⟨t, v, rfl, rfl, i⟩ := hrel
          have IW := hid i
          obtain ⟨t0, t1, v0, v1, ieq, ige⟩ := i
          clear ieq ige
          by_cases hqb : 4294967296 ≤ t
          · by_cases hrb : v + yn1 < 4294967296
            · go_wp2_with fail
              exact ⟨⟨t - 1, v + yn1, by simp, by simp, dnext C2.out IW.out (.inl hqb) hrb⟩, by simp [intOf]; omega⟩
            · have hrb' : 4294967296 ≤ v + yn1 := by omega
              have hzb := dbreak C2.out IW.out (.inl hqb) hrb'
              clear hrb
              obtain ⟨V2, F1, F2, F3, F4, F5, F6⟩ := left_var C2.out bY2 hzb
              have HV2 := hid F2
              have HQ2 := hid hzb
              clear F2 hzb
              go_wp2
              go_ret2
              exact ⟨ret_two (by rw [HQ.out, HQ2.out, HV.out]) (by rw [HV2.out, HV.out]), rfl⟩
          · have hqb' : t < 4294967296 := by omega
            clear hqb
            obtain ⟨Pb, Pb1, Pb2, Pb3, Pb4⟩ := half_var t yn0 (by omega) hqb' b01 b02
            have HPb := hid Pb2
            clear Pb2
            by_cases htb : 4294967296 * v + un0 < Pb
            · have HTb : Hid (4294967296 * v + un0 < t * yn0) := hid (by rw [← HPb.out]; exact htb)
              have hpb : 1 ≤ t := dpos C2.out IW.out (.inr HTb.out)
              by_cases hrb : v + yn1 < 4294967296
              · go_wp2_with fail
                exact ⟨⟨t - 1, v + yn1, by simp, by simp, dnext C2.out IW.out (.inr HTb.out) hrb⟩, by simp [intOf]; omega⟩
              · have hrb' : 4294967296 ≤ v + yn1 := by omega
                have hzb := dbreak C2.out IW.out (.inr HTb.out) hrb'
                clear hrb
                obtain ⟨V2, F1, F2, F3, F4, F5, F6⟩ := left_var C2.out bY2 hzb
                have HV2 := hid F2
                have HQ2 := hid hzb
                clear F2 hzb
                go_wp2
                go_ret2
                exact ⟨ret_two (by rw [HQ.out, HQ2.out, HV.out]) (by rw [HV2.out, HV.out]), rfl⟩
            · have hzb := dno C2.out IW.out (by rw [← HPb.out]; omega)
              have htb' : Pb ≤ 4294967296 * v + un0 := by omega
              clear htb
              obtain ⟨V2, F1, F2, F3, F4, F5, F6⟩ := left_var C2.out bY2 hzb
              have HV2 := hid F2
              have HQ2 := hid hzb
              clear F2 hzb
              go_wp2
              go_ret2
              exact ⟨ret_two (by rw [HQ.out, HQ2.out, HV.out]) (by rw [HV2.out, HV.out]), rfl⟩
end Go.Proofs.YtlgedfljmgedfaaGreat.O6
