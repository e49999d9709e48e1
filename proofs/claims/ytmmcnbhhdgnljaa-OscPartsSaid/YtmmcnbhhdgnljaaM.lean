/-
  The walk of bits.Div64 at a high word above 0: its quotient and its rest are those of two steps of the school division; under: the shifted words are given by their equations in the head, what is divided by is at most 2^60.
-/
import Derived.Test.YtmmcnbhhdgnljaaB
import Derived.Test.YtmmcnbhhdgnljaaN
namespace Go.Proofs.Ytmmcnbhhdgnljaa
open Go Go.RowKit

def LzSaid (y : Int) (s : Nat) : Prop := ∀ w : World, Calls Try.prog 27 #[.int .u64 y] w fun e w' => e = .returned (.int .i64 (s : Nat)) ∧ w = w'
def DivPost (Y U un1 un0 : Int) (s : Nat) (w : World) (e : Ending) (w' : World) : Prop :=
  e = .returned (.tuple #[.int .u64 ((U * 4294967296 + un1) / Y * 4294967296 + ((U * 4294967296 + un1) % Y * 4294967296 + un0) / Y), .int .u64 (((U * 4294967296 + un1) % Y * 4294967296 + un0) % Y / 2 ^ s)]) ∧ w = w'

theorem dpos {Y n1 n0 U d q r : Int} (c : DCtx Y n1 n0 U d) (i : DInv Y n1 U d q r) (h : 4294967296 ≤ q ∨ 4294967296 * r + d < q * n0) : 1 ≤ q := by
  have t := dtop c
  have y := dyes c i h
  omega
/-- the product by the lower half -/
theorem half_var (q n0 : Int) (q0 : 0 ≤ q) (q1 : q < 4294967296) (b1 : 0 ≤ n0) (b2 : n0 < 4294967296) : ∃ P, IntKind.u64.wrap (q * n0) = P ∧ P = q * n0 ∧ 0 ≤ P ∧ P < 18446744073709551616 := by
  have h0 : 0 ≤ q * n0 := Int.mul_nonneg q0 b1
  have h1 : q * n0 ≤ 4294967295 * 4294967295 := Int.mul_le_mul (by omega) (by omega) b1 (by omega)
  refine ⟨q * n0, ?_, rfl, h0, by omega⟩
  rw [IntKind.wrap_u64]
  generalize q * n0 = P at *
  omega
/-- what is left, as it is reckoned -/
theorem left_var {Y n1 n0 U d q : Int} (c : DCtx Y n1 n0 U d) (hY : Y < 18446744073709551616) (hq : q = (U * 4294967296 + d) / Y) :
    ∃ V, IntKind.u64.wrap (IntKind.u64.wrap (IntKind.u64.wrap (U * 4294967296) + d) - IntKind.u64.wrap (q * Y)) = V ∧ V = (U * 4294967296 + d) % Y ∧ 0 ≤ V ∧ V < Y ∧ 0 ≤ q ∧ q < 4294967296 := by
  obtain ⟨h1, h2, h3⟩ := dleft c hY hq
  have t := dtop c
  rw [← hq] at t
  refine ⟨_, ?_, rfl, h2, h3, t.1, t.2⟩
  rw [IntKind.wrap_u64, IntKind.wrap_u64, IntKind.wrap_u64, IntKind.wrap_u64]
  exact h1
theorem rest_var {Y n1 n0 U d : Int} (c : DCtx Y n1 n0 U d) (hY : Y < 18446744073709551616) : IntKind.u64.wrap (U - IntKind.u64.wrap (U / n1 * n1)) = U - U / n1 * n1 := by
  have i := dstart c
  have h := i.eq
  have h0 := i.r0
  have hc := c.u2
  have h2 : 0 ≤ U / n1 * n1 := Int.mul_nonneg i.q0 (by have := c.a1; omega)
  have h3 := c.u1
  rw [IntKind.wrap_u64, IntKind.wrap_u64]
  generalize U / n1 * n1 = P at *
  omega

set_option maxRecDepth 100000 in
set_option maxHeartbeats 4000000 in
theorem div64_walk (hi lo y Y yn1 yn0 H L U M un1 un0 : Int) (s : Nat) (w : World) (_h1 : 0 ≤ lo) (_h1' : lo < 18446744073709551616) (h2 : 0 < hi) (h3 : hi < y) (_h4 : y ≤ 1152921504606846976) (hs1 : 3 ≤ s) (hs2 : s ≤ 62) (hZ : LzSaid y s)
    (E1 : IntKind.u64.wrap (y * 2 ^ s) = Y) (E2 : Y / 4294967296 = yn1) (E3 : bits .and .u64 Y 4294967295 = yn0) (E4 : IntKind.u64.wrap (hi * 2 ^ s) = H) (E5 : lo / 2 ^ (64 - s) = L) (E6 : bits .or .u64 H L = U) (E7 : IntKind.u64.wrap (lo * 2 ^ s) = M)
    (E8 : M / 4294967296 = un1) (E9 : bits .and .u64 M 4294967295 = un0)
    (bY1 : 9223372036854775808 ≤ Y) (bY2 : Y < 18446744073709551616) (_bH1 : 0 ≤ H) (_bH2 : H < 18446744073709551616) (_bL1 : 0 ≤ L) (_bL2 : L < 18446744073709551616)
    (_bM1 : 0 ≤ M) (_bM2 : M < 18446744073709551616) (c1 : DCtx Y yn1 yn0 U un1) (bu0 : 0 ≤ un0) (bu0' : un0 < 4294967296) :
    Calls Try.prog 22 #[.int .u64 hi, .int .u64 lo, .int .u64 y] w (DivPost Y U un1 un0 s w) := by
  obtain ⟨cy, b11, b12, b01, b02, bU1, bU2, bu1, bu1'⟩ := id c1
  have CY := hid cy
  have C1 := hid c1
  clear cy c1
  have hy : (y == 0) = false := beq_eq_false_iff_ne.2 (by omega)
  have hh : (hi == 0) = false := beq_eq_false_iff_ne.2 (by omega)
  have hle : ¬ y ≤ hi := by omega
  have hn1 : ¬ yn1 = 0 := by omega
  have I1 := hid (dstart C1.out)
  have HW := hid (rest_var C1.out bY2)
  go_enter Try.func22, Try.ntmps22
  go_wp2_with fail
  refine (hZ w).mono ?_
  rintro e w' ⟨rfl, rfl⟩
  go_wp2_with fail
  rw [HW.out]
  clear E1 E3 E4 E5 E6 E7 E8 E9
  go_loop [15, 16] (fun a b => ∃ q r : Int, a = .int .u64 q ∧ b = .int .u64 r ∧ DInv Y yn1 U un1 q r) (fun a _ => (intOf a).toNat)
  case atStart => exact ⟨_, _, rfl, rfl, I1.out⟩
  case round =>
    obtain ⟨q, r, rfl, rfl, i⟩ := hrel
    have IV := hid i
    obtain ⟨q0, q1, r0, r1, ieq, ige⟩ := i
    clear ieq ige
    by_cases hqa : 4294967296 ≤ q
    · by_cases hra : r + yn1 < 4294967296
      · go_wp2_with fail
        exact ⟨⟨q - 1, r + yn1, by simp, by simp, dnext C1.out IV.out (.inl hqa) hra⟩, by simp [intOf]; omega⟩
      · have hra' : 4294967296 ≤ r + yn1 := by omega
        have hza := dbreak C1.out IV.out (.inl hqa) hra'
        clear hra
        obtain ⟨V, F1, F2, F3, F4, F5, F6⟩ := left_var C1.out bY2 hza
        have C2 : Hid (DCtx Y yn1 yn0 V un0) := hid ⟨CY.out, b11, b12, b01, b02, F3, F4, bu0, bu0'⟩
        have HV := hid F2
        have HQ := hid hza
        have I2 := hid (dstart C2.out)
        have HW2 := hid (rest_var C2.out bY2)
        clear F2 hza
        go_wp2_with fail
        rw [HW2.out]
        clear F1
        go_loop [18, 16] (fun a b => ∃ t v : Int, a = .int .u64 t ∧ b = .int .u64 v ∧ DInv Y yn1 V un0 t v) (fun a _ => (intOf a).toNat)
        case atStart => exact ⟨_, _, rfl, rfl, I2.out⟩
        case round =>
          obtain ⟨t, v, rfl, rfl, i⟩ := hrel
          have IW := hid i
          obtain ⟨t0, t1, v0, v1, ieq, ige⟩ := i
          clear ieq ige
          by_cases hqb : 4294967296 ≤ t
          · by_cases hrb : v + yn1 < 4294967296
            · go_wp2_with fail
              exact ⟨⟨t - 1, v + yn1, by simp, by simp, dnext C2.out IW.out (.inl hqb) hrb⟩, by simp [intOf]; omega⟩
            · have hrb' : 4294967296 ≤ v + yn1 := by omega
              have hzb := dbreak C2.out IW.out (.inl hqb) hrb'
              clear hrb
              obtain ⟨V2, F1, F2, F3, F4, F5, F6⟩ := left_var C2.out bY2 hzb
              have HV2 := hid F2
              have HQ2 := hid hzb
              clear F2 hzb
              go_wp2
              go_ret2
              exact ⟨ret_two (by rw [HQ.out, HQ2.out, HV.out]) (by rw [HV2.out, HV.out]), rfl⟩
          · have hqb' : t < 4294967296 := by omega
            clear hqb
            obtain ⟨Pb, Pb1, Pb2, Pb3, Pb4⟩ := half_var t yn0 (by omega) hqb' b01 b02
            have HPb := hid Pb2
            clear Pb2
            by_cases htb : 4294967296 * v + un0 < Pb
            · have HTb : Hid (4294967296 * v + un0 < t * yn0) := hid (by rw [← HPb.out]; exact htb)
              have hpb : 1 ≤ t := dpos C2.out IW.out (.inr HTb.out)
              by_cases hrb : v + yn1 < 4294967296
              · go_wp2_with fail
                exact ⟨⟨t - 1, v + yn1, by simp, by simp, dnext C2.out IW.out (.inr HTb.out) hrb⟩, by simp [intOf]; omega⟩
              · have hrb' : 4294967296 ≤ v + yn1 := by omega
                have hzb := dbreak C2.out IW.out (.inr HTb.out) hrb'
                clear hrb
                obtain ⟨V2, F1, F2, F3, F4, F5, F6⟩ := left_var C2.out bY2 hzb
                have HV2 := hid F2
                have HQ2 := hid hzb
                clear F2 hzb
                go_wp2
                go_ret2
                exact ⟨ret_two (by rw [HQ.out, HQ2.out, HV.out]) (by rw [HV2.out, HV.out]), rfl⟩
            · have hzb := dno C2.out IW.out (by rw [← HPb.out]; omega)
              have htb' : Pb ≤ 4294967296 * v + un0 := by omega
              clear htb
              obtain ⟨V2, F1, F2, F3, F4, F5, F6⟩ := left_var C2.out bY2 hzb
              have HV2 := hid F2
              have HQ2 := hid hzb
              clear F2 hzb
              go_wp2
              go_ret2
              exact ⟨ret_two (by rw [HQ.out, HQ2.out, HV.out]) (by rw [HV2.out, HV.out]), rfl⟩
    · have hqa' : q < 4294967296 := by omega
      clear hqa
      obtain ⟨Pa, Pa1, Pa2, Pa3, Pa4⟩ := half_var q yn0 (by omega) hqa' b01 b02
      have HPa := hid Pa2
      clear Pa2
      by_cases hta : 4294967296 * r + un1 < Pa
      · have HTa : Hid (4294967296 * r + un1 < q * yn0) := hid (by rw [← HPa.out]; exact hta)
        have hpa : 1 ≤ q := dpos C1.out IV.out (.inr HTa.out)
        by_cases hra : r + yn1 < 4294967296
        · go_wp2_with fail
          exact ⟨⟨q - 1, r + yn1, by simp, by simp, dnext C1.out IV.out (.inr HTa.out) hra⟩, by simp [intOf]; omega⟩
        · have hra' : 4294967296 ≤ r + yn1 := by omega
          have hza := dbreak C1.out IV.out (.inr HTa.out) hra'
          clear hra
          obtain ⟨V, F1, F2, F3, F4, F5, F6⟩ := left_var C1.out bY2 hza
          have C2 : Hid (DCtx Y yn1 yn0 V un0) := hid ⟨CY.out, b11, b12, b01, b02, F3, F4, bu0, bu0'⟩
          have HV := hid F2
          have HQ := hid hza
          have I2 := hid (dstart C2.out)
          have HW2 := hid (rest_var C2.out bY2)
          clear F2 hza
          go_wp2_with fail
          rw [HW2.out]
          clear F1
          go_loop [18, 16] (fun a b => ∃ t v : Int, a = .int .u64 t ∧ b = .int .u64 v ∧ DInv Y yn1 V un0 t v) (fun a _ => (intOf a).toNat)
          case atStart => exact ⟨_, _, rfl, rfl, I2.out⟩
          case round =>
            obtain ⟨t, v, rfl, rfl, i⟩ := hrel
            have IW := hid i
            obtain ⟨t0, t1, v0, v1, ieq, ige⟩ := i
            clear ieq ige
            by_cases hqb : 4294967296 ≤ t
            · by_cases hrb : v + yn1 < 4294967296
              · go_wp2_with fail
                exact ⟨⟨t - 1, v + yn1, by simp, by simp, dnext C2.out IW.out (.inl hqb) hrb⟩, by simp [intOf]; omega⟩
              · have hrb' : 4294967296 ≤ v + yn1 := by omega
                have hzb := dbreak C2.out IW.out (.inl hqb) hrb'
                clear hrb
                obtain ⟨V2, F1, F2, F3, F4, F5, F6⟩ := left_var C2.out bY2 hzb
                have HV2 := hid F2
                have HQ2 := hid hzb
                clear F2 hzb
                go_wp2
                go_ret2
                exact ⟨ret_two (by rw [HQ.out, HQ2.out, HV.out]) (by rw [HV2.out, HV.out]), rfl⟩
            · have hqb' : t < 4294967296 := by omega
              clear hqb
              obtain ⟨Pb, Pb1, Pb2, Pb3, Pb4⟩ := half_var t yn0 (by omega) hqb' b01 b02
              have HPb := hid Pb2
              clear Pb2
              by_cases htb : 4294967296 * v + un0 < Pb
              · have HTb : Hid (4294967296 * v + un0 < t * yn0) := hid (by rw [← HPb.out]; exact htb)
                have hpb : 1 ≤ t := dpos C2.out IW.out (.inr HTb.out)
                by_cases hrb : v + yn1 < 4294967296
                · go_wp2_with fail
                  exact ⟨⟨t - 1, v + yn1, by simp, by simp, dnext C2.out IW.out (.inr HTb.out) hrb⟩, by simp [intOf]; omega⟩
                · have hrb' : 4294967296 ≤ v + yn1 := by omega
                  have hzb := dbreak C2.out IW.out (.inr HTb.out) hrb'
                  clear hrb
                  obtain ⟨V2, F1, F2, F3, F4, F5, F6⟩ := left_var C2.out bY2 hzb
                  have HV2 := hid F2
                  have HQ2 := hid hzb
                  clear F2 hzb
                  go_wp2
                  go_ret2
                  exact ⟨ret_two (by rw [HQ.out, HQ2.out, HV.out]) (by rw [HV2.out, HV.out]), rfl⟩
              · have hzb := dno C2.out IW.out (by rw [← HPb.out]; omega)
                have htb' : Pb ≤ 4294967296 * v + un0 := by omega
                clear htb
                obtain ⟨V2, F1, F2, F3, F4, F5, F6⟩ := left_var C2.out bY2 hzb
                have HV2 := hid F2
                have HQ2 := hid hzb
                clear F2 hzb
                go_wp2
                go_ret2
                exact ⟨ret_two (by rw [HQ.out, HQ2.out, HV.out]) (by rw [HV2.out, HV.out]), rfl⟩
      · have hza := dno C1.out IV.out (by rw [← HPa.out]; omega)
        have hta' : Pa ≤ 4294967296 * r + un1 := by omega
        clear hta
        obtain ⟨V, F1, F2, F3, F4, F5, F6⟩ := left_var C1.out bY2 hza
        have C2 : Hid (DCtx Y yn1 yn0 V un0) := hid ⟨CY.out, b11, b12, b01, b02, F3, F4, bu0, bu0'⟩
        have HV := hid F2
        have HQ := hid hza
        have I2 := hid (dstart C2.out)
        have HW2 := hid (rest_var C2.out bY2)
        clear F2 hza
        go_wp2_with fail
        rw [HW2.out]
        clear F1
        go_loop [18, 16] (fun a b => ∃ t v : Int, a = .int .u64 t ∧ b = .int .u64 v ∧ DInv Y yn1 V un0 t v) (fun a _ => (intOf a).toNat)
        case atStart => exact ⟨_, _, rfl, rfl, I2.out⟩
        case round =>
          obtain ⟨t, v, rfl, rfl, i⟩ := hrel
          have IW := hid i
          obtain ⟨t0, t1, v0, v1, ieq, ige⟩ := i
          clear ieq ige
          by_cases hqb : 4294967296 ≤ t
          · by_cases hrb : v + yn1 < 4294967296
            · go_wp2_with fail
              exact ⟨⟨t - 1, v + yn1, by simp, by simp, dnext C2.out IW.out (.inl hqb) hrb⟩, by simp [intOf]; omega⟩
            · have hrb' : 4294967296 ≤ v + yn1 := by omega
              have hzb := dbreak C2.out IW.out (.inl hqb) hrb'
              clear hrb
              obtain ⟨V2, F1, F2, F3, F4, F5, F6⟩ := left_var C2.out bY2 hzb
              have HV2 := hid F2
              have HQ2 := hid hzb
              clear F2 hzb
              go_wp2
              go_ret2
              exact ⟨ret_two (by rw [HQ.out, HQ2.out, HV.out]) (by rw [HV2.out, HV.out]), rfl⟩
          · have hqb' : t < 4294967296 := by omega
            clear hqb
            obtain ⟨Pb, Pb1, Pb2, Pb3, Pb4⟩ := half_var t yn0 (by omega) hqb' b01 b02
            have HPb := hid Pb2
            clear Pb2
            by_cases htb : 4294967296 * v + un0 < Pb
            · have HTb : Hid (4294967296 * v + un0 < t * yn0) := hid (by rw [← HPb.out]; exact htb)
              have hpb : 1 ≤ t := dpos C2.out IW.out (.inr HTb.out)
              by_cases hrb : v + yn1 < 4294967296
              · go_wp2_with fail
                exact ⟨⟨t - 1, v + yn1, by simp, by simp, dnext C2.out IW.out (.inr HTb.out) hrb⟩, by simp [intOf]; omega⟩
              · have hrb' : 4294967296 ≤ v + yn1 := by omega
                have hzb := dbreak C2.out IW.out (.inr HTb.out) hrb'
                clear hrb
                obtain ⟨V2, F1, F2, F3, F4, F5, F6⟩ := left_var C2.out bY2 hzb
                have HV2 := hid F2
                have HQ2 := hid hzb
                clear F2 hzb
                go_wp2
                go_ret2
                exact ⟨ret_two (by rw [HQ.out, HQ2.out, HV.out]) (by rw [HV2.out, HV.out]), rfl⟩
            · have hzb := dno C2.out IW.out (by rw [← HPb.out]; omega)
              have htb' : Pb ≤ 4294967296 * v + un0 := by omega
              clear htb
              obtain ⟨V2, F1, F2, F3, F4, F5, F6⟩ := left_var C2.out bY2 hzb
              have HV2 := hid F2
              have HQ2 := hid hzb
              clear F2 hzb
              go_wp2
              go_ret2
              exact ⟨ret_two (by rw [HQ.out, HQ2.out, HV.out]) (by rw [HV2.out, HV.out]), rfl⟩
end Go.Proofs.Ytmmcnbhhdgnljaa
