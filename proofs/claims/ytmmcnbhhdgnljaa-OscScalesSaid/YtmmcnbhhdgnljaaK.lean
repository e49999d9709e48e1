/-
  The walk of OscScales: it returns true at every oscillator and numbers of its types.
-/
import Derived.Test.YtmmcnbhhdgnljaaH
namespace Go.Proofs.Ytmmcnbhhdgnljaa
open Go Go.RowKit
set_option maxRecDepth 100000 in
theorem scales_bad (p d r a k A : Int) (w : World) (hk : ¬ Ok ⟨p, d, r⟩) (hA : bits .and .i64 a 1048575 = A) :
    Calls Try.prog 7 #[ov ⟨p, d, r⟩, .int .i64 a, .int .u8 k] w fun e w' => e = .returned (.bool true) ∧ Below w.heap.size w w' := by
  have HK := hid hk
  clear hk
  go_enter Try.func7, Try.ntmps7
  go_wp2_with (first
    | (go_at_call 9; (with_reducible refine (check_bad p d r w2 HK.out).mono ?_); rintro e w3 ⟨rfl, b3⟩; have v3 := v2.keep b3; have B3 : Hid (Below w.heap.size w w3) := hid (B2.out.trans (b3.mono B2.out.size)); clear v2 b3)
    | (refine wpList_ldo rfl (.tmp 3) rfl rfl v2 ?_)
    | (go_at_call 8; (with_reducible refine (live_any w1).mono ?_); rintro e w2 ⟨rfl, b2⟩; have v2 := v1.keep b2; have B2 : Hid (Below w.heap.size w w2) := hid (B1.out.trans (b2.mono B1.out.size)); clear v1 b2)
    | (refine wpList_boxo (x := ⟨p, d, r⟩) rfl (.tmp 0) rfl rfl ?_; intro w1 v1 b1 s1; have B1 : Hid (Below w.heap.size w w1) := hid b1; clear b1 s1))
  go_ret
  exact ⟨rfl, B3.out⟩
set_option maxRecDepth 100000 in
theorem scales_much (p d r a k A : Int) (w : World) (hk : Ok ⟨p, d, r⟩) (hp : 1000000 < p) (hA : bits .and .i64 a 1048575 = A) :
    Calls Try.prog 7 #[ov ⟨p, d, r⟩, .int .i64 a, .int .u8 k] w fun e w' => e = .returned (.bool true) ∧ Below w.heap.size w w' := by
  have HK := hid hk
  clear hk
  go_enter Try.func7, Try.ntmps7
  go_wp2_with (first
    | (go_at_call 9; (with_reducible refine (check_ok p d r w2 HK.out).mono ?_); rintro e w3 ⟨rfl, b3⟩; have v3 := v2.keep b3; have B3 : Hid (Below w.heap.size w w3) := hid (B2.out.trans (b3.mono B2.out.size)); clear v2 b3; have c0 : w3.cell? ⟨w.heap.size, 0, none⟩ = some (.int .i64 p) := v3.c0)
    | (refine wpList_ldo rfl (.tmp 3) rfl rfl v2 ?_)
    | (go_at_call 8; (with_reducible refine (live_any w1).mono ?_); rintro e w2 ⟨rfl, b2⟩; have v2 := v1.keep b2; have B2 : Hid (Below w.heap.size w w2) := hid (B1.out.trans (b2.mono B1.out.size)); clear v1 b2)
    | (refine wpList_boxo (x := ⟨p, d, r⟩) rfl (.tmp 0) rfl rfl ?_; intro w1 v1 b1 s1; have B1 : Hid (Below w.heap.size w w1) := hid b1; clear b1 s1))
  go_ret
  exact ⟨rfl, B3.out⟩
set_option maxRecDepth 100000 in
set_option maxHeartbeats 1000000 in
theorem scales_walk (p d r a k A P X R Y Z : Int) (w : World) (hk : Ok ⟨p, d, r⟩) (hp : p ≤ 1000000) (k0 : 0 ≤ k) (k1 : k ≤ 255) (hA : bits .and .i64 a 1048575 = A) (hP : wrap64 (p * (k + 1)) = P)
    (hX : ∀ w : World, Calls Try.prog 11 #[ov ⟨p, d, r⟩, .int .i64 A] w fun e w' => e = .returned (.tuple #[.int .i64 X, ov ⟨p, d, R⟩, .int .i64 0]) ∧ Below w.heap.size w w')
    (hY : ∀ w : World, Calls Try.prog 11 #[ov ⟨p, 0, r⟩, .int .i64 A] w fun e w' => e = .returned (.tuple #[.int .i64 Y, ov ⟨p, 0, r⟩, .int .i64 0]) ∧ Below w.heap.size w w')
    (hZ : ∀ w : World, Calls Try.prog 11 #[ov ⟨P, 0, r⟩, .int .i64 A] w fun e w' => e = .returned (.tuple #[.int .i64 Z, ov ⟨P, 0, r⟩, .int .i64 0]) ∧ Below w.heap.size w w')
    (x0 : 0 ≤ X) (r0 : 0 ≤ R) (r1 : R < 1000000000) (hQ : wrap64 (Y * (k + 1)) = Z) :
    Calls Try.prog 7 #[ov ⟨p, d, r⟩, .int .i64 a, .int .u8 k] w fun e w' => e = .returned (.bool true) ∧ Below w.heap.size w w' := by
  have HK := hid hk
  obtain ⟨h1, h2, h3, h4, h5, h6⟩ := hk
  simp only at h1 h2 h3 h4 h5 h6
  have HX := hid hX
  have HY := hid hY
  have HZ := hid hZ
  clear hX hY hZ
  go_enter Try.func7, Try.ntmps7
  go_wp2_with (first
    | (refine wpList_svo (x := ⟨P, 0, r⟩) rfl (.tmp 17) (.tmp 66) rfl rfl rfl s15 ?_; intro w16 s16 b16 o16 _; have v16 := v15.other o16 (by have := N_v_s.out; omega); have x16 := x15.other o16 (by have := N_x_s.out; omega); have y16 := y15.other o16 (by have := N_y_s.out; omega); have z16 := z15.other o16 (by have := N_z_s.out; omega); have q16 := q15.other o16 (by have := N_q_s.out; omega); have B16 : Hid (Below w.heap.size w w16) := hid (B15.out.trans (b16.mono B14.out.size)); clear v15 x15 y15 z15 q15 s15 b16 o16; have e1 : w16.cell? ⟨w4.heap.size, 2, none⟩ = some (.int .i64 R) := x16.c2; have e2 : w16.cell? ⟨w11.heap.size, 2, none⟩ = some (.int .i64 r) := q16.c2; have e3 : w16.cell? ⟨w14.heap.size, 2, none⟩ = some (.int .i64 r) := s16.c2; have e4 : w16.cell? ⟨w.heap.size, 2, none⟩ = some (.int .i64 r) := v16.c2)
    | (refine wpList_alo rfl rfl ?_; intro w15 s15 b15 s15; have v15 := v14.keep b15; have x15 := x14.keep b15; have y15 := y14.keep b15; have z15 := z14.keep b15; have q15 := q14.keep b15; have B15 : Hid (Below w.heap.size w w15) := hid (B14.out.trans (b15.mono B14.out.size)); have N_v_s : Hid (w.heap.size < w14.heap.size) := hid v14.lt; have N_x_s : Hid (w4.heap.size < w14.heap.size) := hid x14.lt; have N_y_s : Hid (w6.heap.size < w14.heap.size) := hid y14.lt; have N_z_s : Hid (w8.heap.size < w14.heap.size) := hid z14.lt; have N_q_s : Hid (w11.heap.size < w14.heap.size) := hid q14.lt; clear v14 x14 y14 z14 q14 b15 s15)
    | (go_at_call 11; (with_reducible refine (HZ.out w13).mono ?_); rintro e w14 ⟨rfl, b14⟩; have v14 := v13.keep b14; have x14 := x13.keep b14; have y14 := y13.keep b14; have z14 := z13.keep b14; have q14 := q13.keep b14; have B14 : Hid (Below w.heap.size w w14) := hid (B13.out.trans (b14.mono B13.out.size)); clear v13 x13 y13 z13 q13 b14)
    | (refine wpList_ldo rfl (.tmp 12) rfl rfl z13 ?_)
    | (refine wpList_svo (x := ⟨p, 0, r⟩) rfl (.tmp 14) (.tmp 59) rfl rfl rfl q12 ?_; intro w13 q13 b13 o13 _; have v13 := v12.other o13 (by have := N_v_q.out; omega); have x13 := x12.other o13 (by have := N_x_q.out; omega); have y13 := y12.other o13 (by have := N_y_q.out; omega); have z13 := z12.other o13 (by have := N_z_q.out; omega); have B13 : Hid (Below w.heap.size w w13) := hid (B12.out.trans (b13.mono B11.out.size)); clear v12 x12 y12 z12 q12 b13 o13)
    | (refine wpList_alo rfl rfl ?_; intro w12 q12 b12 s12; have v12 := v11.keep b12; have x12 := x11.keep b12; have y12 := y11.keep b12; have z12 := z11.keep b12; have B12 : Hid (Below w.heap.size w w12) := hid (B11.out.trans (b12.mono B11.out.size)); have N_v_q : Hid (w.heap.size < w11.heap.size) := hid v11.lt; have N_x_q : Hid (w4.heap.size < w11.heap.size) := hid x11.lt; have N_y_q : Hid (w6.heap.size < w11.heap.size) := hid y11.lt; have N_z_q : Hid (w8.heap.size < w11.heap.size) := hid z11.lt; clear v11 x11 y11 z11 b12 s12)
    | (go_at_call 11; (with_reducible refine (HY.out w10).mono ?_); rintro e w11 ⟨rfl, b11⟩; have v11 := v10.keep b11; have x11 := x10.keep b11; have y11 := y10.keep b11; have z11 := z10.keep b11; have B11 : Hid (Below w.heap.size w w11) := hid (B10.out.trans (b11.mono B10.out.size)); clear v10 x10 y10 z10 b11)
    | (refine wpList_ldo rfl (.tmp 11) rfl rfl y10 ?_)
    | (refine wpList_svo (x := ⟨P, 0, r⟩) rfl (.tmp 12) (.tmp 53) rfl rfl rfl z9 ?_; intro w10 z10 b10 o10 _; have v10 := v9.other o10 (by have := N_v_z.out; omega); have x10 := x9.other o10 (by have := N_x_z.out; omega); have y10 := y9.other o10 (by have := N_y_z.out; omega); have B10 : Hid (Below w.heap.size w w10) := hid (B9.out.trans (b10.mono B8.out.size)); clear v9 x9 y9 z9 b10 o10)
    | (refine wpList_alo rfl rfl ?_; intro w9 z9 b9 s9; have v9 := v8.keep b9; have x9 := x8.keep b9; have y9 := y8.keep b9; have B9 : Hid (Below w.heap.size w w9) := hid (B8.out.trans (b9.mono B8.out.size)); have N_v_z : Hid (w.heap.size < w8.heap.size) := hid v8.lt; have N_x_z : Hid (w4.heap.size < w8.heap.size) := hid x8.lt; have N_y_z : Hid (w6.heap.size < w8.heap.size) := hid y8.lt; clear v8 x8 y8 b9 s9)
    | (refine wpList_svo (x := ⟨p, 0, r⟩) rfl (.tmp 11) (.tmp 44) rfl rfl rfl y7 ?_; intro w8 y8 b8 o8 _; have v8 := v7.other o8 (by have := N_v_y.out; omega); have x8 := x7.other o8 (by have := N_x_y.out; omega); have B8 : Hid (Below w.heap.size w w8) := hid (B7.out.trans (b8.mono B6.out.size)); clear v7 x7 y7 b8 o8; have d0 : w8.cell? ⟨w.heap.size, 0, none⟩ = some (.int .i64 p) := v8.c0; have d2 : w8.cell? ⟨w.heap.size, 2, none⟩ = some (.int .i64 r) := v8.c2)
    | (refine wpList_alo rfl rfl ?_; intro w7 y7 b7 s7; have v7 := v6.keep b7; have x7 := x6.keep b7; have B7 : Hid (Below w.heap.size w w7) := hid (B6.out.trans (b7.mono B6.out.size)); have N_v_y : Hid (w.heap.size < w6.heap.size) := hid v6.lt; have N_x_y : Hid (w4.heap.size < w6.heap.size) := hid x6.lt; clear v6 x6 b7 s7)
    | (refine wpList_svo (x := ⟨p, d, R⟩) rfl (.tmp 9) (.tmp 38) rfl rfl rfl x5 ?_; intro w6 x6 b6 o6 _; have v6 := v5.other o6 (by have := N_v_x.out; omega); have B6 : Hid (Below w.heap.size w w6) := hid (B5.out.trans (b6.mono B4.out.size)); clear v5 x5 b6 o6; have a0 : w6.cell? ⟨w.heap.size, 0, none⟩ = some (.int .i64 p) := v6.c0; have a2 : w6.cell? ⟨w.heap.size, 2, none⟩ = some (.int .i64 r) := v6.c2)
    | (refine wpList_alo rfl rfl ?_; intro w5 x5 b5 s5; have v5 := v4.keep b5; have B5 : Hid (Below w.heap.size w w5) := hid (B4.out.trans (b5.mono B4.out.size)); have N_v_x : Hid (w.heap.size < w4.heap.size) := hid v4.lt; clear v4 b5 s5)
    | (go_at_call 11; (with_reducible refine (HX.out w3).mono ?_); rintro e w4 ⟨rfl, b4⟩; have v4 := v3.keep b4; have B4 : Hid (Below w.heap.size w w4) := hid (B3.out.trans (b4.mono B3.out.size)); clear v3 b4)
    | (refine wpList_ldo rfl (.tmp 3) rfl rfl v3 ?_)
    | (go_at_call 9; (with_reducible refine (check_ok p d r w2 HK.out).mono ?_); rintro e w3 ⟨rfl, b3⟩; have v3 := v2.keep b3; have B3 : Hid (Below w.heap.size w w3) := hid (B2.out.trans (b3.mono B2.out.size)); clear v2 b3; have c0 : w3.cell? ⟨w.heap.size, 0, none⟩ = some (.int .i64 p) := v3.c0)
    | (refine wpList_ldo rfl (.tmp 3) rfl rfl v2 ?_)
    | (go_at_call 8; (with_reducible refine (live_any w1).mono ?_); rintro e w2 ⟨rfl, b2⟩; have v2 := v1.keep b2; have B2 : Hid (Below w.heap.size w w2) := hid (B1.out.trans (b2.mono B1.out.size)); clear v1 b2)
    | (refine wpList_boxo (x := ⟨p, d, r⟩) rfl (.tmp 0) rfl rfl ?_; intro w1 v1 b1 s1; have B1 : Hid (Below w.heap.size w w1) := hid b1; clear b1 s1))
  go_ret
  exact ⟨ret_bool (by simp), B16.out⟩

theorem plain_run {p r n : Int} : tot ⟨p, 0, r⟩ n = n * p * 1000000000 + r := by unfold tot; simp only [Int.add_zero]; rw [Int.mul_assoc]
theorem plain_ps {p r n : Int} (h0 : 0 ≤ r) (h1 : r < 1000000000) : psO ⟨p, 0, r⟩ n = n * p ∧ aft ⟨p, 0, r⟩ n = ⟨p, 0, r⟩ := by
  unfold psO aft
  rw [plain_run]
  generalize n * p = m
  refine ⟨by omega, ?_⟩
  show (⟨p, 0, (m * 1000000000 + r) % 1000000000⟩ : Oc) = ⟨p, 0, r⟩
  rw [show (m * 1000000000 + r) % 1000000000 = r by omega]
theorem scales_row {w : World} (p d r : Int) (_ : (-9223372036854775808 ≤ p ∧ p ≤ 9223372036854775807)) (_ : (-9223372036854775808 ≤ d ∧ d ≤ 9223372036854775807)) (_ : (-9223372036854775808 ≤ r ∧ r ≤ 9223372036854775807)) (a : Int) (_ : -9223372036854775808 ≤ a) (_ : a ≤ 9223372036854775807) (k : Int) (k0 : 0 ≤ k) (k1 : k ≤ 255) :
    Calls Try.prog 7 #[ov ⟨p, d, r⟩, .int .i64 a, .int .u8 k] w fun e w' => e = .returned (.bool true) ∧ Below w.heap.size w w' := by
  by_cases hk : Ok ⟨p, d, r⟩
  · by_cases hp : p ≤ 1000000
    · have a0 : 0 ≤ a % 1048576 ∧ a % 1048576 ≤ 1048575 := by omega
      have hA := and20 a
      generalize a % 1048576 = A at *
      obtain ⟨h1, h2, h3, h4, h5, h6⟩ := id hk
      simp only at h1 h2 h3 h4 h5 h6
      have m0 : 1 * 1 ≤ p * (k + 1) := Int.mul_le_mul h1 (by omega) (by omega) (by omega)
      have m1 : p * (k + 1) ≤ 1000000 * 256 := Int.mul_le_mul hp (by omega) (by omega) (by omega)
      have n0 : 0 ≤ A * p := Int.mul_nonneg a0.1 (by omega)
      have n1 : A * p ≤ 1048575 * 1000000 := Int.mul_le_mul a0.2 hp (by omega) (by omega)
      have l0 : 0 ≤ A * p * (k + 1) := Int.mul_nonneg n0 (by omega)
      have l1 : A * p * (k + 1) ≤ 1048575 * 1000000 * 256 := Int.mul_le_mul n1 (by omega) (by omega) (by omega)
      have kp : Ok ⟨p, 0, r⟩ := ⟨h1, h2, by simp only; decide, by simp only; decide, h5, h6⟩
      have kP : Ok ⟨p * (k + 1), 0, r⟩ := ⟨by simp only; omega, by simp only; omega, by simp only; decide, by simp only; decide, h5, h6⟩
      have eY := plain_ps (p := p) (n := A) h5 h6
      have eZ := plain_ps (p := p * (k + 1)) (n := A) h5 h6
      have rY := fun w => run_ok ⟨p, 0, r⟩ A w kp a0.1 (by omega) (psO_small kp a0.2)
      have rZ := fun w => run_ok ⟨p * (k + 1), 0, r⟩ A w kP a0.1 (by omega) (psO_small kP a0.2)
      rw [eY.1, eY.2] at rY
      rw [eZ.1, eZ.2, ← Int.mul_assoc] at rZ
      have ka := aft_ok _ A hk
      refine scales_walk p d r a k A (p * (k + 1)) (psO ⟨p, d, r⟩ A) (aft ⟨p, d, r⟩ A).r (A * p) (A * p * (k + 1)) w hk hp k0 k1 hA (by unfold wrap64; omega)
        (fun w => run_ok ⟨p, d, r⟩ A w hk a0.1 (by omega) (psO_small hk a0.2)) rY rZ (psO_nonneg hk a0.1) ka.2.2.2.2.1 ka.2.2.2.2.2 (by unfold wrap64; omega)
    · exact scales_much p d r a k _ w hk (by omega) rfl
  · exact scales_bad p d r a k _ w hk rfl
end Go.Proofs.Ytmmcnbhhdgnljaa
