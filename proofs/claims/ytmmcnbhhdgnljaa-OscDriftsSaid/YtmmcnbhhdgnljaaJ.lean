/-
  The walk of OscDrifts: it returns true at every oscillator and numbers of 64 bits.
-/
import Derived.Test.YtmmcnbhhdgnljaaK
namespace Go.Proofs.Ytmmcnbhhdgnljaa
open Go Go.RowKit
set_option maxRecDepth 100000 in
theorem drifts_bad (p d r s a s1 A : Int) (w : World) (hk : ¬ Ok ⟨p, d, r⟩) (hs : s.tmod 1000 = s1) (s0 : -999 ≤ s1) (s2 : s1 ≤ 999) (hA : bits .and .i64 a 1048575 = A) :
    Calls Try.prog 5 #[ov ⟨p, d, r⟩, .int .i64 s, .int .i64 a] w fun e w' => e = .returned (.bool true) ∧ Below w.heap.size w w' := by
  have HK := hid hk
  clear hk
  go_enter Try.func5, Try.ntmps5
  go_wp2_with (first
    | (go_at_call 9; (with_reducible refine (check_bad p d r w5 HK.out).mono ?_); rintro e w6 ⟨rfl, b6⟩; have v6 := v5.keep b6; have u6 := u5.keep b6; have B6 : Hid (Below w.heap.size w w6) := hid (B5.out.trans (b6.mono B5.out.size)); clear v5 u5 b6)
    | (refine wpList_ldo rfl (.tmp 3) rfl rfl v5 ?_)
    | (refine wpList_sd rfl (.tmp 34) (.tmp 33) rfl rfl rfl u4 ?_; intro w5 u5 b5 o5 _; have v5 := v4.other o5 (by have := N_v_u.out; omega); have B5 : Hid (Below w.heap.size w w5) := hid (B4.out.trans (b5.mono B2.out.size)); clear v4 u4 b5 o5)
    | (refine wpList_svo (x := ⟨p, d, r⟩) rfl (.tmp 8) (.tmp 25) rfl rfl rfl u3 ?_; intro w4 u4 b4 o4 _; have v4 := v3.other o4 (by have := N_v_u.out; omega); have B4 : Hid (Below w.heap.size w w4) := hid (B3.out.trans (b4.mono B2.out.size)); clear v3 u3 b4 o4; have c1 : w4.cell? ⟨w2.heap.size, 1, none⟩ = some (.int .i64 d) := u4.c1)
    | (refine wpList_alo rfl rfl ?_; intro w3 u3 b3 s3; have v3 := v2.keep b3; have B3 : Hid (Below w.heap.size w w3) := hid (B2.out.trans (b3.mono B2.out.size)); have N_v_u : Hid (w.heap.size < w2.heap.size) := hid v2.lt; clear v2 b3 s3)
    | (refine wpList_ldo rfl (.tmp 3) rfl rfl v2 ?_)
    | (go_at_call 8; (with_reducible refine (live_any w1).mono ?_); rintro e w2 ⟨rfl, b2⟩; have v2 := v1.keep b2; have B2 : Hid (Below w.heap.size w w2) := hid (B1.out.trans (b2.mono B1.out.size)); clear v1 b2)
    | (refine wpList_boxo (x := ⟨p, d, r⟩) rfl (.tmp 0) rfl rfl ?_; intro w1 v1 b1 s1; have B1 : Hid (Below w.heap.size w w1) := hid b1; clear b1 s1))
  go_ret
  exact ⟨rfl, B6.out⟩
set_option maxRecDepth 100000 in
theorem drifts_over (p d r s a s1 S D A : Int) (w : World) (hk : Ok ⟨p, d, r⟩) (hp : ¬ Ok ⟨p, D, r⟩) (hs : s.tmod 1000 = s1) (s0 : -999 ≤ s1) (s2 : s1 ≤ 999) (hS : (s1 + 1000) % 1000 = S) (hD : d + S = D) (hA : bits .and .i64 a 1048575 = A) :
    Calls Try.prog 5 #[ov ⟨p, d, r⟩, .int .i64 s, .int .i64 a] w fun e w' => e = .returned (.bool true) ∧ Below w.heap.size w w' := by
  have HK := hid hk
  have HP := hid hp
  obtain ⟨h1, h2, h3, h4, h5, h6⟩ := hk
  simp only at h1 h2 h3 h4 h5 h6
  clear hp
  go_enter Try.func5, Try.ntmps5
  go_wp2_with (first
    | (go_at_call 9; (with_reducible refine (check_bad p D r w6 HP.out).mono ?_); rintro e w7 ⟨rfl, b7⟩; have v7 := v6.keep b7; have u7 := u6.keep b7; have B7 : Hid (Below w.heap.size w w7) := hid (B6.out.trans (b7.mono B6.out.size)); clear v6 u6 b7)
    | (refine wpList_ldo rfl (.tmp 8) rfl rfl u6 ?_)
    | (go_at_call 9; (with_reducible refine (check_ok p d r w5 HK.out).mono ?_); rintro e w6 ⟨rfl, b6⟩; have v6 := v5.keep b6; have u6 := u5.keep b6; have B6 : Hid (Below w.heap.size w w6) := hid (B5.out.trans (b6.mono B5.out.size)); clear v5 u5 b6)
    | (refine wpList_ldo rfl (.tmp 3) rfl rfl v5 ?_)
    | (refine wpList_sd rfl (.tmp 34) (.tmp 33) rfl rfl rfl u4 ?_; intro w5 u5 b5 o5 _; have v5 := v4.other o5 (by have := N_v_u.out; omega); have B5 : Hid (Below w.heap.size w w5) := hid (B4.out.trans (b5.mono B2.out.size)); clear v4 u4 b5 o5)
    | (refine wpList_svo (x := ⟨p, d, r⟩) rfl (.tmp 8) (.tmp 25) rfl rfl rfl u3 ?_; intro w4 u4 b4 o4 _; have v4 := v3.other o4 (by have := N_v_u.out; omega); have B4 : Hid (Below w.heap.size w w4) := hid (B3.out.trans (b4.mono B2.out.size)); clear v3 u3 b4 o4; have c1 : w4.cell? ⟨w2.heap.size, 1, none⟩ = some (.int .i64 d) := u4.c1)
    | (refine wpList_alo rfl rfl ?_; intro w3 u3 b3 s3; have v3 := v2.keep b3; have B3 : Hid (Below w.heap.size w w3) := hid (B2.out.trans (b3.mono B2.out.size)); have N_v_u : Hid (w.heap.size < w2.heap.size) := hid v2.lt; clear v2 b3 s3)
    | (refine wpList_ldo rfl (.tmp 3) rfl rfl v2 ?_)
    | (go_at_call 8; (with_reducible refine (live_any w1).mono ?_); rintro e w2 ⟨rfl, b2⟩; have v2 := v1.keep b2; have B2 : Hid (Below w.heap.size w w2) := hid (B1.out.trans (b2.mono B1.out.size)); clear v1 b2)
    | (refine wpList_boxo (x := ⟨p, d, r⟩) rfl (.tmp 0) rfl rfl ?_; intro w1 v1 b1 s1; have B1 : Hid (Below w.heap.size w w1) := hid b1; clear b1 s1))
  go_ret
  exact ⟨rfl, B7.out⟩
set_option maxRecDepth 100000 in
set_option maxHeartbeats 1000000 in
theorem drifts_walk (p d r s a s1 S D A X Y Z M : Int) (X1 Y1 : Oc) (w : World) (hk : Ok ⟨p, d, r⟩) (hp : Ok ⟨p, D, r⟩) (hs : s.tmod 1000 = s1) (s0 : -999 ≤ s1) (s2 : s1 ≤ 999) (hS : (s1 + 1000) % 1000 = S) (hD : d + S = D) (_S0 : 0 ≤ S) (_S1 : S ≤ 999)
    (hA : bits .and .i64 a 1048575 = A) (_A0 : 0 ≤ A) (_A1 : A ≤ 1048575)
    (hX : ∀ w : World, Calls Try.prog 11 #[ov ⟨p, d, r⟩, .int .i64 A] w fun e w' => e = .returned (.tuple #[.int .i64 X, ov X1, .int .i64 0]) ∧ Below w.heap.size w w')
    (hY : ∀ w : World, Calls Try.prog 11 #[ov ⟨p, D, r⟩, .int .i64 A] w fun e w' => e = .returned (.tuple #[.int .i64 Y, ov Y1, .int .i64 0]) ∧ Below w.heap.size w w')
    (hZ : ∀ w : World, Calls Try.prog 11 #[ov ⟨p, 0, 0⟩, .int .i64 A] w fun e w' => e = .returned (.tuple #[.int .i64 Z, ov ⟨p, 0, 0⟩, .int .i64 0]) ∧ Below w.heap.size w w')
    (hQ : ∀ w : World, Calls Try.prog 13 #[ov ⟨p, D, r⟩, ov ⟨p, d, r⟩, .int .i64 A] w fun e w' => e = .returned (.tuple #[.int .i64 (Y - X), .int .i64 0]) ∧ Below w.heap.size w w')
    (x0 : 0 ≤ X) (x1 : X ≤ 1152921504606846976) (y0 : 0 ≤ Y) (y1 : Y ≤ 1152921504606846976) (f1 : decide (Y < X) = false) (eZ : wrap64 (A * p) = Z) (z0 : 0 ≤ Z) (z1 : Z ≤ 1048575000000000) (hM : wrap64 (Z / 1000000 * S) = M) (m0 : 0 ≤ M) (m1 : M ≤ 2000000000000) (f2 : decide (Y - X ≤ M / 1000 + S + 1) = true) :
    Calls Try.prog 5 #[ov ⟨p, d, r⟩, .int .i64 s, .int .i64 a] w fun e w' => e = .returned (.bool true) ∧ Below w.heap.size w w' := by
  have HK := hid hk
  have HP := hid hp
  obtain ⟨h1, h2, h3, h4, h5, h6⟩ := hk
  simp only at h1 h2 h3 h4 h5 h6
  have HX := hid hX
  have HY := hid hY
  have HZ := hid hZ
  have HD := hid hQ
  clear hX hY hZ hQ hp
  go_enter Try.func5, Try.ntmps5
  go_wp2_with (first
    | (go_at_call 13; (with_reducible refine (HD.out w18).mono ?_); rintro e w19 ⟨rfl, b19⟩; have v19 := v18.keep b19; have u19 := u18.keep b19; have n19 := n18.keep b19; have x19 := x18.keep b19; have y19 := y18.keep b19; have z19 := z18.keep b19; have B19 : Hid (Below w.heap.size w w19) := hid (B18.out.trans (b19.mono B18.out.size)); clear v18 u18 n18 x18 y18 z18 b19; have e0 : w19.cell? ⟨w.heap.size, 0, none⟩ = some (.int .i64 p) := v19.c0; have e1 : w19.cell? ⟨w16.heap.size, 2, none⟩ = some (.int .i64 0) := z19.c2)
    | (refine wpList_ldo rfl (.tmp 3) rfl rfl v18 ?_)
    | (refine wpList_ldo rfl (.tmp 8) rfl rfl u18 ?_)
    | (refine wpList_svo (x := ⟨p, 0, 0⟩) rfl (.tmp 17) (.tmp 68) rfl rfl rfl z17 ?_; intro w18 z18 b18 o18 _; have v18 := v17.other o18 (by have := N_v_z.out; omega); have u18 := u17.other o18 (by have := N_u_z.out; omega); have n18 := n17.other o18 (by have := N_n_z.out; omega); have x18 := x17.other o18 (by have := N_x_z.out; omega); have y18 := y17.other o18 (by have := N_y_z.out; omega); have B18 : Hid (Below w.heap.size w w18) := hid (B17.out.trans (b18.mono B16.out.size)); clear v17 u17 n17 x17 y17 z17 b18 o18)
    | (refine wpList_alo rfl rfl ?_; intro w17 z17 b17 s17; have v17 := v16.keep b17; have u17 := u16.keep b17; have n17 := n16.keep b17; have x17 := x16.keep b17; have y17 := y16.keep b17; have B17 : Hid (Below w.heap.size w w17) := hid (B16.out.trans (b17.mono B16.out.size)); have N_v_z : Hid (w.heap.size < w16.heap.size) := hid v16.lt; have N_u_z : Hid (w2.heap.size < w16.heap.size) := hid u16.lt; have N_n_z : Hid (w7.heap.size < w16.heap.size) := hid n16.lt; have N_x_z : Hid (w10.heap.size < w16.heap.size) := hid x16.lt; have N_y_z : Hid (w13.heap.size < w16.heap.size) := hid y16.lt; clear v16 u16 n16 x16 y16 b17 s17)
    | (go_at_call 11; (with_reducible refine (HZ.out w15).mono ?_); rintro e w16 ⟨rfl, b16⟩; have v16 := v15.keep b16; have u16 := u15.keep b16; have n16 := n15.keep b16; have x16 := x15.keep b16; have y16 := y15.keep b16; have B16 : Hid (Below w.heap.size w w16) := hid (B15.out.trans (b16.mono B15.out.size)); clear v15 u15 n15 x15 y15 b16)
    | (refine wpList_ldo rfl (.tmp 9) rfl rfl n15 ?_)
    | (refine wpList_svo (x := Y1) rfl (.tmp 14) (.tmp 61) rfl rfl rfl y14 ?_; intro w15 y15 b15 o15 _; have v15 := v14.other o15 (by have := N_v_y.out; omega); have u15 := u14.other o15 (by have := N_u_y.out; omega); have n15 := n14.other o15 (by have := N_n_y.out; omega); have x15 := x14.other o15 (by have := N_x_y.out; omega); have B15 : Hid (Below w.heap.size w w15) := hid (B14.out.trans (b15.mono B13.out.size)); clear v14 u14 n14 x14 y14 b15 o15)
    | (refine wpList_alo rfl rfl ?_; intro w14 y14 b14 s14; have v14 := v13.keep b14; have u14 := u13.keep b14; have n14 := n13.keep b14; have x14 := x13.keep b14; have B14 : Hid (Below w.heap.size w w14) := hid (B13.out.trans (b14.mono B13.out.size)); have N_v_y : Hid (w.heap.size < w13.heap.size) := hid v13.lt; have N_u_y : Hid (w2.heap.size < w13.heap.size) := hid u13.lt; have N_n_y : Hid (w7.heap.size < w13.heap.size) := hid n13.lt; have N_x_y : Hid (w10.heap.size < w13.heap.size) := hid x13.lt; clear v13 u13 n13 x13 b14 s14)
    | (go_at_call 11; (with_reducible refine (HY.out w12).mono ?_); rintro e w13 ⟨rfl, b13⟩; have v13 := v12.keep b13; have u13 := u12.keep b13; have n13 := n12.keep b13; have x13 := x12.keep b13; have B13 : Hid (Below w.heap.size w w13) := hid (B12.out.trans (b13.mono B12.out.size)); clear v12 u12 n12 x12 b13)
    | (refine wpList_ldo rfl (.tmp 8) rfl rfl u12 ?_)
    | (refine wpList_svo (x := X1) rfl (.tmp 11) (.tmp 54) rfl rfl rfl x11 ?_; intro w12 x12 b12 o12 _; have v12 := v11.other o12 (by have := N_v_x.out; omega); have u12 := u11.other o12 (by have := N_u_x.out; omega); have n12 := n11.other o12 (by have := N_n_x.out; omega); have B12 : Hid (Below w.heap.size w w12) := hid (B11.out.trans (b12.mono B10.out.size)); clear v11 u11 n11 x11 b12 o12)
    | (refine wpList_alo rfl rfl ?_; intro w11 x11 b11 s11; have v11 := v10.keep b11; have u11 := u10.keep b11; have n11 := n10.keep b11; have B11 : Hid (Below w.heap.size w w11) := hid (B10.out.trans (b11.mono B10.out.size)); have N_v_x : Hid (w.heap.size < w10.heap.size) := hid v10.lt; have N_u_x : Hid (w2.heap.size < w10.heap.size) := hid u10.lt; have N_n_x : Hid (w7.heap.size < w10.heap.size) := hid n10.lt; clear v10 u10 n10 b11 s11)
    | (go_at_call 11; (with_reducible refine (HX.out w9).mono ?_); rintro e w10 ⟨rfl, b10⟩; have v10 := v9.keep b10; have u10 := u9.keep b10; have n10 := n9.keep b10; have B10 : Hid (Below w.heap.size w w10) := hid (B9.out.trans (b10.mono B9.out.size)); clear v9 u9 n9 b10)
    | (refine wpList_ldo rfl (.tmp 3) rfl rfl v9 ?_)
    | (refine wpList_svo (x := ⟨p, 0, 0⟩) rfl (.tmp 9) (.tmp 48) rfl rfl rfl n8 ?_; intro w9 n9 b9 o9 _; have v9 := v8.other o9 (by have := N_v_n.out; omega); have u9 := u8.other o9 (by have := N_u_n.out; omega); have B9 : Hid (Below w.heap.size w w9) := hid (B8.out.trans (b9.mono B7.out.size)); clear v8 u8 n8 b9 o9)
    | (refine wpList_alo rfl rfl ?_; intro w8 n8 b8 s8; have v8 := v7.keep b8; have u8 := u7.keep b8; have B8 : Hid (Below w.heap.size w w8) := hid (B7.out.trans (b8.mono B7.out.size)); have N_v_n : Hid (w.heap.size < w7.heap.size) := hid v7.lt; have N_u_n : Hid (w2.heap.size < w7.heap.size) := hid u7.lt; clear v7 u7 b8 s8)
    | (go_at_call 9; (with_reducible refine (check_ok p D r w6 HP.out).mono ?_); rintro e w7 ⟨rfl, b7⟩; have v7 := v6.keep b7; have u7 := u6.keep b7; have B7 : Hid (Below w.heap.size w w7) := hid (B6.out.trans (b7.mono B6.out.size)); clear v6 u6 b7; have a0 : w7.cell? ⟨w.heap.size, 0, none⟩ = some (.int .i64 p) := v7.c0)
    | (refine wpList_ldo rfl (.tmp 8) rfl rfl u6 ?_)
    | (go_at_call 9; (with_reducible refine (check_ok p d r w5 HK.out).mono ?_); rintro e w6 ⟨rfl, b6⟩; have v6 := v5.keep b6; have u6 := u5.keep b6; have B6 : Hid (Below w.heap.size w w6) := hid (B5.out.trans (b6.mono B5.out.size)); clear v5 u5 b6)
    | (refine wpList_ldo rfl (.tmp 3) rfl rfl v5 ?_)
    | (refine wpList_sd rfl (.tmp 34) (.tmp 33) rfl rfl rfl u4 ?_; intro w5 u5 b5 o5 _; have v5 := v4.other o5 (by have := N_v_u.out; omega); have B5 : Hid (Below w.heap.size w w5) := hid (B4.out.trans (b5.mono B2.out.size)); clear v4 u4 b5 o5)
    | (refine wpList_svo (x := ⟨p, d, r⟩) rfl (.tmp 8) (.tmp 25) rfl rfl rfl u3 ?_; intro w4 u4 b4 o4 _; have v4 := v3.other o4 (by have := N_v_u.out; omega); have B4 : Hid (Below w.heap.size w w4) := hid (B3.out.trans (b4.mono B2.out.size)); clear v3 u3 b4 o4; have c1 : w4.cell? ⟨w2.heap.size, 1, none⟩ = some (.int .i64 d) := u4.c1)
    | (refine wpList_alo rfl rfl ?_; intro w3 u3 b3 s3; have v3 := v2.keep b3; have B3 : Hid (Below w.heap.size w w3) := hid (B2.out.trans (b3.mono B2.out.size)); have N_v_u : Hid (w.heap.size < w2.heap.size) := hid v2.lt; clear v2 b3 s3)
    | (refine wpList_ldo rfl (.tmp 3) rfl rfl v2 ?_)
    | (go_at_call 8; (with_reducible refine (live_any w1).mono ?_); rintro e w2 ⟨rfl, b2⟩; have v2 := v1.keep b2; have B2 : Hid (Below w.heap.size w w2) := hid (B1.out.trans (b2.mono B1.out.size)); clear v1 b2)
    | (refine wpList_boxo (x := ⟨p, d, r⟩) rfl (.tmp 0) rfl rfl ?_; intro w1 v1 b1 s1; have B1 : Hid (Below w.heap.size w w1) := hid b1; clear b1 s1))
  go_ret
  exact ⟨ret_bool (by simp), B19.out⟩

theorem shape_ps (p d r n : Int) : psO ⟨p, d, r⟩ n = n * p + (n * p * d + r) / 1000000000 := by
  unfold psO tot
  simp only
  rw [← Int.mul_assoc, Int.mul_add]
  omega
theorem drift_near (Z E S M r : Int) (hZ : 0 ≤ Z) (hS0 : 0 ≤ S) (hS1 : S ≤ 999) (hM : M = Z / 1000000 * S) :
    (E + r) / 1000000000 ≤ (E + Z * S + r) / 1000000000 ∧ (E + Z * S + r) / 1000000000 - (E + r) / 1000000000 ≤ M / 1000 + S + 1 := by
  have hF0 : 0 ≤ Z * S := Int.mul_nonneg hZ hS0
  have hM0 : 0 ≤ M := by rw [hM]; exact Int.mul_nonneg (by omega) hS0
  have t1 : Z % 1000000 * S ≤ 999999 * 999 := Int.mul_le_mul (by omega) hS1 hS0 (by omega)
  have e : Z * S = M * 1000000 + Z % 1000000 * S := by
    have h := Int.mul_ediv_add_emod Z 1000000
    rw [hM]
    conv => lhs; rw [← h]
    rw [Int.add_mul, Int.mul_comm 1000000 (Z / 1000000), Int.mul_right_comm]
  by_cases h0 : S = 0
  · subst h0
    rw [Int.mul_zero]
    omega
  · generalize Z * S = F at *
    generalize Z % 1000000 * S = G at *
    omega
theorem drifts_row {w : World} (p d r : Int) (_ : (-9223372036854775808 ≤ p ∧ p ≤ 9223372036854775807)) (_ : (-9223372036854775808 ≤ d ∧ d ≤ 9223372036854775807)) (_ : (-9223372036854775808 ≤ r ∧ r ≤ 9223372036854775807)) (s : Int) (_ : -9223372036854775808 ≤ s) (_ : s ≤ 9223372036854775807) (a : Int) (_ : -9223372036854775808 ≤ a) (_ : a ≤ 9223372036854775807) :
    Calls Try.prog 5 #[ov ⟨p, d, r⟩, .int .i64 s, .int .i64 a] w fun e w' => e = .returned (.bool true) ∧ Below w.heap.size w w' := by
  have hA := and20 a
  have A0 : 0 ≤ a % 1048576 ∧ a % 1048576 ≤ 1048575 := by omega
  have t0 : -999 ≤ s.tmod 1000 ∧ s.tmod 1000 ≤ 999 := by
    have h1 := Int.tmod_lt_of_pos s (show (0 : Int) < 1000 by decide)
    have h2 := Int.tmod_lt_of_pos (-s) (show (0 : Int) < 1000 by decide)
    rw [Int.neg_tmod] at h2
    omega
  generalize hs : s.tmod 1000 = s1 at *
  generalize a % 1048576 = A at *
  by_cases hk : Ok ⟨p, d, r⟩
  · have S0 : 0 ≤ (s1 + 1000) % 1000 ∧ (s1 + 1000) % 1000 ≤ 999 := by omega
    generalize hS : (s1 + 1000) % 1000 = S at *
    by_cases hp : Ok ⟨p, d + S, r⟩
    · obtain ⟨h1, h2, h3, h4, h5, h6⟩ := id hk
      simp only at h1 h2 h3 h4 h5 h6
      have n0 : 0 ≤ A * p := Int.mul_nonneg A0.1 (by omega)
      have n1 : A * p ≤ 1048575 * 1000000000 := Int.mul_le_mul A0.2 h2 (by omega) (by omega)
      have kz : Ok ⟨p, 0, 0⟩ := ⟨h1, h2, by simp only; decide, by simp only; decide, by simp only; decide, by simp only; decide⟩
      have eZ := plain_ps (p := p) (n := A) (r := 0) (by decide) (by decide)
      have rZ := fun w => run_ok ⟨p, 0, 0⟩ A w kz A0.1 (by omega) (psO_small kz A0.2)
      rw [eZ.1, eZ.2] at rZ
      have near := drift_near (A * p) (A * p * d) S _ r n0 S0.1 S0.2 rfl
      have eX := shape_ps p d r A
      have eY := shape_ps p (d + S) r A
      rw [Int.mul_add (A * p)] at eY
      have m0 : 0 ≤ A * p / 1000000 * S := Int.mul_nonneg (by omega) S0.1
      have m1 : A * p / 1000000 * S ≤ 1048575000 * 999 := Int.mul_le_mul (by omega) S0.2 S0.1 (by omega)
      exact drifts_walk p d r s a s1 S (d + S) A (psO ⟨p, d, r⟩ A) (psO ⟨p, d + S, r⟩ A) (A * p) (A * p / 1000000 * S) _ _ w hk hp hs t0.1 t0.2 hS rfl S0.1 S0.2 hA A0.1 A0.2
        (fun w => run_ok ⟨p, d, r⟩ A w hk A0.1 (by omega) (psO_small hk A0.2)) (fun w => run_ok ⟨p, d + S, r⟩ A w hp A0.1 (by omega) (psO_small hp A0.2)) rZ
        (fun w => apart_ok ⟨p, d + S, r⟩ ⟨p, d, r⟩ A w hp hk A0.1 (by omega) (psO_nonneg hp A0.1) (psO_nonneg hk A0.1) (psO_small hp A0.2) (psO_small hk A0.2))
        (psO_nonneg hk A0.1) (psO_small hk A0.2) (psO_nonneg hp A0.1) (psO_small hp A0.2) (by rw [eX, eY]; exact decide_eq_false (by omega)) (by unfold wrap64; omega) n0 (by omega) (by unfold wrap64; omega) m0 (by omega) (by rw [eX, eY]; exact decide_eq_true (by omega))
    · exact drifts_over p d r s a s1 S (d + S) _ w hk hp hs t0.1 t0.2 hS rfl hA
  · exact drifts_bad p d r s a s1 _ w hk hs t0.1 t0.2 hA
end Go.Proofs.Ytmmcnbhhdgnljaa
