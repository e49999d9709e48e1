/-
  The walk of OscGrows: it returns true at every oscillator and numbers of 64 bits.
-/
import Derived.Test.YtmmcnbhhdgnljaaG
namespace Go.Proofs.Ytmmcnbhhdgnljaa
open Go Go.RowKit
theorem and20 (n : Int) : bits .and .i64 n 1048575 = n % 1048576 := by
  have h20 : (BitVec.ofInt 64 1048575).toNat = 2 ^ 20 - 1 := by decide
  have key : (BitVec.ofInt 64 n &&& BitVec.ofInt 64 1048575).toNat = (n % ((2 ^ 64 : Nat) : Int)).toNat % 2 ^ 20 := by
    rw [BitVec.toNat_and, BitVec.toNat_ofInt, h20, Nat.and_two_pow_sub_one_eq_mod]
  show IntKind.i64.wrap ((BitVec.ofInt 64 n &&& BitVec.ofInt 64 1048575).toNat : Nat) = n % 1048576
  rw [key, IntKind.wrap_i64]
  omega
set_option maxRecDepth 100000 in
theorem grows_bad (p d r a b A B : Int) (w : World) (hk : ¬ Ok ⟨p, d, r⟩) (hA : bits .and .i64 a 1048575 = A) (hB : bits .and .i64 b 1048575 = B) :
    Calls Try.prog 6 #[ov ⟨p, d, r⟩, .int .i64 a, .int .i64 b] w fun e w' => e = .returned (.bool true) ∧ Below w.heap.size w w' := by
  have HK := hid hk
  clear hk
  go_enter Try.func6, Try.ntmps6
  go_wp2_with (first
    | (go_at_call 9; (with_reducible refine (check_bad p d r w2 HK.out).mono ?_); rintro e w3 ⟨rfl, b3⟩; have v3 := v2.keep b3; have B3 : Hid (Below w.heap.size w w3) := hid (B2.out.trans (b3.mono B2.out.size)); clear v2 b3)
    | (refine wpList_ldo rfl (.tmp 3) rfl rfl v2 ?_)
    | (go_at_call 8; (with_reducible refine (live_any w1).mono ?_); rintro e w2 ⟨rfl, b2⟩; have v2 := v1.keep b2; have B2 : Hid (Below w.heap.size w w2) := hid (B1.out.trans (b2.mono B1.out.size)); clear v1 b2)
    | (refine wpList_boxo (x := ⟨p, d, r⟩) rfl (.tmp 0) rfl rfl ?_; intro w1 v1 b1 s1; have B1 : Hid (Below w.heap.size w w1) := hid b1; clear b1 s1))
  go_ret
  exact ⟨rfl, B3.out⟩
set_option maxRecDepth 100000 in
set_option maxHeartbeats 1000000 in
theorem grows_walk (p d r a b A B X Y N M Z : Int) (X1 Y1 Z1 : Oc) (w : World) (hk : Ok ⟨p, d, r⟩) (hA : bits .and .i64 a 1048575 = A) (hB : bits .and .i64 b 1048575 = B)
    (hX : ∀ w : World, Calls Try.prog 11 #[ov ⟨p, d, r⟩, .int .i64 (min A B)] w fun e w' => e = .returned (.tuple #[.int .i64 X, ov X1, .int .i64 0]) ∧ Below w.heap.size w w')
    (hY : ∀ w : World, Calls Try.prog 11 #[ov ⟨p, d, r⟩, .int .i64 (max A B)] w fun e w' => e = .returned (.tuple #[.int .i64 Y, ov Y1, .int .i64 0]) ∧ Below w.heap.size w w')
    (hN : ∀ w : World, Calls Try.prog 12 #[ov ⟨p, d, r⟩, .int .i64 (min A B)] w fun e w' => e = .returned (.tuple #[.int .i64 N, .int .i64 0]) ∧ Below w.heap.size w w')
    (hM : ∀ w : World, Calls Try.prog 12 #[ov ⟨p, d, r⟩, .int .i64 (max A B)] w fun e w' => e = .returned (.tuple #[.int .i64 M, .int .i64 0]) ∧ Below w.heap.size w w')
    (hZ : ∀ w : World, Calls Try.prog 11 #[ov ⟨p, d, r⟩, .int .i64 1] w fun e w' => e = .returned (.tuple #[.int .i64 Z, ov Z1, .int .i64 0]) ∧ Below w.heap.size w w')
    (f1 : decide (X ≤ Y) = true) (f2 : decide (N ≤ M) = true) (f3 : decide (Z ≤ p + p / 1000 + 1) = true) (f4 : decide (p - p / 1000 - 1 ≤ Z) = true) :
    Calls Try.prog 6 #[ov ⟨p, d, r⟩, .int .i64 a, .int .i64 b] w fun e w' => e = .returned (.bool true) ∧ Below w.heap.size w w' := by
  have HK := hid hk
  obtain ⟨h1, h2, h3, h4, h5, h6⟩ := hk
  simp only at h1 h2 h3 h4 h5 h6
  have HX := hid hX
  have HY := hid hY
  have HN := hid hN
  have HM := hid hM
  have HZ := hid hZ
  clear hX hY hN hM hZ
  go_enter Try.func6, Try.ntmps6
  go_wp2_with (first
    | (refine wpList_svo (x := Z1) rfl (.tmp 19) (.tmp 70) rfl rfl rfl z13 ?_; intro w14 z14 b14 o14 _; have v14 := v13.other o14 (by have := N_v_z.out; omega); have x14 := x13.other o14 (by have := N_x_z.out; omega); have y14 := y13.other o14 (by have := N_y_z.out; omega); have B14 : Hid (Below w.heap.size w w14) := hid (B13.out.trans (b14.mono B12.out.size)); clear v13 x13 y13 z13 b14 o14; have c0 : w14.cell? ⟨w.heap.size, 0, none⟩ = some (.int .i64 p) := v14.c0)
    | (refine wpList_alo rfl rfl ?_; intro w13 z13 b13 s13; have v13 := v12.keep b13; have x13 := x12.keep b13; have y13 := y12.keep b13; have B13 : Hid (Below w.heap.size w w13) := hid (B12.out.trans (b13.mono B12.out.size)); have N_v_z : Hid (w.heap.size < w12.heap.size) := hid v12.lt; have N_x_z : Hid (w4.heap.size < w12.heap.size) := hid x12.lt; have N_y_z : Hid (w7.heap.size < w12.heap.size) := hid y12.lt; clear v12 x12 y12 b13 s13)
    | (go_at_call 11; (with_reducible refine (HZ.out w11).mono ?_); rintro e w12 ⟨rfl, b12⟩; have v12 := v11.keep b12; have x12 := x11.keep b12; have y12 := y11.keep b12; have B12 : Hid (Below w.heap.size w w12) := hid (B11.out.trans (b12.mono B11.out.size)); clear v11 x11 y11 b12)
    | (refine wpList_ldo rfl (.tmp 3) rfl rfl v11 ?_)
    | (go_at_call 12; (with_reducible refine (HM.out w10).mono ?_); rintro e w11 ⟨rfl, b11⟩; have v11 := v10.keep b11; have x11 := x10.keep b11; have y11 := y10.keep b11; have B11 : Hid (Below w.heap.size w w11) := hid (B10.out.trans (b11.mono B10.out.size)); clear v10 x10 y10 b11)
    | (refine wpList_ldo rfl (.tmp 3) rfl rfl v10 ?_)
    | (go_at_call 12; (with_reducible refine (HN.out w9).mono ?_); rintro e w10 ⟨rfl, b10⟩; have v10 := v9.keep b10; have x10 := x9.keep b10; have y10 := y9.keep b10; have B10 : Hid (Below w.heap.size w w10) := hid (B9.out.trans (b10.mono B9.out.size)); clear v9 x9 y9 b10)
    | (refine wpList_ldo rfl (.tmp 3) rfl rfl v9 ?_)
    | (refine wpList_svo (x := Y1) rfl (.tmp 12) (.tmp 48) rfl rfl rfl y8 ?_; intro w9 y9 b9 o9 _; have v9 := v8.other o9 (by have := N_v_y.out; omega); have x9 := x8.other o9 (by have := N_x_y.out; omega); have B9 : Hid (Below w.heap.size w w9) := hid (B8.out.trans (b9.mono B7.out.size)); clear v8 x8 y8 b9 o9)
    | (refine wpList_alo rfl rfl ?_; intro w8 y8 b8 s8; have v8 := v7.keep b8; have x8 := x7.keep b8; have B8 : Hid (Below w.heap.size w w8) := hid (B7.out.trans (b8.mono B7.out.size)); have N_v_y : Hid (w.heap.size < w7.heap.size) := hid v7.lt; have N_x_y : Hid (w4.heap.size < w7.heap.size) := hid x7.lt; clear v7 x7 b8 s8)
    | (go_at_call 11; (with_reducible refine (HY.out w6).mono ?_); rintro e w7 ⟨rfl, b7⟩; have v7 := v6.keep b7; have x7 := x6.keep b7; have B7 : Hid (Below w.heap.size w w7) := hid (B6.out.trans (b7.mono B6.out.size)); clear v6 x6 b7)
    | (refine wpList_ldo rfl (.tmp 3) rfl rfl v6 ?_)
    | (refine wpList_svo (x := X1) rfl (.tmp 9) (.tmp 39) rfl rfl rfl x5 ?_; intro w6 x6 b6 o6 _; have v6 := v5.other o6 (by have := N_v_x.out; omega); have B6 : Hid (Below w.heap.size w w6) := hid (B5.out.trans (b6.mono B4.out.size)); clear v5 x5 b6 o6)
    | (refine wpList_alo rfl rfl ?_; intro w5 x5 b5 s5; have v5 := v4.keep b5; have B5 : Hid (Below w.heap.size w w5) := hid (B4.out.trans (b5.mono B4.out.size)); have N_v_x : Hid (w.heap.size < w4.heap.size) := hid v4.lt; clear v4 b5 s5)
    | (go_at_call 11; (with_reducible refine (HX.out w3).mono ?_); rintro e w4 ⟨rfl, b4⟩; have v4 := v3.keep b4; have B4 : Hid (Below w.heap.size w w4) := hid (B3.out.trans (b4.mono B3.out.size)); clear v3 b4)
    | (refine wpList_ldo rfl (.tmp 3) rfl rfl v3 ?_)
    | (go_at_call 9; (with_reducible refine (check_ok p d r w2 HK.out).mono ?_); rintro e w3 ⟨rfl, b3⟩; have v3 := v2.keep b3; have B3 : Hid (Below w.heap.size w w3) := hid (B2.out.trans (b3.mono B2.out.size)); clear v2 b3)
    | (refine wpList_ldo rfl (.tmp 3) rfl rfl v2 ?_)
    | (go_at_call 8; (with_reducible refine (live_any w1).mono ?_); rintro e w2 ⟨rfl, b2⟩; have v2 := v1.keep b2; have B2 : Hid (Below w.heap.size w w2) := hid (B1.out.trans (b2.mono B1.out.size)); clear v1 b2)
    | (refine wpList_boxo (x := ⟨p, d, r⟩) rfl (.tmp 0) rfl rfl ?_; intro w1 v1 b1 s1; have B1 : Hid (Below w.heap.size w w1) := hid b1; clear b1 s1))
  go_ret
  exact ⟨ret_bool (by simp), B14.out⟩

theorem psO_le {x : Oc} {n m : Int} (h : Ok x) (hn : n ≤ m) : psO x n ≤ psO x m := by
  have hr := rate_range h.1 h.2.1 h.2.2.1 h.2.2.2.1
  have := Int.mul_le_mul_of_nonneg_right hn (show 0 ≤ x.p * (1000000000 + x.d) by omega)
  unfold psO tot
  omega
theorem psO_nonneg {x : Oc} {n : Int} (h : Ok x) (hn : 0 ≤ n) : 0 ≤ psO x n := by
  have hr := rate_range h.1 h.2.1 h.2.2.1 h.2.2.2.1
  have := Int.mul_nonneg hn (show 0 ≤ x.p * (1000000000 + x.d) by omega)
  have h5 := h.2.2.2.2.1
  unfold psO tot
  omega
theorem psO_small {x : Oc} {n : Int} (h : Ok x) (hn : n ≤ 1048575) : psO x n ≤ 1152921504606846976 := by
  have hr := rate_range h.1 h.2.1 h.2.2.1 h.2.2.2.1
  have := Int.mul_le_mul_of_nonneg_right hn (show 0 ≤ x.p * (1000000000 + x.d) by omega)
  have h6 := h.2.2.2.2.2
  unfold psO tot
  omega
theorem tkO_le {x : Oc} {n m : Int} (h : Ok x) (hn : n ≤ m) : tkO x n ≤ tkO x m := by
  have hr := rate_range h.1 h.2.1 h.2.2.1 h.2.2.2.1
  have := Int.ediv_le_ediv (show 0 < x.p * (1000000000 + x.d) by omega) (show n * 1000000000 + (999999999 - x.r) ≤ m * 1000000000 + (999999999 - x.r) by omega)
  unfold tkO
  omega
theorem one_tick {x : Oc} (h : Ok x) : psO x 1 ≤ x.p + x.p / 1000 + 1 ∧ x.p - x.p / 1000 - 1 ≤ psO x 1 := by
  obtain ⟨h1, h2, h3, h4, h5, h6⟩ := h
  have a1 : x.p * x.d ≤ x.p * 1000000 := Int.mul_le_mul_of_nonneg_left h4 (by omega)
  have a2 : x.p * (-1000000) ≤ x.p * x.d := Int.mul_le_mul_of_nonneg_left h3 (by omega)
  unfold psO tot
  rw [Int.one_mul, Int.mul_add]
  generalize x.p * x.d = D at *
  omega

theorem grows_row {w : World} (p d r : Int) (_ : (-9223372036854775808 ≤ p ∧ p ≤ 9223372036854775807)) (_ : (-9223372036854775808 ≤ d ∧ d ≤ 9223372036854775807)) (_ : (-9223372036854775808 ≤ r ∧ r ≤ 9223372036854775807)) (a : Int) (_ : -9223372036854775808 ≤ a) (_ : a ≤ 9223372036854775807) (b : Int) (_ : -9223372036854775808 ≤ b) (_ : b ≤ 9223372036854775807) :
    Calls Try.prog 6 #[ov ⟨p, d, r⟩, .int .i64 a, .int .i64 b] w fun e w' => e = .returned (.bool true) ∧ Below w.heap.size w w' := by
  by_cases hk : Ok ⟨p, d, r⟩
  · have a0 : 0 ≤ a % 1048576 ∧ a % 1048576 ≤ 1048575 := by omega
    have b0 : 0 ≤ b % 1048576 ∧ b % 1048576 ≤ 1048575 := by omega
    have hA := and20 a
    have hB := and20 b
    generalize a % 1048576 = A at *
    generalize b % 1048576 = B at *
    have o1 := one_tick hk
    exact grows_walk p d r a b A B _ _ _ _ _ _ _ _ w hk hA hB
      (fun w => run_ok ⟨p, d, r⟩ (min A B) w hk (by omega) (by omega) (psO_small hk (by omega)))
      (fun w => run_ok ⟨p, d, r⟩ (max A B) w hk (by omega) (by omega) (psO_small hk (by omega)))
      (fun w => ticks_ok ⟨p, d, r⟩ (min A B) w hk (by omega) (by omega))
      (fun w => ticks_ok ⟨p, d, r⟩ (max A B) w hk (by omega) (by omega))
      (fun w => run_ok ⟨p, d, r⟩ 1 w hk (by omega) (by omega) (psO_small hk (by omega)))
      (decide_eq_true (psO_le hk (by omega))) (decide_eq_true (tkO_le hk (by omega))) (decide_eq_true o1.1) (decide_eq_true o1.2)
  · exact grows_bad p d r a b _ _ w hk rfl rfl
end Go.Proofs.Ytmmcnbhhdgnljaa
