/-
  The walk of OscBack: it returns true at every oscillator and numbers of 64 bits.
-/
import Derived.Test.YtmmcnbhhdgnljaaH
namespace Go.Proofs.Ytmmcnbhhdgnljaa
open Go Go.RowKit
set_option maxRecDepth 100000 in
set_option maxHeartbeats 1000000 in
theorem back_none_err (p d r a b  Q F : Int) (R1 : Oc) (w : World) (hN : ∀ w : World, Calls Try.prog 12 #[ov ⟨p, d, r⟩, .int .i64 b] w fun e w' => e = .returned (.tuple #[.int .i64 0, .int .i64 1]) ∧ Below w.heap.size w w')
    (hR : ∀ w : World, Calls Try.prog 11 #[ov ⟨p, d, r⟩, .int .i64 a] w fun e w' => e = .returned (.tuple #[.int .i64 Q, ov R1, .int .i64 F]) ∧ Below w.heap.size w w') (f4 : (F != 0) = true) :
    Calls Try.prog 4 #[ov ⟨p, d, r⟩, .int .i64 a, .int .i64 b] w fun e w' => e = .returned (.bool true) ∧ Below w.heap.size w w' := by
  have HN := hid hN
  have HR := hid hR
  clear hN hR
  go_enter Try.func4, Try.ntmps4
  go_wp2_with (first
    | (refine wpList_svo (x := R1) rfl (.tmp 17) (.tmp 84) rfl rfl rfl z5 ?_; intro w6 z6 b6 o6 _; have v6 := v5.other o6 (by have := N_v_z.out; omega); have B6 : Hid (Below w.heap.size w w6) := hid (B5.out.trans (b6.mono B4.out.size)); clear v5 z5 b6 o6)
    | (refine wpList_alo rfl rfl ?_; intro w5 z5 b5 s5; have v5 := v4.keep b5; have B5 : Hid (Below w.heap.size w w5) := hid (B4.out.trans (b5.mono B4.out.size)); have N_v_z : Hid (w.heap.size < w4.heap.size) := hid v4.lt; clear v4 b5 s5)
    | (go_at_call 11; (with_reducible refine (HR.out w3).mono ?_); rintro e w4 ⟨rfl, b4⟩; have v4 := v3.keep b4; have B4 : Hid (Below w.heap.size w w4) := hid (B3.out.trans (b4.mono B3.out.size)); clear v3 b4)
    | (refine wpList_ldo rfl (.tmp 3) rfl rfl v3 ?_)
    | (go_at_call 12; (with_reducible refine (HN.out w2).mono ?_); rintro e w3 ⟨rfl, b3⟩; have v3 := v2.keep b3; have B3 : Hid (Below w.heap.size w w3) := hid (B2.out.trans (b3.mono B2.out.size)); clear v2 b3)
    | (refine wpList_ldo rfl (.tmp 3) rfl rfl v2 ?_)
    | (go_at_call 8; (with_reducible refine (live_any w1).mono ?_); rintro e w2 ⟨rfl, b2⟩; have v2 := v1.keep b2; have B2 : Hid (Below w.heap.size w w2) := hid (B1.out.trans (b2.mono B1.out.size)); clear v1 b2)
    | (refine wpList_boxo (x := ⟨p, d, r⟩) rfl (.tmp 0) rfl rfl ?_; intro w1 v1 b1 s1; have B1 : Hid (Below w.heap.size w w1) := hid b1; clear b1 s1))
  go_ret
  exact ⟨ret_bool (by simp), B6.out⟩
set_option maxRecDepth 100000 in
set_option maxHeartbeats 1000000 in
theorem back_none_ok (p d r a b  Q M : Int) (R1 : Oc) (w : World) (hN : ∀ w : World, Calls Try.prog 12 #[ov ⟨p, d, r⟩, .int .i64 b] w fun e w' => e = .returned (.tuple #[.int .i64 0, .int .i64 1]) ∧ Below w.heap.size w w')
    (hR : ∀ w : World, Calls Try.prog 11 #[ov ⟨p, d, r⟩, .int .i64 a] w fun e w' => e = .returned (.tuple #[.int .i64 Q, ov R1, .int .i64 0]) ∧ Below w.heap.size w w') (hM : ∀ w : World, Calls Try.prog 12 #[ov ⟨p, d, r⟩, .int .i64 Q] w fun e w' => e = .returned (.tuple #[.int .i64 M, .int .i64 0]) ∧ Below w.heap.size w w') (f4 : decide (a ≤ M) = true) :
    Calls Try.prog 4 #[ov ⟨p, d, r⟩, .int .i64 a, .int .i64 b] w fun e w' => e = .returned (.bool true) ∧ Below w.heap.size w w' := by
  have HN := hid hN
  have HR := hid hR
  have HM := hid hM
  clear hN hR hM
  go_enter Try.func4, Try.ntmps4
  go_wp2_with (first
    | (go_at_call 12; (with_reducible refine (HM.out w6).mono ?_); rintro e w7 ⟨rfl, b7⟩; have v7 := v6.keep b7; have z7 := z6.keep b7; have B7 : Hid (Below w.heap.size w w7) := hid (B6.out.trans (b7.mono B6.out.size)); clear v6 z6 b7)
    | (refine wpList_ldo rfl (.tmp 3) rfl rfl v6 ?_)
    | (refine wpList_svo (x := R1) rfl (.tmp 17) (.tmp 84) rfl rfl rfl z5 ?_; intro w6 z6 b6 o6 _; have v6 := v5.other o6 (by have := N_v_z.out; omega); have B6 : Hid (Below w.heap.size w w6) := hid (B5.out.trans (b6.mono B4.out.size)); clear v5 z5 b6 o6)
    | (refine wpList_alo rfl rfl ?_; intro w5 z5 b5 s5; have v5 := v4.keep b5; have B5 : Hid (Below w.heap.size w w5) := hid (B4.out.trans (b5.mono B4.out.size)); have N_v_z : Hid (w.heap.size < w4.heap.size) := hid v4.lt; clear v4 b5 s5)
    | (go_at_call 11; (with_reducible refine (HR.out w3).mono ?_); rintro e w4 ⟨rfl, b4⟩; have v4 := v3.keep b4; have B4 : Hid (Below w.heap.size w w4) := hid (B3.out.trans (b4.mono B3.out.size)); clear v3 b4)
    | (refine wpList_ldo rfl (.tmp 3) rfl rfl v3 ?_)
    | (go_at_call 12; (with_reducible refine (HN.out w2).mono ?_); rintro e w3 ⟨rfl, b3⟩; have v3 := v2.keep b3; have B3 : Hid (Below w.heap.size w w3) := hid (B2.out.trans (b3.mono B2.out.size)); clear v2 b3)
    | (refine wpList_ldo rfl (.tmp 3) rfl rfl v2 ?_)
    | (go_at_call 8; (with_reducible refine (live_any w1).mono ?_); rintro e w2 ⟨rfl, b2⟩; have v2 := v1.keep b2; have B2 : Hid (Below w.heap.size w w2) := hid (B1.out.trans (b2.mono B1.out.size)); clear v1 b2)
    | (refine wpList_boxo (x := ⟨p, d, r⟩) rfl (.tmp 0) rfl rfl ?_; intro w1 v1 b1 s1; have B1 : Hid (Below w.heap.size w w1) := hid b1; clear b1 s1))
  go_ret
  exact ⟨ret_bool (by simp), B7.out⟩
set_option maxRecDepth 100000 in
set_option maxHeartbeats 1000000 in
theorem back_last_err (p d r a b T Q F : Int) (T1 R1 : Oc) (w : World) (hN : ∀ w : World, Calls Try.prog 12 #[ov ⟨p, d, r⟩, .int .i64 b] w fun e w' => e = .returned (.tuple #[.int .i64 1099511627776, .int .i64 0]) ∧ Below w.heap.size w w')
    (hT : ∀ w : World, Calls Try.prog 11 #[ov ⟨p, d, r⟩, .int .i64 1099511627776] w fun e w' => e = .returned (.tuple #[.int .i64 T, ov T1, .int .i64 0]) ∧ Below w.heap.size w w') (f1 : decide (b < T) = false)
    (hR : ∀ w : World, Calls Try.prog 11 #[ov ⟨p, d, r⟩, .int .i64 a] w fun e w' => e = .returned (.tuple #[.int .i64 Q, ov R1, .int .i64 F]) ∧ Below w.heap.size w w') (f4 : (F != 0) = true) :
    Calls Try.prog 4 #[ov ⟨p, d, r⟩, .int .i64 a, .int .i64 b] w fun e w' => e = .returned (.bool true) ∧ Below w.heap.size w w' := by
  have HN := hid hN
  have HT := hid hT
  have HR := hid hR
  clear hN hT hR
  go_enter Try.func4, Try.ntmps4
  go_wp2_with (first
    | (refine wpList_svo (x := R1) rfl (.tmp 17) (.tmp 84) rfl rfl rfl z8 ?_; intro w9 z9 b9 o9 _; have v9 := v8.other o9 (by have := N_v_z.out; omega); have x9 := x8.other o9 (by have := N_x_z.out; omega); have B9 : Hid (Below w.heap.size w w9) := hid (B8.out.trans (b9.mono B7.out.size)); clear v8 x8 z8 b9 o9)
    | (refine wpList_alo rfl rfl ?_; intro w8 z8 b8 s8; have v8 := v7.keep b8; have x8 := x7.keep b8; have B8 : Hid (Below w.heap.size w w8) := hid (B7.out.trans (b8.mono B7.out.size)); have N_v_z : Hid (w.heap.size < w7.heap.size) := hid v7.lt; have N_x_z : Hid (w4.heap.size < w7.heap.size) := hid x7.lt; clear v7 x7 b8 s8)
    | (go_at_call 11; (with_reducible refine (HR.out w6).mono ?_); rintro e w7 ⟨rfl, b7⟩; have v7 := v6.keep b7; have x7 := x6.keep b7; have B7 : Hid (Below w.heap.size w w7) := hid (B6.out.trans (b7.mono B6.out.size)); clear v6 x6 b7)
    | (refine wpList_ldo rfl (.tmp 3) rfl rfl v6 ?_)
    | (refine wpList_svo (x := T1) rfl (.tmp 11) (.tmp 37) rfl rfl rfl x5 ?_; intro w6 x6 b6 o6 _; have v6 := v5.other o6 (by have := N_v_x.out; omega); have B6 : Hid (Below w.heap.size w w6) := hid (B5.out.trans (b6.mono B4.out.size)); clear v5 x5 b6 o6)
    | (refine wpList_alo rfl rfl ?_; intro w5 x5 b5 s5; have v5 := v4.keep b5; have B5 : Hid (Below w.heap.size w w5) := hid (B4.out.trans (b5.mono B4.out.size)); have N_v_x : Hid (w.heap.size < w4.heap.size) := hid v4.lt; clear v4 b5 s5)
    | (go_at_call 11; (with_reducible refine (HT.out w3).mono ?_); rintro e w4 ⟨rfl, b4⟩; have v4 := v3.keep b4; have B4 : Hid (Below w.heap.size w w4) := hid (B3.out.trans (b4.mono B3.out.size)); clear v3 b4)
    | (refine wpList_ldo rfl (.tmp 3) rfl rfl v3 ?_)
    | (go_at_call 12; (with_reducible refine (HN.out w2).mono ?_); rintro e w3 ⟨rfl, b3⟩; have v3 := v2.keep b3; have B3 : Hid (Below w.heap.size w w3) := hid (B2.out.trans (b3.mono B2.out.size)); clear v2 b3)
    | (refine wpList_ldo rfl (.tmp 3) rfl rfl v2 ?_)
    | (go_at_call 8; (with_reducible refine (live_any w1).mono ?_); rintro e w2 ⟨rfl, b2⟩; have v2 := v1.keep b2; have B2 : Hid (Below w.heap.size w w2) := hid (B1.out.trans (b2.mono B1.out.size)); clear v1 b2)
    | (refine wpList_boxo (x := ⟨p, d, r⟩) rfl (.tmp 0) rfl rfl ?_; intro w1 v1 b1 s1; have B1 : Hid (Below w.heap.size w w1) := hid b1; clear b1 s1))
  go_ret
  exact ⟨ret_bool (by simp), B9.out⟩
set_option maxRecDepth 100000 in
set_option maxHeartbeats 1000000 in
theorem back_last_ok (p d r a b T Q M : Int) (T1 R1 : Oc) (w : World) (hN : ∀ w : World, Calls Try.prog 12 #[ov ⟨p, d, r⟩, .int .i64 b] w fun e w' => e = .returned (.tuple #[.int .i64 1099511627776, .int .i64 0]) ∧ Below w.heap.size w w')
    (hT : ∀ w : World, Calls Try.prog 11 #[ov ⟨p, d, r⟩, .int .i64 1099511627776] w fun e w' => e = .returned (.tuple #[.int .i64 T, ov T1, .int .i64 0]) ∧ Below w.heap.size w w') (f1 : decide (b < T) = false)
    (hR : ∀ w : World, Calls Try.prog 11 #[ov ⟨p, d, r⟩, .int .i64 a] w fun e w' => e = .returned (.tuple #[.int .i64 Q, ov R1, .int .i64 0]) ∧ Below w.heap.size w w') (hM : ∀ w : World, Calls Try.prog 12 #[ov ⟨p, d, r⟩, .int .i64 Q] w fun e w' => e = .returned (.tuple #[.int .i64 M, .int .i64 0]) ∧ Below w.heap.size w w') (f4 : decide (a ≤ M) = true) :
    Calls Try.prog 4 #[ov ⟨p, d, r⟩, .int .i64 a, .int .i64 b] w fun e w' => e = .returned (.bool true) ∧ Below w.heap.size w w' := by
  have HN := hid hN
  have HT := hid hT
  have HR := hid hR
  have HM := hid hM
  clear hN hT hR hM
  go_enter Try.func4, Try.ntmps4
  go_wp2_with (first
    | (go_at_call 12; (with_reducible refine (HM.out w9).mono ?_); rintro e w10 ⟨rfl, b10⟩; have v10 := v9.keep b10; have x10 := x9.keep b10; have z10 := z9.keep b10; have B10 : Hid (Below w.heap.size w w10) := hid (B9.out.trans (b10.mono B9.out.size)); clear v9 x9 z9 b10)
    | (refine wpList_ldo rfl (.tmp 3) rfl rfl v9 ?_)
    | (refine wpList_svo (x := R1) rfl (.tmp 17) (.tmp 84) rfl rfl rfl z8 ?_; intro w9 z9 b9 o9 _; have v9 := v8.other o9 (by have := N_v_z.out; omega); have x9 := x8.other o9 (by have := N_x_z.out; omega); have B9 : Hid (Below w.heap.size w w9) := hid (B8.out.trans (b9.mono B7.out.size)); clear v8 x8 z8 b9 o9)
    | (refine wpList_alo rfl rfl ?_; intro w8 z8 b8 s8; have v8 := v7.keep b8; have x8 := x7.keep b8; have B8 : Hid (Below w.heap.size w w8) := hid (B7.out.trans (b8.mono B7.out.size)); have N_v_z : Hid (w.heap.size < w7.heap.size) := hid v7.lt; have N_x_z : Hid (w4.heap.size < w7.heap.size) := hid x7.lt; clear v7 x7 b8 s8)
    | (go_at_call 11; (with_reducible refine (HR.out w6).mono ?_); rintro e w7 ⟨rfl, b7⟩; have v7 := v6.keep b7; have x7 := x6.keep b7; have B7 : Hid (Below w.heap.size w w7) := hid (B6.out.trans (b7.mono B6.out.size)); clear v6 x6 b7)
    | (refine wpList_ldo rfl (.tmp 3) rfl rfl v6 ?_)
    | (refine wpList_svo (x := T1) rfl (.tmp 11) (.tmp 37) rfl rfl rfl x5 ?_; intro w6 x6 b6 o6 _; have v6 := v5.other o6 (by have := N_v_x.out; omega); have B6 : Hid (Below w.heap.size w w6) := hid (B5.out.trans (b6.mono B4.out.size)); clear v5 x5 b6 o6)
    | (refine wpList_alo rfl rfl ?_; intro w5 x5 b5 s5; have v5 := v4.keep b5; have B5 : Hid (Below w.heap.size w w5) := hid (B4.out.trans (b5.mono B4.out.size)); have N_v_x : Hid (w.heap.size < w4.heap.size) := hid v4.lt; clear v4 b5 s5)
    | (go_at_call 11; (with_reducible refine (HT.out w3).mono ?_); rintro e w4 ⟨rfl, b4⟩; have v4 := v3.keep b4; have B4 : Hid (Below w.heap.size w w4) := hid (B3.out.trans (b4.mono B3.out.size)); clear v3 b4)
    | (refine wpList_ldo rfl (.tmp 3) rfl rfl v3 ?_)
    | (go_at_call 12; (with_reducible refine (HN.out w2).mono ?_); rintro e w3 ⟨rfl, b3⟩; have v3 := v2.keep b3; have B3 : Hid (Below w.heap.size w w3) := hid (B2.out.trans (b3.mono B2.out.size)); clear v2 b3)
    | (refine wpList_ldo rfl (.tmp 3) rfl rfl v2 ?_)
    | (go_at_call 8; (with_reducible refine (live_any w1).mono ?_); rintro e w2 ⟨rfl, b2⟩; have v2 := v1.keep b2; have B2 : Hid (Below w.heap.size w w2) := hid (B1.out.trans (b2.mono B1.out.size)); clear v1 b2)
    | (refine wpList_boxo (x := ⟨p, d, r⟩) rfl (.tmp 0) rfl rfl ?_; intro w1 v1 b1 s1; have B1 : Hid (Below w.heap.size w w1) := hid b1; clear b1 s1))
  go_ret
  exact ⟨ret_bool (by simp), B10.out⟩
set_option maxRecDepth 100000 in
set_option maxHeartbeats 1000000 in
theorem back_more_err (p d r a b N T U Q F : Int) (T1 U1 R1 : Oc) (w : World) (hN : ∀ w : World, Calls Try.prog 12 #[ov ⟨p, d, r⟩, .int .i64 b] w fun e w' => e = .returned (.tuple #[.int .i64 N, .int .i64 0]) ∧ Below w.heap.size w w')
    (hT : ∀ w : World, Calls Try.prog 11 #[ov ⟨p, d, r⟩, .int .i64 N] w fun e w' => e = .returned (.tuple #[.int .i64 T, ov T1, .int .i64 0]) ∧ Below w.heap.size w w') (f1 : decide (b < T) = false) (n0 : 0 ≤ N) (n1 : N < 1099511627776)
    (hU : ∀ w : World, Calls Try.prog 11 #[ov ⟨p, d, r⟩, .int .i64 (N + 1)] w fun e w' => e = .returned (.tuple #[.int .i64 U, ov U1, .int .i64 0]) ∧ Below w.heap.size w w') (f2 : decide (U ≤ b) = false)
    (hR : ∀ w : World, Calls Try.prog 11 #[ov ⟨p, d, r⟩, .int .i64 a] w fun e w' => e = .returned (.tuple #[.int .i64 Q, ov R1, .int .i64 F]) ∧ Below w.heap.size w w') (f4 : (F != 0) = true) :
    Calls Try.prog 4 #[ov ⟨p, d, r⟩, .int .i64 a, .int .i64 b] w fun e w' => e = .returned (.bool true) ∧ Below w.heap.size w w' := by
  have HN := hid hN
  have HT := hid hT
  have HU := hid hU
  have HR := hid hR
  clear hN hT hU hR
  go_enter Try.func4, Try.ntmps4
  go_wp2_with (first
    | (refine wpList_svo (x := R1) rfl (.tmp 17) (.tmp 84) rfl rfl rfl z11 ?_; intro w12 z12 b12 o12 _; have v12 := v11.other o12 (by have := N_v_z.out; omega); have x12 := x11.other o12 (by have := N_x_z.out; omega); have y12 := y11.other o12 (by have := N_y_z.out; omega); have B12 : Hid (Below w.heap.size w w12) := hid (B11.out.trans (b12.mono B10.out.size)); clear v11 x11 y11 z11 b12 o12)
    | (refine wpList_alo rfl rfl ?_; intro w11 z11 b11 s11; have v11 := v10.keep b11; have x11 := x10.keep b11; have y11 := y10.keep b11; have B11 : Hid (Below w.heap.size w w11) := hid (B10.out.trans (b11.mono B10.out.size)); have N_v_z : Hid (w.heap.size < w10.heap.size) := hid v10.lt; have N_x_z : Hid (w4.heap.size < w10.heap.size) := hid x10.lt; have N_y_z : Hid (w7.heap.size < w10.heap.size) := hid y10.lt; clear v10 x10 y10 b11 s11)
    | (go_at_call 11; (with_reducible refine (HR.out w9).mono ?_); rintro e w10 ⟨rfl, b10⟩; have v10 := v9.keep b10; have x10 := x9.keep b10; have y10 := y9.keep b10; have B10 : Hid (Below w.heap.size w w10) := hid (B9.out.trans (b10.mono B9.out.size)); clear v9 x9 y9 b10)
    | (refine wpList_ldo rfl (.tmp 3) rfl rfl v9 ?_)
    | (refine wpList_svo (x := U1) rfl (.tmp 14) (.tmp 62) rfl rfl rfl y8 ?_; intro w9 y9 b9 o9 _; have v9 := v8.other o9 (by have := N_v_y.out; omega); have x9 := x8.other o9 (by have := N_x_y.out; omega); have B9 : Hid (Below w.heap.size w w9) := hid (B8.out.trans (b9.mono B7.out.size)); clear v8 x8 y8 b9 o9)
    | (refine wpList_alo rfl rfl ?_; intro w8 y8 b8 s8; have v8 := v7.keep b8; have x8 := x7.keep b8; have B8 : Hid (Below w.heap.size w w8) := hid (B7.out.trans (b8.mono B7.out.size)); have N_v_y : Hid (w.heap.size < w7.heap.size) := hid v7.lt; have N_x_y : Hid (w4.heap.size < w7.heap.size) := hid x7.lt; clear v7 x7 b8 s8)
    | (go_at_call 11; (with_reducible refine (HU.out w6).mono ?_); rintro e w7 ⟨rfl, b7⟩; have v7 := v6.keep b7; have x7 := x6.keep b7; have B7 : Hid (Below w.heap.size w w7) := hid (B6.out.trans (b7.mono B6.out.size)); clear v6 x6 b7)
    | (refine wpList_ldo rfl (.tmp 3) rfl rfl v6 ?_)
    | (refine wpList_svo (x := T1) rfl (.tmp 11) (.tmp 37) rfl rfl rfl x5 ?_; intro w6 x6 b6 o6 _; have v6 := v5.other o6 (by have := N_v_x.out; omega); have B6 : Hid (Below w.heap.size w w6) := hid (B5.out.trans (b6.mono B4.out.size)); clear v5 x5 b6 o6)
    | (refine wpList_alo rfl rfl ?_; intro w5 x5 b5 s5; have v5 := v4.keep b5; have B5 : Hid (Below w.heap.size w w5) := hid (B4.out.trans (b5.mono B4.out.size)); have N_v_x : Hid (w.heap.size < w4.heap.size) := hid v4.lt; clear v4 b5 s5)
    | (go_at_call 11; (with_reducible refine (HT.out w3).mono ?_); rintro e w4 ⟨rfl, b4⟩; have v4 := v3.keep b4; have B4 : Hid (Below w.heap.size w w4) := hid (B3.out.trans (b4.mono B3.out.size)); clear v3 b4)
    | (refine wpList_ldo rfl (.tmp 3) rfl rfl v3 ?_)
    | (go_at_call 12; (with_reducible refine (HN.out w2).mono ?_); rintro e w3 ⟨rfl, b3⟩; have v3 := v2.keep b3; have B3 : Hid (Below w.heap.size w w3) := hid (B2.out.trans (b3.mono B2.out.size)); clear v2 b3)
    | (refine wpList_ldo rfl (.tmp 3) rfl rfl v2 ?_)
    | (go_at_call 8; (with_reducible refine (live_any w1).mono ?_); rintro e w2 ⟨rfl, b2⟩; have v2 := v1.keep b2; have B2 : Hid (Below w.heap.size w w2) := hid (B1.out.trans (b2.mono B1.out.size)); clear v1 b2)
    | (refine wpList_boxo (x := ⟨p, d, r⟩) rfl (.tmp 0) rfl rfl ?_; intro w1 v1 b1 s1; have B1 : Hid (Below w.heap.size w w1) := hid b1; clear b1 s1))
  go_ret
  exact ⟨ret_bool (by simp), B12.out⟩
set_option maxRecDepth 100000 in
set_option maxHeartbeats 1000000 in
theorem back_more_ok (p d r a b N T U Q M : Int) (T1 U1 R1 : Oc) (w : World) (hN : ∀ w : World, Calls Try.prog 12 #[ov ⟨p, d, r⟩, .int .i64 b] w fun e w' => e = .returned (.tuple #[.int .i64 N, .int .i64 0]) ∧ Below w.heap.size w w')
    (hT : ∀ w : World, Calls Try.prog 11 #[ov ⟨p, d, r⟩, .int .i64 N] w fun e w' => e = .returned (.tuple #[.int .i64 T, ov T1, .int .i64 0]) ∧ Below w.heap.size w w') (f1 : decide (b < T) = false) (n0 : 0 ≤ N) (n1 : N < 1099511627776)
    (hU : ∀ w : World, Calls Try.prog 11 #[ov ⟨p, d, r⟩, .int .i64 (N + 1)] w fun e w' => e = .returned (.tuple #[.int .i64 U, ov U1, .int .i64 0]) ∧ Below w.heap.size w w') (f2 : decide (U ≤ b) = false)
    (hR : ∀ w : World, Calls Try.prog 11 #[ov ⟨p, d, r⟩, .int .i64 a] w fun e w' => e = .returned (.tuple #[.int .i64 Q, ov R1, .int .i64 0]) ∧ Below w.heap.size w w') (hM : ∀ w : World, Calls Try.prog 12 #[ov ⟨p, d, r⟩, .int .i64 Q] w fun e w' => e = .returned (.tuple #[.int .i64 M, .int .i64 0]) ∧ Below w.heap.size w w') (f4 : decide (a ≤ M) = true) :
    Calls Try.prog 4 #[ov ⟨p, d, r⟩, .int .i64 a, .int .i64 b] w fun e w' => e = .returned (.bool true) ∧ Below w.heap.size w w' := by
  have HN := hid hN
  have HT := hid hT
  have HU := hid hU
  have HR := hid hR
  have HM := hid hM
  clear hN hT hU hR hM
  go_enter Try.func4, Try.ntmps4
  go_wp2_with (first
    | (go_at_call 12; (with_reducible refine (HM.out w12).mono ?_); rintro e w13 ⟨rfl, b13⟩; have v13 := v12.keep b13; have x13 := x12.keep b13; have y13 := y12.keep b13; have z13 := z12.keep b13; have B13 : Hid (Below w.heap.size w w13) := hid (B12.out.trans (b13.mono B12.out.size)); clear v12 x12 y12 z12 b13)
    | (refine wpList_ldo rfl (.tmp 3) rfl rfl v12 ?_)
    | (refine wpList_svo (x := R1) rfl (.tmp 17) (.tmp 84) rfl rfl rfl z11 ?_; intro w12 z12 b12 o12 _; have v12 := v11.other o12 (by have := N_v_z.out; omega); have x12 := x11.other o12 (by have := N_x_z.out; omega); have y12 := y11.other o12 (by have := N_y_z.out; omega); have B12 : Hid (Below w.heap.size w w12) := hid (B11.out.trans (b12.mono B10.out.size)); clear v11 x11 y11 z11 b12 o12)
    | (refine wpList_alo rfl rfl ?_; intro w11 z11 b11 s11; have v11 := v10.keep b11; have x11 := x10.keep b11; have y11 := y10.keep b11; have B11 : Hid (Below w.heap.size w w11) := hid (B10.out.trans (b11.mono B10.out.size)); have N_v_z : Hid (w.heap.size < w10.heap.size) := hid v10.lt; have N_x_z : Hid (w4.heap.size < w10.heap.size) := hid x10.lt; have N_y_z : Hid (w7.heap.size < w10.heap.size) := hid y10.lt; clear v10 x10 y10 b11 s11)
    | (go_at_call 11; (with_reducible refine (HR.out w9).mono ?_); rintro e w10 ⟨rfl, b10⟩; have v10 := v9.keep b10; have x10 := x9.keep b10; have y10 := y9.keep b10; have B10 : Hid (Below w.heap.size w w10) := hid (B9.out.trans (b10.mono B9.out.size)); clear v9 x9 y9 b10)
    | (refine wpList_ldo rfl (.tmp 3) rfl rfl v9 ?_)
    | (refine wpList_svo (x := U1) rfl (.tmp 14) (.tmp 62) rfl rfl rfl y8 ?_; intro w9 y9 b9 o9 _; have v9 := v8.other o9 (by have := N_v_y.out; omega); have x9 := x8.other o9 (by have := N_x_y.out; omega); have B9 : Hid (Below w.heap.size w w9) := hid (B8.out.trans (b9.mono B7.out.size)); clear v8 x8 y8 b9 o9)
    | (refine wpList_alo rfl rfl ?_; intro w8 y8 b8 s8; have v8 := v7.keep b8; have x8 := x7.keep b8; have B8 : Hid (Below w.heap.size w w8) := hid (B7.out.trans (b8.mono B7.out.size)); have N_v_y : Hid (w.heap.size < w7.heap.size) := hid v7.lt; have N_x_y : Hid (w4.heap.size < w7.heap.size) := hid x7.lt; clear v7 x7 b8 s8)
    | (go_at_call 11; (with_reducible refine (HU.out w6).mono ?_); rintro e w7 ⟨rfl, b7⟩; have v7 := v6.keep b7; have x7 := x6.keep b7; have B7 : Hid (Below w.heap.size w w7) := hid (B6.out.trans (b7.mono B6.out.size)); clear v6 x6 b7)
    | (refine wpList_ldo rfl (.tmp 3) rfl rfl v6 ?_)
    | (refine wpList_svo (x := T1) rfl (.tmp 11) (.tmp 37) rfl rfl rfl x5 ?_; intro w6 x6 b6 o6 _; have v6 := v5.other o6 (by have := N_v_x.out; omega); have B6 : Hid (Below w.heap.size w w6) := hid (B5.out.trans (b6.mono B4.out.size)); clear v5 x5 b6 o6)
    | (refine wpList_alo rfl rfl ?_; intro w5 x5 b5 s5; have v5 := v4.keep b5; have B5 : Hid (Below w.heap.size w w5) := hid (B4.out.trans (b5.mono B4.out.size)); have N_v_x : Hid (w.heap.size < w4.heap.size) := hid v4.lt; clear v4 b5 s5)
    | (go_at_call 11; (with_reducible refine (HT.out w3).mono ?_); rintro e w4 ⟨rfl, b4⟩; have v4 := v3.keep b4; have B4 : Hid (Below w.heap.size w w4) := hid (B3.out.trans (b4.mono B3.out.size)); clear v3 b4)
    | (refine wpList_ldo rfl (.tmp 3) rfl rfl v3 ?_)
    | (go_at_call 12; (with_reducible refine (HN.out w2).mono ?_); rintro e w3 ⟨rfl, b3⟩; have v3 := v2.keep b3; have B3 : Hid (Below w.heap.size w w3) := hid (B2.out.trans (b3.mono B2.out.size)); clear v2 b3)
    | (refine wpList_ldo rfl (.tmp 3) rfl rfl v2 ?_)
    | (go_at_call 8; (with_reducible refine (live_any w1).mono ?_); rintro e w2 ⟨rfl, b2⟩; have v2 := v1.keep b2; have B2 : Hid (Below w.heap.size w w2) := hid (B1.out.trans (b2.mono B1.out.size)); clear v1 b2)
    | (refine wpList_boxo (x := ⟨p, d, r⟩) rfl (.tmp 0) rfl rfl ?_; intro w1 v1 b1 s1; have B1 : Hid (Below w.heap.size w w1) := hid b1; clear b1 s1))
  go_ret
  exact ⟨ret_bool (by simp), B13.out⟩
set_option maxRecDepth 100000 in
set_option maxHeartbeats 1000000 in
theorem back_over_err (p d r a b N T U Q F : Int) (T1 U1 R1 : Oc) (w : World) (hN : ∀ w : World, Calls Try.prog 12 #[ov ⟨p, d, r⟩, .int .i64 b] w fun e w' => e = .returned (.tuple #[.int .i64 N, .int .i64 0]) ∧ Below w.heap.size w w')
    (hT : ∀ w : World, Calls Try.prog 11 #[ov ⟨p, d, r⟩, .int .i64 N] w fun e w' => e = .returned (.tuple #[.int .i64 T, ov T1, .int .i64 0]) ∧ Below w.heap.size w w') (f1 : decide (b < T) = false) (n0 : 0 ≤ N) (n1 : N < 1099511627776)
    (hU : ∀ w : World, Calls Try.prog 11 #[ov ⟨p, d, r⟩, .int .i64 (N + 1)] w fun e w' => e = .returned (.tuple #[.int .i64 U, ov U1, .int .i64 2]) ∧ Below w.heap.size w w')
    (hR : ∀ w : World, Calls Try.prog 11 #[ov ⟨p, d, r⟩, .int .i64 a] w fun e w' => e = .returned (.tuple #[.int .i64 Q, ov R1, .int .i64 F]) ∧ Below w.heap.size w w') (f4 : (F != 0) = true) :
    Calls Try.prog 4 #[ov ⟨p, d, r⟩, .int .i64 a, .int .i64 b] w fun e w' => e = .returned (.bool true) ∧ Below w.heap.size w w' := by
  have HN := hid hN
  have HT := hid hT
  have HU := hid hU
  have HR := hid hR
  clear hN hT hU hR
  go_enter Try.func4, Try.ntmps4
  go_wp2_with (first
    | (refine wpList_svo (x := R1) rfl (.tmp 17) (.tmp 84) rfl rfl rfl z11 ?_; intro w12 z12 b12 o12 _; have v12 := v11.other o12 (by have := N_v_z.out; omega); have x12 := x11.other o12 (by have := N_x_z.out; omega); have y12 := y11.other o12 (by have := N_y_z.out; omega); have B12 : Hid (Below w.heap.size w w12) := hid (B11.out.trans (b12.mono B10.out.size)); clear v11 x11 y11 z11 b12 o12)
    | (refine wpList_alo rfl rfl ?_; intro w11 z11 b11 s11; have v11 := v10.keep b11; have x11 := x10.keep b11; have y11 := y10.keep b11; have B11 : Hid (Below w.heap.size w w11) := hid (B10.out.trans (b11.mono B10.out.size)); have N_v_z : Hid (w.heap.size < w10.heap.size) := hid v10.lt; have N_x_z : Hid (w4.heap.size < w10.heap.size) := hid x10.lt; have N_y_z : Hid (w7.heap.size < w10.heap.size) := hid y10.lt; clear v10 x10 y10 b11 s11)
    | (go_at_call 11; (with_reducible refine (HR.out w9).mono ?_); rintro e w10 ⟨rfl, b10⟩; have v10 := v9.keep b10; have x10 := x9.keep b10; have y10 := y9.keep b10; have B10 : Hid (Below w.heap.size w w10) := hid (B9.out.trans (b10.mono B9.out.size)); clear v9 x9 y9 b10)
    | (refine wpList_ldo rfl (.tmp 3) rfl rfl v9 ?_)
    | (refine wpList_svo (x := U1) rfl (.tmp 14) (.tmp 62) rfl rfl rfl y8 ?_; intro w9 y9 b9 o9 _; have v9 := v8.other o9 (by have := N_v_y.out; omega); have x9 := x8.other o9 (by have := N_x_y.out; omega); have B9 : Hid (Below w.heap.size w w9) := hid (B8.out.trans (b9.mono B7.out.size)); clear v8 x8 y8 b9 o9)
    | (refine wpList_alo rfl rfl ?_; intro w8 y8 b8 s8; have v8 := v7.keep b8; have x8 := x7.keep b8; have B8 : Hid (Below w.heap.size w w8) := hid (B7.out.trans (b8.mono B7.out.size)); have N_v_y : Hid (w.heap.size < w7.heap.size) := hid v7.lt; have N_x_y : Hid (w4.heap.size < w7.heap.size) := hid x7.lt; clear v7 x7 b8 s8)
    | (go_at_call 11; (with_reducible refine (HU.out w6).mono ?_); rintro e w7 ⟨rfl, b7⟩; have v7 := v6.keep b7; have x7 := x6.keep b7; have B7 : Hid (Below w.heap.size w w7) := hid (B6.out.trans (b7.mono B6.out.size)); clear v6 x6 b7)
    | (refine wpList_ldo rfl (.tmp 3) rfl rfl v6 ?_)
    | (refine wpList_svo (x := T1) rfl (.tmp 11) (.tmp 37) rfl rfl rfl x5 ?_; intro w6 x6 b6 o6 _; have v6 := v5.other o6 (by have := N_v_x.out; omega); have B6 : Hid (Below w.heap.size w w6) := hid (B5.out.trans (b6.mono B4.out.size)); clear v5 x5 b6 o6)
    | (refine wpList_alo rfl rfl ?_; intro w5 x5 b5 s5; have v5 := v4.keep b5; have B5 : Hid (Below w.heap.size w w5) := hid (B4.out.trans (b5.mono B4.out.size)); have N_v_x : Hid (w.heap.size < w4.heap.size) := hid v4.lt; clear v4 b5 s5)
    | (go_at_call 11; (with_reducible refine (HT.out w3).mono ?_); rintro e w4 ⟨rfl, b4⟩; have v4 := v3.keep b4; have B4 : Hid (Below w.heap.size w w4) := hid (B3.out.trans (b4.mono B3.out.size)); clear v3 b4)
    | (refine wpList_ldo rfl (.tmp 3) rfl rfl v3 ?_)
    | (go_at_call 12; (with_reducible refine (HN.out w2).mono ?_); rintro e w3 ⟨rfl, b3⟩; have v3 := v2.keep b3; have B3 : Hid (Below w.heap.size w w3) := hid (B2.out.trans (b3.mono B2.out.size)); clear v2 b3)
    | (refine wpList_ldo rfl (.tmp 3) rfl rfl v2 ?_)
    | (go_at_call 8; (with_reducible refine (live_any w1).mono ?_); rintro e w2 ⟨rfl, b2⟩; have v2 := v1.keep b2; have B2 : Hid (Below w.heap.size w w2) := hid (B1.out.trans (b2.mono B1.out.size)); clear v1 b2)
    | (refine wpList_boxo (x := ⟨p, d, r⟩) rfl (.tmp 0) rfl rfl ?_; intro w1 v1 b1 s1; have B1 : Hid (Below w.heap.size w w1) := hid b1; clear b1 s1))
  go_ret
  exact ⟨ret_bool (by simp), B12.out⟩
set_option maxRecDepth 100000 in
set_option maxHeartbeats 1000000 in
theorem back_over_ok (p d r a b N T U Q M : Int) (T1 U1 R1 : Oc) (w : World) (hN : ∀ w : World, Calls Try.prog 12 #[ov ⟨p, d, r⟩, .int .i64 b] w fun e w' => e = .returned (.tuple #[.int .i64 N, .int .i64 0]) ∧ Below w.heap.size w w')
    (hT : ∀ w : World, Calls Try.prog 11 #[ov ⟨p, d, r⟩, .int .i64 N] w fun e w' => e = .returned (.tuple #[.int .i64 T, ov T1, .int .i64 0]) ∧ Below w.heap.size w w') (f1 : decide (b < T) = false) (n0 : 0 ≤ N) (n1 : N < 1099511627776)
    (hU : ∀ w : World, Calls Try.prog 11 #[ov ⟨p, d, r⟩, .int .i64 (N + 1)] w fun e w' => e = .returned (.tuple #[.int .i64 U, ov U1, .int .i64 2]) ∧ Below w.heap.size w w')
    (hR : ∀ w : World, Calls Try.prog 11 #[ov ⟨p, d, r⟩, .int .i64 a] w fun e w' => e = .returned (.tuple #[.int .i64 Q, ov R1, .int .i64 0]) ∧ Below w.heap.size w w') (hM : ∀ w : World, Calls Try.prog 12 #[ov ⟨p, d, r⟩, .int .i64 Q] w fun e w' => e = .returned (.tuple #[.int .i64 M, .int .i64 0]) ∧ Below w.heap.size w w') (f4 : decide (a ≤ M) = true) :
    Calls Try.prog 4 #[ov ⟨p, d, r⟩, .int .i64 a, .int .i64 b] w fun e w' => e = .returned (.bool true) ∧ Below w.heap.size w w' := by
  have HN := hid hN
  have HT := hid hT
  have HU := hid hU
  have HR := hid hR
  have HM := hid hM
  clear hN hT hU hR hM
  go_enter Try.func4, Try.ntmps4
  go_wp2_with (first
    | (go_at_call 12; (with_reducible refine (HM.out w12).mono ?_); rintro e w13 ⟨rfl, b13⟩; have v13 := v12.keep b13; have x13 := x12.keep b13; have y13 := y12.keep b13; have z13 := z12.keep b13; have B13 : Hid (Below w.heap.size w w13) := hid (B12.out.trans (b13.mono B12.out.size)); clear v12 x12 y12 z12 b13)
    | (refine wpList_ldo rfl (.tmp 3) rfl rfl v12 ?_)
    | (refine wpList_svo (x := R1) rfl (.tmp 17) (.tmp 84) rfl rfl rfl z11 ?_; intro w12 z12 b12 o12 _; have v12 := v11.other o12 (by have := N_v_z.out; omega); have x12 := x11.other o12 (by have := N_x_z.out; omega); have y12 := y11.other o12 (by have := N_y_z.out; omega); have B12 : Hid (Below w.heap.size w w12) := hid (B11.out.trans (b12.mono B10.out.size)); clear v11 x11 y11 z11 b12 o12)
    | (refine wpList_alo rfl rfl ?_; intro w11 z11 b11 s11; have v11 := v10.keep b11; have x11 := x10.keep b11; have y11 := y10.keep b11; have B11 : Hid (Below w.heap.size w w11) := hid (B10.out.trans (b11.mono B10.out.size)); have N_v_z : Hid (w.heap.size < w10.heap.size) := hid v10.lt; have N_x_z : Hid (w4.heap.size < w10.heap.size) := hid x10.lt; have N_y_z : Hid (w7.heap.size < w10.heap.size) := hid y10.lt; clear v10 x10 y10 b11 s11)
    | (go_at_call 11; (with_reducible refine (HR.out w9).mono ?_); rintro e w10 ⟨rfl, b10⟩; have v10 := v9.keep b10; have x10 := x9.keep b10; have y10 := y9.keep b10; have B10 : Hid (Below w.heap.size w w10) := hid (B9.out.trans (b10.mono B9.out.size)); clear v9 x9 y9 b10)
    | (refine wpList_ldo rfl (.tmp 3) rfl rfl v9 ?_)
    | (refine wpList_svo (x := U1) rfl (.tmp 14) (.tmp 62) rfl rfl rfl y8 ?_; intro w9 y9 b9 o9 _; have v9 := v8.other o9 (by have := N_v_y.out; omega); have x9 := x8.other o9 (by have := N_x_y.out; omega); have B9 : Hid (Below w.heap.size w w9) := hid (B8.out.trans (b9.mono B7.out.size)); clear v8 x8 y8 b9 o9)
    | (refine wpList_alo rfl rfl ?_; intro w8 y8 b8 s8; have v8 := v7.keep b8; have x8 := x7.keep b8; have B8 : Hid (Below w.heap.size w w8) := hid (B7.out.trans (b8.mono B7.out.size)); have N_v_y : Hid (w.heap.size < w7.heap.size) := hid v7.lt; have N_x_y : Hid (w4.heap.size < w7.heap.size) := hid x7.lt; clear v7 x7 b8 s8)
    | (go_at_call 11; (with_reducible refine (HU.out w6).mono ?_); rintro e w7 ⟨rfl, b7⟩; have v7 := v6.keep b7; have x7 := x6.keep b7; have B7 : Hid (Below w.heap.size w w7) := hid (B6.out.trans (b7.mono B6.out.size)); clear v6 x6 b7)
    | (refine wpList_ldo rfl (.tmp 3) rfl rfl v6 ?_)
    | (refine wpList_svo (x := T1) rfl (.tmp 11) (.tmp 37) rfl rfl rfl x5 ?_; intro w6 x6 b6 o6 _; have v6 := v5.other o6 (by have := N_v_x.out; omega); have B6 : Hid (Below w.heap.size w w6) := hid (B5.out.trans (b6.mono B4.out.size)); clear v5 x5 b6 o6)
    | (refine wpList_alo rfl rfl ?_; intro w5 x5 b5 s5; have v5 := v4.keep b5; have B5 : Hid (Below w.heap.size w w5) := hid (B4.out.trans (b5.mono B4.out.size)); have N_v_x : Hid (w.heap.size < w4.heap.size) := hid v4.lt; clear v4 b5 s5)
    | (go_at_call 11; (with_reducible refine (HT.out w3).mono ?_); rintro e w4 ⟨rfl, b4⟩; have v4 := v3.keep b4; have B4 : Hid (Below w.heap.size w w4) := hid (B3.out.trans (b4.mono B3.out.size)); clear v3 b4)
    | (refine wpList_ldo rfl (.tmp 3) rfl rfl v3 ?_)
    | (go_at_call 12; (with_reducible refine (HN.out w2).mono ?_); rintro e w3 ⟨rfl, b3⟩; have v3 := v2.keep b3; have B3 : Hid (Below w.heap.size w w3) := hid (B2.out.trans (b3.mono B2.out.size)); clear v2 b3)
    | (refine wpList_ldo rfl (.tmp 3) rfl rfl v2 ?_)
    | (go_at_call 8; (with_reducible refine (live_any w1).mono ?_); rintro e w2 ⟨rfl, b2⟩; have v2 := v1.keep b2; have B2 : Hid (Below w.heap.size w w2) := hid (B1.out.trans (b2.mono B1.out.size)); clear v1 b2)
    | (refine wpList_boxo (x := ⟨p, d, r⟩) rfl (.tmp 0) rfl rfl ?_; intro w1 v1 b1 s1; have B1 : Hid (Below w.heap.size w w1) := hid b1; clear b1 s1))
  go_ret
  exact ⟨ret_bool (by simp), B13.out⟩

theorem fits_ps {x : Oc} (h : Ok x) (n b : Int) : n ≤ (b * 1000000000 + (999999999 - x.r)) / (x.p * (1000000000 + x.d)) ↔ psO x n ≤ b := by
  have hr := rate_range h.1 h.2.1 h.2.2.1 h.2.2.2.1
  rw [Int.le_ediv_iff_mul_le (by omega)]
  unfold psO tot
  generalize n * (x.p * (1000000000 + x.d)) = m
  omega
theorem back_second (p d r a : Int) : (∃ Q R1 F, (∀ w : World, Calls Try.prog 11 #[ov ⟨p, d, r⟩, .int .i64 a] w fun e w' => e = .returned (.tuple #[.int .i64 Q, ov R1, .int .i64 F]) ∧ Below w.heap.size w w') ∧ (F != 0) = true) ∨ (∃ Q R1 M, (∀ w : World, Calls Try.prog 11 #[ov ⟨p, d, r⟩, .int .i64 a] w fun e w' => e = .returned (.tuple #[.int .i64 Q, ov R1, .int .i64 0]) ∧ Below w.heap.size w w') ∧ (∀ w : World, Calls Try.prog 12 #[ov ⟨p, d, r⟩, .int .i64 Q] w fun e w' => e = .returned (.tuple #[.int .i64 M, .int .i64 0]) ∧ Below w.heap.size w w') ∧ decide (a ≤ M) = true) := by
  by_cases hk : Ok ⟨p, d, r⟩ ∧ 0 ≤ a ∧ a ≤ 1099511627776
  · obtain ⟨hk, a0, a1⟩ := hk
    by_cases hq : psO ⟨p, d, r⟩ a ≤ 1152921504606846976
    · refine .inr ⟨_, _, _, fun w => run_ok ⟨p, d, r⟩ a w hk a0 a1 hq, fun w => ticks_ok ⟨p, d, r⟩ _ w hk (psO_nonneg hk a0) hq, decide_eq_true ?_⟩
      have := (fits_ps hk a (psO ⟨p, d, r⟩ a)).2 (Int.le_refl _)
      unfold tkO
      omega
    · exact .inl ⟨0, oz, 2, fun w => run_over ⟨p, d, r⟩ a w hk a0 a1 (by omega), rfl⟩
  · exact .inl ⟨0, oz, 1, fun w => run_arg ⟨p, d, r⟩ a w hk, rfl⟩
theorem back_row {w : World} (p d r : Int) (_ : (-9223372036854775808 ≤ p ∧ p ≤ 9223372036854775807)) (_ : (-9223372036854775808 ≤ d ∧ d ≤ 9223372036854775807)) (_ : (-9223372036854775808 ≤ r ∧ r ≤ 9223372036854775807)) (a : Int) (_ : -9223372036854775808 ≤ a) (_ : a ≤ 9223372036854775807) (b : Int) (_ : -9223372036854775808 ≤ b) (_ : b ≤ 9223372036854775807) :
    Calls Try.prog 4 #[ov ⟨p, d, r⟩, .int .i64 a, .int .i64 b] w fun e w' => e = .returned (.bool true) ∧ Below w.heap.size w w' := by
  by_cases hk : Ok ⟨p, d, r⟩ ∧ 0 ≤ b ∧ b ≤ 1152921504606846976
  · obtain ⟨hk, b0, b1⟩ := hk
    have hN := fun w => ticks_ok ⟨p, d, r⟩ b w hk b0 b1
    have fit := fits_ps hk
    have hr := rate_range hk.1 hk.2.1 hk.2.2.1 hk.2.2.2.1
    have h5 := hk.2.2.2.2.1
    have h6 := hk.2.2.2.2.2
    simp only at hr h5 h6
    have q0 : 0 ≤ (b * 1000000000 + (999999999 - r)) / (p * (1000000000 + d)) := Int.ediv_nonneg (by omega) (by omega)
    have f0 := fun n => fit n b
    clear fit
    simp only [tkO] at hN f0
    generalize (b * 1000000000 + (999999999 - r)) / (p * (1000000000 + d)) = q at *
    by_cases hq : 1099511627776 ≤ q
    · rw [Int.min_eq_right hq] at hN
      have t1 := (f0 1099511627776).1 hq
      have hT := fun w => run_ok ⟨p, d, r⟩ 1099511627776 w hk (by omega) (by omega) (by omega)
      have f1 : decide (b < psO ⟨p, d, r⟩ 1099511627776) = false := decide_eq_false (by omega)
      rcases back_second p d r a with ⟨Q, R1, F, h1, h2⟩ | ⟨Q, R1, M, h1, h2, h3⟩
      · exact back_last_err p d r a b _ Q F _ R1 w hN hT f1 h1 h2
      · exact back_last_ok p d r a b _ Q M _ R1 w hN hT f1 h1 h2 h3
    · rw [Int.min_eq_left (by omega)] at hN
      have t1 := (f0 q).1 (Int.le_refl _)
      have t2 : ¬ psO ⟨p, d, r⟩ (q + 1) ≤ b := fun x => by have := (f0 (q + 1)).2 x; omega
      have hT := fun w => run_ok ⟨p, d, r⟩ q w hk (by omega) (by omega) (by omega)
      have f1 : decide (b < psO ⟨p, d, r⟩ q) = false := decide_eq_false (by omega)
      by_cases hu : psO ⟨p, d, r⟩ (q + 1) ≤ 1152921504606846976
      · have hU := fun w => run_ok ⟨p, d, r⟩ (q + 1) w hk (by omega) (by omega) hu
        have f2 : decide (psO ⟨p, d, r⟩ (q + 1) ≤ b) = false := decide_eq_false t2
        rcases back_second p d r a with ⟨Q, R1, F, h1, h2⟩ | ⟨Q, R1, M, h1, h2, h3⟩
        · exact back_more_err p d r a b q _ _ Q F _ _ R1 w hN hT f1 q0 (by omega) hU f2 h1 h2
        · exact back_more_ok p d r a b q _ _ Q M _ _ R1 w hN hT f1 q0 (by omega) hU f2 h1 h2 h3
      · have hU := fun w => run_over ⟨p, d, r⟩ (q + 1) w hk (by omega) (by omega) (by omega)
        rcases back_second p d r a with ⟨Q, R1, F, h1, h2⟩ | ⟨Q, R1, M, h1, h2, h3⟩
        · exact back_over_err p d r a b q _ _ Q F _ _ R1 w hN hT f1 q0 (by omega) hU h1 h2
        · exact back_over_ok p d r a b q _ _ Q M _ _ R1 w hN hT f1 q0 (by omega) hU h1 h2 h3
  · have hN := fun w => ticks_arg ⟨p, d, r⟩ b w hk
    rcases back_second p d r a with ⟨Q, R1, F, h1, h2⟩ | ⟨Q, R1, M, h1, h2, h3⟩
    · exact back_none_err p d r a b Q F R1 w hN h1 h2
    · exact back_none_ok p d r a b Q M R1 w hN h1 h2 h3
end Go.Proofs.Ytmmcnbhhdgnljaa
