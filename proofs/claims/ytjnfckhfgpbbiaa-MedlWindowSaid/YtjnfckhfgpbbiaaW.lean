/-
  The walk of MedlWindow: it returns true at every schedule and number of 64 bits.
-/
import Derived.Test.YtjnfckhfgpbbiaaG
import Derived.Test.YtjnfckhfgpbbiaaR
namespace Go.Proofs.Ytjnfckhfgpbbiaa
open Go Go.RowKit
set_option maxRecDepth 100000 in
theorem window_bad (x : Md) (t : Int) (w : World) (h : ¬ Ok x) : Calls Try.prog 5 #[mv x, .int .i64 t] w fun e w' => e = .returned (.bool true) ∧ Below w.heap.size w w' := by
  have HB := hid (fun w => (okE_bad h ▸ check_any x w : Calls Try.prog 15 #[mv x] w fun e w' => e = .returned (.int .i64 1) ∧ Below w.heap.size w w'))
  clear h
  go_enter Try.func5, Try.ntmps5
  go_wp2_with (first
    | (refine wpList_ldm rfl (.tmp 2) rfl rfl v3 ?_)
    | (go_at_call 15; (with_reducible refine (HB.out w2).mono ?_); rintro e w3 ⟨rfl, b3⟩; have v3 := v2.keep b3; have B3 : Hid (Below w.heap.size w w3) := hid (B2.out.trans (b3.mono B2.out.size)); clear v2 b3)
    | (refine wpList_ldm rfl (.tmp 2) rfl rfl v2 ?_)
    | (go_at_call 8; (with_reducible refine (live_any w1).mono ?_); rintro e w2 ⟨rfl, b2⟩; have v2 := v1.keep b2; have B2 : Hid (Below w.heap.size w w2) := hid (B1.out.trans (b2.mono B1.out.size)); clear v1 b2)
    | (refine wpList_ldm rfl (.tmp 2) rfl rfl v1 ?_)
    | (refine wpList_boxm (x := x) rfl (.tmp 0) rfl rfl ?_; intro w1 v1 b1 s1; have B1 : Hid (Below w.heap.size w w1) := hid b1; clear b1 s1))
  go_ret
  exact ⟨rfl, B3.out⟩
set_option maxRecDepth 100000 in
set_option maxHeartbeats 1000000 in
theorem window_in (n s l f d t D : Int) (w : World) (h : Ok ⟨n, s, l, f, d⟩) (t1 : -9223372036854775808 ≤ t) (t2 : t ≤ 9223372036854775807) (hD : t - l = D) (hD1 : -d ≤ D) (hD2 : D ≤ d)
    (hT : ∀ w : World, Calls Try.prog 11 #[mv ⟨n, s, l, f, d⟩, .int .i64 t] w fun e w' => e = .returned (.tuple #[.int .i64 D, .bool true, .int .i64 0]) ∧ Below w.heap.size w w') :
    Calls Try.prog 5 #[mv ⟨n, s, l, f, d⟩, .int .i64 t] w fun e w' => e = .returned (.bool true) ∧ Below w.heap.size w w' := by
  have hok := h
  have HK := hid (fun w => (okE_ok h ▸ check_any ⟨n, s, l, f, d⟩ w : Calls Try.prog 15 #[mv ⟨n, s, l, f, d⟩] w fun e w' => e = .returned (.int .i64 0) ∧ Below w.heap.size w w'))
  obtain ⟨h1, h2, h3, h4, h5, h6, h7, h8, h9⟩ := h
  simp only at h1 h2 h3 h4 h5 h6 h7 h8 h9
  have H1 := hid (fun w => off_in n s l f d l 0 true w hok (by omega) (by omega) (by omega) (by simp; omega) (by simp; omega))
  have H2 := hid (fun w => off_in n s l f d (l - d) (-d) true w hok (by omega) (by omega) (by omega) (by simp) (by simp; omega))
  have H3 := hid (fun w => off_in n s l f d (l + d) d true w hok (by omega) (by omega) (by omega) (by simp; omega) (by simp))
  have H4 := hid (fun w => off_early n s l f d (l - d - 1) (-d - 1) w hok (by omega) (by omega) (by omega) (decide_eq_false (by omega)))
  have H5 := hid (fun w => off_in n s l f d (l + d + 1) (d + 1) false w hok (by omega) (by omega) (by omega) (by simp; omega) (decide_eq_false (by omega)))
  have H6 := hid hT
  clear hT hok
  have q1 : decide (t < 0) = false := by simp; omega
  have q2 : decide (s ≤ t + f) = false := by simp; omega
  have q3 : ((D + l) != t) = false := by simp; omega
  go_enter Try.func5, Try.ntmps5
  go_wp2_with (first
    | (refine wpList_ldm rfl (.tmp 2) rfl rfl v9 ?_)
    | (go_at_call 11; (with_reducible refine (H6.out w8).mono ?_); rintro e w9 ⟨rfl, b9⟩; have v9 := v8.keep b9; have B9 : Hid (Below w.heap.size w w9) := hid (B8.out.trans (b9.mono B8.out.size)); clear v8 b9 c1 c2 c3 c4; have c1 : w9.cell? ⟨w.heap.size, 1, none⟩ = some (.int .i64 s) := v9.c1; have c2 : w9.cell? ⟨w.heap.size, 2, none⟩ = some (.int .i64 l) := v9.c2; have c3 : w9.cell? ⟨w.heap.size, 3, none⟩ = some (.int .i64 f) := v9.c3; have c4 : w9.cell? ⟨w.heap.size, 4, none⟩ = some (.int .i64 d) := v9.c4)
    | (refine wpList_ldm rfl (.tmp 2) rfl rfl v8 ?_)
    | (go_at_call 11; (with_reducible refine (H5.out w7).mono ?_); rintro e w8 ⟨rfl, b8⟩; have v8 := v7.keep b8; have B8 : Hid (Below w.heap.size w w8) := hid (B7.out.trans (b8.mono B7.out.size)); clear v7 b8 c1 c2 c3 c4; have c1 : w8.cell? ⟨w.heap.size, 1, none⟩ = some (.int .i64 s) := v8.c1; have c2 : w8.cell? ⟨w.heap.size, 2, none⟩ = some (.int .i64 l) := v8.c2; have c3 : w8.cell? ⟨w.heap.size, 3, none⟩ = some (.int .i64 f) := v8.c3; have c4 : w8.cell? ⟨w.heap.size, 4, none⟩ = some (.int .i64 d) := v8.c4)
    | (refine wpList_ldm rfl (.tmp 2) rfl rfl v7 ?_)
    | (go_at_call 11; (with_reducible refine (H4.out w6).mono ?_); rintro e w7 ⟨rfl, b7⟩; have v7 := v6.keep b7; have B7 : Hid (Below w.heap.size w w7) := hid (B6.out.trans (b7.mono B6.out.size)); clear v6 b7 c1 c2 c3 c4; have c1 : w7.cell? ⟨w.heap.size, 1, none⟩ = some (.int .i64 s) := v7.c1; have c2 : w7.cell? ⟨w.heap.size, 2, none⟩ = some (.int .i64 l) := v7.c2; have c3 : w7.cell? ⟨w.heap.size, 3, none⟩ = some (.int .i64 f) := v7.c3; have c4 : w7.cell? ⟨w.heap.size, 4, none⟩ = some (.int .i64 d) := v7.c4)
    | (refine wpList_ldm rfl (.tmp 2) rfl rfl v6 ?_)
    | (go_at_call 11; (with_reducible refine (H3.out w5).mono ?_); rintro e w6 ⟨rfl, b6⟩; have v6 := v5.keep b6; have B6 : Hid (Below w.heap.size w w6) := hid (B5.out.trans (b6.mono B5.out.size)); clear v5 b6 c1 c2 c3 c4; have c1 : w6.cell? ⟨w.heap.size, 1, none⟩ = some (.int .i64 s) := v6.c1; have c2 : w6.cell? ⟨w.heap.size, 2, none⟩ = some (.int .i64 l) := v6.c2; have c3 : w6.cell? ⟨w.heap.size, 3, none⟩ = some (.int .i64 f) := v6.c3; have c4 : w6.cell? ⟨w.heap.size, 4, none⟩ = some (.int .i64 d) := v6.c4)
    | (refine wpList_ldm rfl (.tmp 2) rfl rfl v5 ?_)
    | (go_at_call 11; (with_reducible refine (H2.out w4).mono ?_); rintro e w5 ⟨rfl, b5⟩; have v5 := v4.keep b5; have B5 : Hid (Below w.heap.size w w5) := hid (B4.out.trans (b5.mono B4.out.size)); clear v4 b5 c1 c2 c3 c4; have c1 : w5.cell? ⟨w.heap.size, 1, none⟩ = some (.int .i64 s) := v5.c1; have c2 : w5.cell? ⟨w.heap.size, 2, none⟩ = some (.int .i64 l) := v5.c2; have c3 : w5.cell? ⟨w.heap.size, 3, none⟩ = some (.int .i64 f) := v5.c3; have c4 : w5.cell? ⟨w.heap.size, 4, none⟩ = some (.int .i64 d) := v5.c4)
    | (refine wpList_ldm rfl (.tmp 2) rfl rfl v4 ?_)
    | (go_at_call 11; (with_reducible refine (H1.out w3).mono ?_); rintro e w4 ⟨rfl, b4⟩; have v4 := v3.keep b4; have B4 : Hid (Below w.heap.size w w4) := hid (B3.out.trans (b4.mono B3.out.size)); clear v3 b4 c1 c2 c3 c4; have c1 : w4.cell? ⟨w.heap.size, 1, none⟩ = some (.int .i64 s) := v4.c1; have c2 : w4.cell? ⟨w.heap.size, 2, none⟩ = some (.int .i64 l) := v4.c2; have c3 : w4.cell? ⟨w.heap.size, 3, none⟩ = some (.int .i64 f) := v4.c3; have c4 : w4.cell? ⟨w.heap.size, 4, none⟩ = some (.int .i64 d) := v4.c4)
    | (refine wpList_ldm rfl (.tmp 2) rfl rfl v3 ?_)
    | (go_at_call 15; (with_reducible refine (HK.out w2).mono ?_); rintro e w3 ⟨rfl, b3⟩; have v3 := v2.keep b3; have B3 : Hid (Below w.heap.size w w3) := hid (B2.out.trans (b3.mono B2.out.size)); clear v2 b3 c1 c2 c3 c4; have c1 : w3.cell? ⟨w.heap.size, 1, none⟩ = some (.int .i64 s) := v3.c1; have c2 : w3.cell? ⟨w.heap.size, 2, none⟩ = some (.int .i64 l) := v3.c2; have c3 : w3.cell? ⟨w.heap.size, 3, none⟩ = some (.int .i64 f) := v3.c3; have c4 : w3.cell? ⟨w.heap.size, 4, none⟩ = some (.int .i64 d) := v3.c4)
    | (refine wpList_ldm rfl (.tmp 2) rfl rfl v2 ?_)
    | (go_at_call 8; (with_reducible refine (live_any w1).mono ?_); rintro e w2 ⟨rfl, b2⟩; have v2 := v1.keep b2; have B2 : Hid (Below w.heap.size w w2) := hid (B1.out.trans (b2.mono B1.out.size)); clear v1 b2 c1 c2 c3 c4; have c1 : w2.cell? ⟨w.heap.size, 1, none⟩ = some (.int .i64 s) := v2.c1; have c2 : w2.cell? ⟨w.heap.size, 2, none⟩ = some (.int .i64 l) := v2.c2; have c3 : w2.cell? ⟨w.heap.size, 3, none⟩ = some (.int .i64 f) := v2.c3; have c4 : w2.cell? ⟨w.heap.size, 4, none⟩ = some (.int .i64 d) := v2.c4)
    | (refine wpList_ldm rfl (.tmp 2) rfl rfl v1 ?_)
    | (refine wpList_boxm (x := ⟨n, s, l, f, d⟩) rfl (.tmp 0) rfl rfl ?_; intro w1 v1 b1 s1; have B1 : Hid (Below w.heap.size w w1) := hid b1; have c1 : w1.cell? ⟨w.heap.size, 1, none⟩ = some (.int .i64 s) := v1.c1; have c2 : w1.cell? ⟨w.heap.size, 2, none⟩ = some (.int .i64 l) := v1.c2; have c3 : w1.cell? ⟨w.heap.size, 3, none⟩ = some (.int .i64 f) := v1.c3; have c4 : w1.cell? ⟨w.heap.size, 4, none⟩ = some (.int .i64 d) := v1.c4; clear b1 s1))
  go_ret
  exact ⟨ret_bool (by simp), B9.out⟩
set_option maxRecDepth 100000 in
set_option maxHeartbeats 1000000 in
theorem window_out (n s l f d t D E : Int) (w : World) (h : Ok ⟨n, s, l, f, d⟩) 
    (hT : ∀ w : World, Calls Try.prog 11 #[mv ⟨n, s, l, f, d⟩, .int .i64 t] w fun e w' => e = .returned (.tuple #[.int .i64 D, .bool false, .int .i64 E]) ∧ Below w.heap.size w w') :
    Calls Try.prog 5 #[mv ⟨n, s, l, f, d⟩, .int .i64 t] w fun e w' => e = .returned (.bool true) ∧ Below w.heap.size w w' := by
  have hok := h
  have HK := hid (fun w => (okE_ok h ▸ check_any ⟨n, s, l, f, d⟩ w : Calls Try.prog 15 #[mv ⟨n, s, l, f, d⟩] w fun e w' => e = .returned (.int .i64 0) ∧ Below w.heap.size w w'))
  obtain ⟨h1, h2, h3, h4, h5, h6, h7, h8, h9⟩ := h
  simp only at h1 h2 h3 h4 h5 h6 h7 h8 h9
  have H1 := hid (fun w => off_in n s l f d l 0 true w hok (by omega) (by omega) (by omega) (by simp; omega) (by simp; omega))
  have H2 := hid (fun w => off_in n s l f d (l - d) (-d) true w hok (by omega) (by omega) (by omega) (by simp) (by simp; omega))
  have H3 := hid (fun w => off_in n s l f d (l + d) d true w hok (by omega) (by omega) (by omega) (by simp; omega) (by simp))
  have H4 := hid (fun w => off_early n s l f d (l - d - 1) (-d - 1) w hok (by omega) (by omega) (by omega) (decide_eq_false (by omega)))
  have H5 := hid (fun w => off_in n s l f d (l + d + 1) (d + 1) false w hok (by omega) (by omega) (by omega) (by simp; omega) (decide_eq_false (by omega)))
  have H6 := hid hT
  clear hT hok
  obtain ⟨q, hq⟩ : ∃ q, (E == 0) = q := ⟨_, rfl⟩
  go_enter Try.func5, Try.ntmps5
  go_wp2_with (first
    | (refine wpList_ldm rfl (.tmp 2) rfl rfl v9 ?_)
    | (go_at_call 11; (with_reducible refine (H6.out w8).mono ?_); rintro e w9 ⟨rfl, b9⟩; have v9 := v8.keep b9; have B9 : Hid (Below w.heap.size w w9) := hid (B8.out.trans (b9.mono B8.out.size)); clear v8 b9 c1 c2 c3 c4; have c1 : w9.cell? ⟨w.heap.size, 1, none⟩ = some (.int .i64 s) := v9.c1; have c2 : w9.cell? ⟨w.heap.size, 2, none⟩ = some (.int .i64 l) := v9.c2; have c3 : w9.cell? ⟨w.heap.size, 3, none⟩ = some (.int .i64 f) := v9.c3; have c4 : w9.cell? ⟨w.heap.size, 4, none⟩ = some (.int .i64 d) := v9.c4)
    | (refine wpList_ldm rfl (.tmp 2) rfl rfl v8 ?_)
    | (go_at_call 11; (with_reducible refine (H5.out w7).mono ?_); rintro e w8 ⟨rfl, b8⟩; have v8 := v7.keep b8; have B8 : Hid (Below w.heap.size w w8) := hid (B7.out.trans (b8.mono B7.out.size)); clear v7 b8 c1 c2 c3 c4; have c1 : w8.cell? ⟨w.heap.size, 1, none⟩ = some (.int .i64 s) := v8.c1; have c2 : w8.cell? ⟨w.heap.size, 2, none⟩ = some (.int .i64 l) := v8.c2; have c3 : w8.cell? ⟨w.heap.size, 3, none⟩ = some (.int .i64 f) := v8.c3; have c4 : w8.cell? ⟨w.heap.size, 4, none⟩ = some (.int .i64 d) := v8.c4)
    | (refine wpList_ldm rfl (.tmp 2) rfl rfl v7 ?_)
    | (go_at_call 11; (with_reducible refine (H4.out w6).mono ?_); rintro e w7 ⟨rfl, b7⟩; have v7 := v6.keep b7; have B7 : Hid (Below w.heap.size w w7) := hid (B6.out.trans (b7.mono B6.out.size)); clear v6 b7 c1 c2 c3 c4; have c1 : w7.cell? ⟨w.heap.size, 1, none⟩ = some (.int .i64 s) := v7.c1; have c2 : w7.cell? ⟨w.heap.size, 2, none⟩ = some (.int .i64 l) := v7.c2; have c3 : w7.cell? ⟨w.heap.size, 3, none⟩ = some (.int .i64 f) := v7.c3; have c4 : w7.cell? ⟨w.heap.size, 4, none⟩ = some (.int .i64 d) := v7.c4)
    | (refine wpList_ldm rfl (.tmp 2) rfl rfl v6 ?_)
    | (go_at_call 11; (with_reducible refine (H3.out w5).mono ?_); rintro e w6 ⟨rfl, b6⟩; have v6 := v5.keep b6; have B6 : Hid (Below w.heap.size w w6) := hid (B5.out.trans (b6.mono B5.out.size)); clear v5 b6 c1 c2 c3 c4; have c1 : w6.cell? ⟨w.heap.size, 1, none⟩ = some (.int .i64 s) := v6.c1; have c2 : w6.cell? ⟨w.heap.size, 2, none⟩ = some (.int .i64 l) := v6.c2; have c3 : w6.cell? ⟨w.heap.size, 3, none⟩ = some (.int .i64 f) := v6.c3; have c4 : w6.cell? ⟨w.heap.size, 4, none⟩ = some (.int .i64 d) := v6.c4)
    | (refine wpList_ldm rfl (.tmp 2) rfl rfl v5 ?_)
    | (go_at_call 11; (with_reducible refine (H2.out w4).mono ?_); rintro e w5 ⟨rfl, b5⟩; have v5 := v4.keep b5; have B5 : Hid (Below w.heap.size w w5) := hid (B4.out.trans (b5.mono B4.out.size)); clear v4 b5 c1 c2 c3 c4; have c1 : w5.cell? ⟨w.heap.size, 1, none⟩ = some (.int .i64 s) := v5.c1; have c2 : w5.cell? ⟨w.heap.size, 2, none⟩ = some (.int .i64 l) := v5.c2; have c3 : w5.cell? ⟨w.heap.size, 3, none⟩ = some (.int .i64 f) := v5.c3; have c4 : w5.cell? ⟨w.heap.size, 4, none⟩ = some (.int .i64 d) := v5.c4)
    | (refine wpList_ldm rfl (.tmp 2) rfl rfl v4 ?_)
    | (go_at_call 11; (with_reducible refine (H1.out w3).mono ?_); rintro e w4 ⟨rfl, b4⟩; have v4 := v3.keep b4; have B4 : Hid (Below w.heap.size w w4) := hid (B3.out.trans (b4.mono B3.out.size)); clear v3 b4 c1 c2 c3 c4; have c1 : w4.cell? ⟨w.heap.size, 1, none⟩ = some (.int .i64 s) := v4.c1; have c2 : w4.cell? ⟨w.heap.size, 2, none⟩ = some (.int .i64 l) := v4.c2; have c3 : w4.cell? ⟨w.heap.size, 3, none⟩ = some (.int .i64 f) := v4.c3; have c4 : w4.cell? ⟨w.heap.size, 4, none⟩ = some (.int .i64 d) := v4.c4)
    | (refine wpList_ldm rfl (.tmp 2) rfl rfl v3 ?_)
    | (go_at_call 15; (with_reducible refine (HK.out w2).mono ?_); rintro e w3 ⟨rfl, b3⟩; have v3 := v2.keep b3; have B3 : Hid (Below w.heap.size w w3) := hid (B2.out.trans (b3.mono B2.out.size)); clear v2 b3 c1 c2 c3 c4; have c1 : w3.cell? ⟨w.heap.size, 1, none⟩ = some (.int .i64 s) := v3.c1; have c2 : w3.cell? ⟨w.heap.size, 2, none⟩ = some (.int .i64 l) := v3.c2; have c3 : w3.cell? ⟨w.heap.size, 3, none⟩ = some (.int .i64 f) := v3.c3; have c4 : w3.cell? ⟨w.heap.size, 4, none⟩ = some (.int .i64 d) := v3.c4)
    | (refine wpList_ldm rfl (.tmp 2) rfl rfl v2 ?_)
    | (go_at_call 8; (with_reducible refine (live_any w1).mono ?_); rintro e w2 ⟨rfl, b2⟩; have v2 := v1.keep b2; have B2 : Hid (Below w.heap.size w w2) := hid (B1.out.trans (b2.mono B1.out.size)); clear v1 b2 c1 c2 c3 c4; have c1 : w2.cell? ⟨w.heap.size, 1, none⟩ = some (.int .i64 s) := v2.c1; have c2 : w2.cell? ⟨w.heap.size, 2, none⟩ = some (.int .i64 l) := v2.c2; have c3 : w2.cell? ⟨w.heap.size, 3, none⟩ = some (.int .i64 f) := v2.c3; have c4 : w2.cell? ⟨w.heap.size, 4, none⟩ = some (.int .i64 d) := v2.c4)
    | (refine wpList_ldm rfl (.tmp 2) rfl rfl v1 ?_)
    | (refine wpList_boxm (x := ⟨n, s, l, f, d⟩) rfl (.tmp 0) rfl rfl ?_; intro w1 v1 b1 s1; have B1 : Hid (Below w.heap.size w w1) := hid b1; have c1 : w1.cell? ⟨w.heap.size, 1, none⟩ = some (.int .i64 s) := v1.c1; have c2 : w1.cell? ⟨w.heap.size, 2, none⟩ = some (.int .i64 l) := v1.c2; have c3 : w1.cell? ⟨w.heap.size, 3, none⟩ = some (.int .i64 f) := v1.c3; have c4 : w1.cell? ⟨w.heap.size, 4, none⟩ = some (.int .i64 d) := v1.c4; clear b1 s1))
  all_goals
    go_ret
    exact ⟨ret_bool (by simp), B9.out⟩
theorem window_row {w : World} (n s l f d : Int) (_ : In64 n) (_ : In64 s) (_ : In64 l) (_ : In64 f) (_ : In64 d) (t : Int) (t1 : -9223372036854775808 ≤ t) (t2 : t ≤ 9223372036854775807) :
    Calls Try.prog 5 #[mv ⟨n, s, l, f, d⟩, .int .i64 t] w fun e w' => e = .returned (.bool true) ∧ Below w.heap.size w w' := by
  by_cases h : Ok ⟨n, s, l, f, d⟩
  · by_cases c : t < -9223372036854775808 + l
    · exact window_out n s l f d t 0 2 w h (fun w => off_over n s l f d t w h c)
    · by_cases c1 : -d ≤ t - l
      · by_cases c2 : t - l ≤ d
        · exact window_in n s l f d t _ w h t1 t2 rfl c1 c2 (fun w => off_in n s l f d t _ true w h (by omega) t2 rfl (by simp; omega) (by simp; omega))
        · exact window_out n s l f d t _ 0 w h (fun w => off_in n s l f d t _ false w h (by omega) t2 rfl (by simp; omega) (by simp; omega))
      · exact window_out n s l f d t _ 0 w h (fun w => off_early n s l f d t _ w h (by omega) t2 rfl (by simp; omega))
  · exact window_bad _ t w h
end Go.Proofs.Ytjnfckhfgpbbiaa
