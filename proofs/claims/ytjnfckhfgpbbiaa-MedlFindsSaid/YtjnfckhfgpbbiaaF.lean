/-
  The walk of MedlFinds: in which slot any tick is, how late any frame is, and any node's next slot, as the document tells it; at every schedule and numbers.
-/
import Derived.Test.YtjnfckhfgpbbiaaH
import Derived.Test.YtjnfckhfgpbbiaaN
namespace Go.Proofs.Ytjnfckhfgpbbiaa
open Go Go.RowKit
theorem at_both (x : Md) (t : Int) (t2 : t ≤ 9223372036854775807) : ∃ q r E : Int, (∀ w : World, Calls Try.prog 9 #[mv x, .int .i64 t] w fun e w' => e = .returned (.tuple #[.int .u64 q, .int .i64 r, .int .i64 E]) ∧ Below w.heap.size w w') ∧ (∀ w : World, Calls Try.prog 10 #[mv x, .int .i64 t] w fun e w' => e = .returned (.tuple #[.int .u64 q, .int .i64 r, .int .i64 E]) ∧ Below w.heap.size w w') := by
  obtain ⟨n, s, l, f, d⟩ := x
  by_cases h : Ok ⟨n, s, l, f, d⟩
  · by_cases h0 : t < 0
    · exact ⟨_, _, _, fun w => at_neg n s l f d t w h h0, fun w => rat_neg n s l f d t w h h0⟩
    · have hs : 16 ≤ s := h.2.2.1
      have hq := Int.ediv_nonneg (show 0 ≤ t by omega) (show 0 ≤ s by omega)
      by_cases h4 : 4294967296 < t / s
      · exact ⟨_, _, _, fun w => at_over n s l f d t _ w h (by omega) t2 rfl h4, fun w => rat_over n s l f d t _ w h (by omega) t2 rfl h4⟩
      · exact ⟨_, _, _, fun w => at_ok n s l f d t _ _ w h (by omega) t2 rfl rfl hq (by omega), fun w => rat_ok n s l f d t _ _ w h (by omega) t2 rfl rfl hq (by omega)⟩
  · exact ⟨_, _, _, fun w => at_bad _ t w h, fun w => rat_bad _ t w h⟩
theorem off_both (x : Md) (t : Int) (t2 : t ≤ 9223372036854775807) : ∃ (D : Int) (B : Bool) (E : Int), (∀ w : World, Calls Try.prog 11 #[mv x, .int .i64 t] w fun e w' => e = .returned (.tuple #[.int .i64 D, .bool B, .int .i64 E]) ∧ Below w.heap.size w w') ∧ (∀ w : World, Calls Try.prog 12 #[mv x, .int .i64 t] w fun e w' => e = .returned (.tuple #[.int .i64 D, .bool B, .int .i64 E]) ∧ Below w.heap.size w w') := by
  obtain ⟨n, s, l, f, d⟩ := x
  by_cases h : Ok ⟨n, s, l, f, d⟩
  · have hd : 1 ≤ d := h.2.2.2.2.2.2.1
    by_cases h0 : t < -9223372036854775808 + l
    · exact ⟨_, _, _, fun w => off_over n s l f d t w h h0, fun w => roff_over n s l f d t w h h0⟩
    · by_cases c1 : -d ≤ t - l
      · by_cases c2 : t - l ≤ d
        · exact ⟨_, true, _, fun w => off_in n s l f d t _ true w h (by omega) t2 rfl (decide_eq_true c1) (decide_eq_true c2), fun w => roff_in n s l f d t _ true w h (by omega) t2 rfl (decide_eq_true c2) (decide_eq_true c1)⟩
        · exact ⟨_, false, _, fun w => off_in n s l f d t _ false w h (by omega) t2 rfl (decide_eq_true c1) (decide_eq_false c2), fun w => roff_late n s l f d t _ w h (by omega) t2 rfl (decide_eq_false c2)⟩
      · exact ⟨_, false, _, fun w => off_early n s l f d t _ w h (by omega) t2 rfl (decide_eq_false c1), fun w => roff_in n s l f d t _ false w h (by omega) t2 rfl (decide_eq_true (by omega)) (decide_eq_false c1)⟩
  · exact ⟨_, _, _, fun w => off_bad _ t w h, fun w => roff_bad _ t w h⟩
theorem next_both (x : Md) (k m : Int) (k1 : 0 ≤ k) : ∃ N E : Int, (∀ w : World, Calls Try.prog 13 #[mv x, .int .u64 k, .int .i64 m] w fun e w' => e = .returned (.tuple #[.int .u64 N, .int .i64 E]) ∧ Below w.heap.size w w') ∧ (∀ w : World, Calls Try.prog 14 #[mv x, .int .u64 k, .int .i64 m] w fun e w' => e = .returned (.tuple #[.int .u64 N, .int .i64 E]) ∧ Below w.heap.size w w') := by
  obtain ⟨n, s, l, f, d⟩ := x
  by_cases h : Ok ⟨n, s, l, f, d⟩ ∧ k ≤ 4294967296
  · obtain ⟨h, k2⟩ := h
    have h1 : 2 ≤ n := h.1
    by_cases hm : 0 ≤ m ∧ m < n
    · obtain ⟨hm0, hm1⟩ := hm
      have o1 := Int.emod_nonneg k (show n ≠ 0 by omega)
      have o2 := Int.emod_lt_of_pos k (show 0 < n by omega)
      by_cases c : m - k % n ≤ 0
      · by_cases h4 : k + (m - k % n + n) ≤ 4294967296
        · exact ⟨_, _, fun w => next_own_ok n s l f d k m _ _ w h k1 k2 hm0 hm1 rfl c rfl h4, fun w => rnext_ok n s l f d k m _ w h k1 k2 hm0 hm1 (by omega) (by omega) (own_again k n m hm0 hm1) h4⟩
        · exact ⟨_, _, fun w => next_own_over n s l f d k m _ _ w h k1 k2 hm0 hm1 rfl c rfl (by omega), fun w => rnext_over n s l f d k m _ w h k1 k2 hm0 hm1 (by omega) (by omega) (own_again k n m hm0 hm1) (by omega)⟩
      · by_cases h4 : k + (m - k % n) ≤ 4294967296
        · exact ⟨_, _, fun w => next_ahead_ok n s l f d k m _ _ w h k1 k2 hm0 hm1 rfl (by omega) rfl h4, fun w => rnext_ok n s l f d k m _ w h k1 k2 hm0 hm1 (by omega) (by omega) (own_ahead k n m hm0 hm1) h4⟩
        · exact ⟨_, _, fun w => next_ahead_over n s l f d k m _ _ w h k1 k2 hm0 hm1 rfl (by omega) rfl (by omega), fun w => rnext_over n s l f d k m _ w h k1 k2 hm0 hm1 (by omega) (by omega) (own_ahead k n m hm0 hm1) (by omega)⟩
    · exact ⟨_, _, fun w => next_node n s l f d k m w h k2 (by simp; omega), fun w => rnext_node n s l f d k m w h k2 (by simp; omega)⟩
  · exact ⟨_, _, fun w => next_bad _ k m w h, fun w => rnext_bad _ k m w h⟩
set_option maxRecDepth 100000 in
set_option maxHeartbeats 1000000 in
theorem finds_walk (x : Md) (k t m q r E D E2 N E3 : Int) (B : Bool) (w : World) (h1 : (∀ w : World, Calls Try.prog 9 #[mv x, .int .i64 t] w fun e w' => e = .returned (.tuple #[.int .u64 q, .int .i64 r, .int .i64 E]) ∧ Below w.heap.size w w')) (h2 : (∀ w : World, Calls Try.prog 10 #[mv x, .int .i64 t] w fun e w' => e = .returned (.tuple #[.int .u64 q, .int .i64 r, .int .i64 E]) ∧ Below w.heap.size w w')) (h3 : (∀ w : World, Calls Try.prog 11 #[mv x, .int .i64 t] w fun e w' => e = .returned (.tuple #[.int .i64 D, .bool B, .int .i64 E2]) ∧ Below w.heap.size w w')) (h4 : (∀ w : World, Calls Try.prog 12 #[mv x, .int .i64 t] w fun e w' => e = .returned (.tuple #[.int .i64 D, .bool B, .int .i64 E2]) ∧ Below w.heap.size w w')) (h5 : (∀ w : World, Calls Try.prog 13 #[mv x, .int .u64 k, .int .i64 m] w fun e w' => e = .returned (.tuple #[.int .u64 N, .int .i64 E3]) ∧ Below w.heap.size w w')) (h6 : (∀ w : World, Calls Try.prog 14 #[mv x, .int .u64 k, .int .i64 m] w fun e w' => e = .returned (.tuple #[.int .u64 N, .int .i64 E3]) ∧ Below w.heap.size w w')) :
    Calls Try.prog 3 #[mv x, .int .u64 k, .int .i64 t, .int .i64 m] w fun e w' => e = .returned (.bool true) ∧ Below w.heap.size w w' := by
  have H1 := hid h1
  have H2 := hid h2
  have H3 := hid h3
  have H4 := hid h4
  have H5 := hid h5
  have H6 := hid h6
  clear h1 h2 h3 h4 h5 h6
  go_enter Try.func3, Try.ntmps3
  go_wp2_with (first
    | (refine wpList_ldm rfl (.tmp 4) rfl rfl v8 ?_)
    | (go_at_call 14; (with_reducible refine (H6.out w7).mono ?_); rintro e w8 ⟨rfl, b8⟩; have v8 := v7.keep b8; have B8 : Hid (Below w.heap.size w w8) := hid (B7.out.trans (b8.mono B7.out.size)); clear v7 b8)
    | (refine wpList_ldm rfl (.tmp 4) rfl rfl v7 ?_)
    | (go_at_call 13; (with_reducible refine (H5.out w6).mono ?_); rintro e w7 ⟨rfl, b7⟩; have v7 := v6.keep b7; have B7 : Hid (Below w.heap.size w w7) := hid (B6.out.trans (b7.mono B6.out.size)); clear v6 b7)
    | (refine wpList_ldm rfl (.tmp 4) rfl rfl v6 ?_)
    | (go_at_call 12; (with_reducible refine (H4.out w5).mono ?_); rintro e w6 ⟨rfl, b6⟩; have v6 := v5.keep b6; have B6 : Hid (Below w.heap.size w w6) := hid (B5.out.trans (b6.mono B5.out.size)); clear v5 b6)
    | (refine wpList_ldm rfl (.tmp 4) rfl rfl v5 ?_)
    | (go_at_call 11; (with_reducible refine (H3.out w4).mono ?_); rintro e w5 ⟨rfl, b5⟩; have v5 := v4.keep b5; have B5 : Hid (Below w.heap.size w w5) := hid (B4.out.trans (b5.mono B4.out.size)); clear v4 b5)
    | (refine wpList_ldm rfl (.tmp 4) rfl rfl v4 ?_)
    | (go_at_call 10; (with_reducible refine (H2.out w3).mono ?_); rintro e w4 ⟨rfl, b4⟩; have v4 := v3.keep b4; have B4 : Hid (Below w.heap.size w w4) := hid (B3.out.trans (b4.mono B3.out.size)); clear v3 b4)
    | (refine wpList_ldm rfl (.tmp 4) rfl rfl v3 ?_)
    | (go_at_call 9; (with_reducible refine (H1.out w2).mono ?_); rintro e w3 ⟨rfl, b3⟩; have v3 := v2.keep b3; have B3 : Hid (Below w.heap.size w w3) := hid (B2.out.trans (b3.mono B2.out.size)); clear v2 b3)
    | (refine wpList_ldm rfl (.tmp 4) rfl rfl v2 ?_)
    | (go_at_call 8; (with_reducible refine (live_any w1).mono ?_); rintro e w2 ⟨rfl, b2⟩; have v2 := v1.keep b2; have B2 : Hid (Below w.heap.size w w2) := hid (B1.out.trans (b2.mono B1.out.size)); clear v1 b2)
    | (refine wpList_ldm rfl (.tmp 4) rfl rfl v1 ?_)
    | (refine wpList_boxm (x := x) rfl (.tmp 0) rfl rfl ?_; intro w1 v1 b1 s1; have B1 : Hid (Below w.heap.size w w1) := hid b1; clear b1 s1))
  go_ret
  exact ⟨ret_bool (by simp), B8.out⟩
theorem finds_row {w : World} (n s l f d : Int) (_ : In64 n) (_ : In64 s) (_ : In64 l) (_ : In64 f) (_ : In64 d) (k : Int) (k1 : 0 ≤ k) (_ : k ≤ 18446744073709551615) (t : Int) (_ : -9223372036854775808 ≤ t) (t2 : t ≤ 9223372036854775807) (m : Int) (_ : -9223372036854775808 ≤ m) (_ : m ≤ 9223372036854775807) :
    Calls Try.prog 3 #[mv ⟨n, s, l, f, d⟩, .int .u64 k, .int .i64 t, .int .i64 m] w fun e w' => e = .returned (.bool true) ∧ Below w.heap.size w w' := by
  obtain ⟨q, r, E, a1, a2⟩ := at_both ⟨n, s, l, f, d⟩ t t2
  obtain ⟨D, B, E2, a3, a4⟩ := off_both ⟨n, s, l, f, d⟩ t t2
  obtain ⟨N, E3, a5, a6⟩ := next_both ⟨n, s, l, f, d⟩ k m k1
  exact finds_walk _ k t m q r E D E2 N E3 B w a1 a2 a3 a4 a5 a6
end Go.Proofs.Ytjnfckhfgpbbiaa
