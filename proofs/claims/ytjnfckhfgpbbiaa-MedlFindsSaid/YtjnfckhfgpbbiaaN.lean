/-
  The walk of MedlNexts: it returns true at every schedule, slot and node.
-/
import Derived.Test.YtjnfckhfgpbbiaaG
import Derived.Test.YtjnfckhfgpbbiaaR
namespace Go.Proofs.Ytjnfckhfgpbbiaa
open Go Go.RowKit
/-- Whose the slot is that is so much further on. -/
theorem own_ahead (K n m : Int) (h0 : 0 ≤ m) (h1 : m < n) : (K + (m - K % n)) % n = m := by
  have e : K + (m - K % n) = m + n * (K / n) := by
    have := Int.mul_ediv_add_emod K n
    omega
  rw [e, Int.add_mul_emod_self_left]
  exact Int.emod_eq_of_lt h0 h1
theorem own_again (K n m : Int) (h0 : 0 ≤ m) (h1 : m < n) : (K + (m - K % n + n)) % n = m := by
  have e : K + (m - K % n + n) = K + (m - K % n) + n := by omega
  rw [e, Int.add_emod_right]
  exact own_ahead K n m h0 h1
set_option maxRecDepth 100000 in
theorem nexts_bad (x : Md) (k K m : Int) (w : World) (hk : 0 ≤ k) (hK : k % 2147483648 = K) (h : ∀ w : World, Calls Try.prog 13 #[mv x, .int .u64 K, .int .i64 m] w fun e w' => e = .returned (.tuple #[.int .u64 0, .int .i64 1]) ∧ Below w.heap.size w w') : Calls Try.prog 6 #[mv x, .int .u64 k, .int .i64 m] w fun e w' => e = .returned (.bool true) ∧ Below w.heap.size w w' := by
  have HB := hid h
  clear h
  go_enter Try.func6, Try.ntmps6
  go_wp2_with (first
    | (refine wpList_ldm rfl (.tmp 3) rfl rfl v3 ?_)
    | (go_at_call 13; (with_reducible refine (HB.out w2).mono ?_); rintro e w3 ⟨rfl, b3⟩; have v3 := v2.keep b3; have B3 : Hid (Below w.heap.size w w3) := hid (B2.out.trans (b3.mono B2.out.size)); clear v2 b3)
    | (refine wpList_ldm rfl (.tmp 3) rfl rfl v2 ?_)
    | (go_at_call 8; (with_reducible refine (live_any w1).mono ?_); rintro e w2 ⟨rfl, b2⟩; have v2 := v1.keep b2; have B2 : Hid (Below w.heap.size w w2) := hid (B1.out.trans (b2.mono B1.out.size)); clear v1 b2)
    | (refine wpList_ldm rfl (.tmp 3) rfl rfl v1 ?_)
    | (refine wpList_boxm (x := x) rfl (.tmp 0) rfl rfl ?_; intro w1 v1 b1 s1; have B1 : Hid (Below w.heap.size w w1) := hid b1; clear b1 s1))
  go_ret
  exact ⟨rfl, B3.out⟩
set_option maxRecDepth 100000 in
set_option maxHeartbeats 1000000 in
theorem nexts_walk (n s l f d k K m O N : Int) (b : Bool) (w : World) (h : Ok ⟨n, s, l, f, d⟩) (hk : 0 ≤ k) (hK : k % 2147483648 = K) (_ : 0 ≤ K) (_ : K ≤ 4294967296)
    (n1 : ∀ w : World, Calls Try.prog 13 #[mv ⟨n, s, l, f, d⟩, .int .u64 K, .int .i64 m] w fun e w' => e = .returned (.tuple #[.int .u64 N, .int .i64 0]) ∧ Below w.heap.size w w') (n2 : ∀ w : World, Calls Try.prog 16 #[mv ⟨n, s, l, f, d⟩, .int .u64 N] w fun e w' => e = .returned (.tuple #[.int .i64 m, .int .i64 0]) ∧ Below w.heap.size w w') (n3 : ∀ w : World, Calls Try.prog 16 #[mv ⟨n, s, l, f, d⟩, .int .u64 K] w fun e w' => e = .returned (.tuple #[.int .i64 O, .int .i64 0]) ∧ Below w.heap.size w w') (n4 : ∀ w : World, Calls Try.prog 13 #[mv ⟨n, s, l, f, d⟩, .int .u64 N, .int .i64 m] w fun e w' => e = .returned (.tuple #[.int .u64 (N + n), .int .i64 0]) ∧ Below w.heap.size w w')
    (hN0 : 0 ≤ N) (hN1 : N ≤ 4294967296)
    (f1 : decide (K < N) = true) (f2 : decide (N ≤ K + n) = true) (f3 : (N == K + n) = b) (f4 : (O == m) = b) :
    Calls Try.prog 6 #[mv ⟨n, s, l, f, d⟩, .int .u64 k, .int .i64 m] w fun e w' => e = .returned (.bool true) ∧ Below w.heap.size w w' := by
  have H1 := hid n1
  have H2 := hid n2
  have H3 := hid n3
  have H4 := hid n4
  obtain ⟨h1, h2, h3, h4, h5, h6, h7, h8, h9⟩ := h
  simp only at h1 h2 h3 h4 h5 h6 h7 h8 h9
  clear n1 n2 n3 n4 h3 h4 h5 h6 h7 h8 h9
  go_enter Try.func6, Try.ntmps6
  go_wp2_with (first
    | (refine wpList_ldm rfl (.tmp 3) rfl rfl v6 ?_)
    | (go_at_call 13; (with_reducible refine (H4.out w5).mono ?_); rintro e w6 ⟨rfl, b6⟩; have v6 := v5.keep b6; have B6 : Hid (Below w.heap.size w w6) := hid (B5.out.trans (b6.mono B5.out.size)); clear v5 b6 c0; have c0 : w6.cell? ⟨w.heap.size, 0, none⟩ = some (.int .i64 n) := v6.c0)
    | (refine wpList_ldm rfl (.tmp 3) rfl rfl v5 ?_)
    | (go_at_call 16; (with_reducible refine (H3.out w4).mono ?_); rintro e w5 ⟨rfl, b5⟩; have v5 := v4.keep b5; have B5 : Hid (Below w.heap.size w w5) := hid (B4.out.trans (b5.mono B4.out.size)); clear v4 b5 c0; have c0 : w5.cell? ⟨w.heap.size, 0, none⟩ = some (.int .i64 n) := v5.c0)
    | (refine wpList_ldm rfl (.tmp 3) rfl rfl v4 ?_)
    | (go_at_call 16; (with_reducible refine (H2.out w3).mono ?_); rintro e w4 ⟨rfl, b4⟩; have v4 := v3.keep b4; have B4 : Hid (Below w.heap.size w w4) := hid (B3.out.trans (b4.mono B3.out.size)); clear v3 b4 c0; have c0 : w4.cell? ⟨w.heap.size, 0, none⟩ = some (.int .i64 n) := v4.c0)
    | (refine wpList_ldm rfl (.tmp 3) rfl rfl v3 ?_)
    | (go_at_call 13; (with_reducible refine (H1.out w2).mono ?_); rintro e w3 ⟨rfl, b3⟩; have v3 := v2.keep b3; have B3 : Hid (Below w.heap.size w w3) := hid (B2.out.trans (b3.mono B2.out.size)); clear v2 b3 c0; have c0 : w3.cell? ⟨w.heap.size, 0, none⟩ = some (.int .i64 n) := v3.c0)
    | (refine wpList_ldm rfl (.tmp 3) rfl rfl v2 ?_)
    | (go_at_call 8; (with_reducible refine (live_any w1).mono ?_); rintro e w2 ⟨rfl, b2⟩; have v2 := v1.keep b2; have B2 : Hid (Below w.heap.size w w2) := hid (B1.out.trans (b2.mono B1.out.size)); clear v1 b2 c0; have c0 : w2.cell? ⟨w.heap.size, 0, none⟩ = some (.int .i64 n) := v2.c0)
    | (refine wpList_ldm rfl (.tmp 3) rfl rfl v1 ?_)
    | (refine wpList_boxm (x := ⟨n, s, l, f, d⟩) rfl (.tmp 0) rfl rfl ?_; intro w1 v1 b1 s1; have B1 : Hid (Below w.heap.size w w1) := hid b1; have c0 : w1.cell? ⟨w.heap.size, 0, none⟩ = some (.int .i64 n) := v1.c0; clear b1 s1))
  go_ret
  exact ⟨ret_bool (by simp), B6.out⟩
theorem nexts_row {w : World} (n s l f d : Int) (_ : In64 n) (_ : In64 s) (_ : In64 l) (_ : In64 f) (_ : In64 d) (k : Int) (k1 : 0 ≤ k) (_ : k ≤ 18446744073709551615) (m : Int) (_ : -9223372036854775808 ≤ m) (_ : m ≤ 9223372036854775807) :
    Calls Try.prog 6 #[mv ⟨n, s, l, f, d⟩, .int .u64 k, .int .i64 m] w fun e w' => e = .returned (.bool true) ∧ Below w.heap.size w w' := by
  have hK0 : 0 ≤ k % 2147483648 ∧ k % 2147483648 ≤ 2147483647 := by omega
  by_cases h : Ok ⟨n, s, l, f, d⟩
  · by_cases hm : 0 ≤ m ∧ m < n
    · obtain ⟨hm0, hm1⟩ := hm
      have hh := h
      obtain ⟨h1, h2, _⟩ := hh
      simp only at h1 h2
      generalize hK : k % 2147483648 = K at *
      have o1 := Int.emod_nonneg K (show n ≠ 0 by omega)
      have o2 := Int.emod_lt_of_pos K (show 0 < n by omega)
      by_cases c : m - K % n ≤ 0
      · exact nexts_walk n s l f d k K m (K % n) (K + (m - K % n + n)) (K % n == m) w h k1 hK (by omega) (by omega)
          (fun w => next_own_ok n s l f d K m _ _ w h (by omega) (by omega) hm0 hm1 rfl c rfl (by omega))
          (fun w => own_ok n s l f d _ m w h (by omega) (by omega) (own_again K n m hm0 hm1))
          (fun w => own_ok n s l f d K _ w h (by omega) (by omega) rfl)
          (fun w => next_own_ok n s l f d _ m m _ w h (by omega) (by omega) hm0 hm1 (own_again K n m hm0 hm1) (by omega) (by omega) (by omega))
          (by omega) (by omega) (decide_eq_true (by omega)) (decide_eq_true (by omega)) (by rw [Bool.eq_iff_iff]; simp; omega) rfl
      · exact nexts_walk n s l f d k K m (K % n) (K + (m - K % n)) (K % n == m) w h k1 hK (by omega) (by omega)
          (fun w => next_ahead_ok n s l f d K m _ _ w h (by omega) (by omega) hm0 hm1 rfl (by omega) rfl (by omega))
          (fun w => own_ok n s l f d _ m w h (by omega) (by omega) (own_ahead K n m hm0 hm1))
          (fun w => own_ok n s l f d K _ w h (by omega) (by omega) rfl)
          (fun w => next_own_ok n s l f d _ m m _ w h (by omega) (by omega) hm0 hm1 (own_ahead K n m hm0 hm1) (by omega) (by omega) (by omega))
          (by omega) (by omega) (decide_eq_true (by omega)) (decide_eq_true (by omega)) (by rw [Bool.eq_iff_iff]; simp; omega) rfl
    · exact nexts_bad _ k _ m w k1 rfl (fun w => next_node n s l f d _ m w h (by omega) (by simp; omega))
  · exact nexts_bad _ k _ m w k1 rfl (fun w => next_bad _ _ m w (fun hh => h hh.1))
end Go.Proofs.Ytjnfckhfgpbbiaa
