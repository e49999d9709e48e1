/-
  The document's own answers: may, At, Off, Next: what each answers, at every schedule and number.
-/
import Derived.Test.YtjnfckhfgpbbiaaE
import Derived.Test.YtjnfckhfgpbbiaaD
namespace Go.Proofs.Ytjnfckhfgpbbiaa
open Go Go.RowKit
set_option maxRecDepth 100000 in
theorem rmay_any (x : Md) (k : Int) (w : World) (b : Bool) (hb : decide (Ok x ∧ k ≤ 4294967296) = b) : Calls Try.prog 24 #[mv x, .int .u64 k] w fun r w' => r = .returned (.bool b) ∧ Below w.heap.size w w' := by
  by_cases h : Ok x
  · have HC := hid (fun w => (okE_ok h ▸ rcheck_any x w : Calls Try.prog 21 #[mv x] w fun e w' => e = .returned (.int .i64 0) ∧ Below w.heap.size w w'))
    have hb' : decide (k ≤ 4294967296) = b := by rw [← hb]; simp [h]
    clear hb h
    go_enter Try.func24, Try.ntmps24
    go_wp2_with (first
      | (go_at_call 21; (with_reducible refine (HC.out w1).mono ?_); rintro e w2 ⟨rfl, b2⟩; have v2 := v1.keep b2; have B2 : Hid (Below w.heap.size w w2) := hid (b1.trans (b2.mono b1.size)); clear v1)
      | (refine wpList_ldm rfl (.tmp 2) rfl rfl v1 ?_)
      | (refine wpList_boxm (x := x) rfl (.tmp 0) rfl rfl ?_; intro w1 v1 b1 s1))
    go_ret
    exact ⟨ret_bool (by simp), B2.out⟩
  · have HC := hid (fun w => (okE_bad h ▸ rcheck_any x w : Calls Try.prog 21 #[mv x] w fun e w' => e = .returned (.int .i64 1) ∧ Below w.heap.size w w'))
    have hb' : false = b := by rw [← hb]; simp [h]
    subst hb'
    clear hb h
    go_enter Try.func24, Try.ntmps24
    go_wp2_with (first
      | (go_at_call 21; (with_reducible refine (HC.out w1).mono ?_); rintro e w2 ⟨rfl, b2⟩; have v2 := v1.keep b2; have B2 : Hid (Below w.heap.size w w2) := hid (b1.trans (b2.mono b1.size)); clear v1)
      | (refine wpList_ldm rfl (.tmp 2) rfl rfl v1 ?_)
      | (refine wpList_boxm (x := x) rfl (.tmp 0) rfl rfl ?_; intro w1 v1 b1 s1))
    go_ret
    exact ⟨rfl, B2.out⟩
theorem rat_bad (x : Md) (t : Int) (w : World) (h : ¬ Ok x) : Calls Try.prog 10 #[mv x, .int .i64 t] w fun r w' => r = .returned (.tuple #[.int .u64 0, .int .i64 0, .int .i64 1]) ∧ Below w.heap.size w w' := by
  have HC := hid (fun w => (okE_bad h ▸ rcheck_any x w : Calls Try.prog 21 #[mv x] w fun e w' => e = .returned (.int .i64 1) ∧ Below w.heap.size w w'))
  clear h
  go_enter Try.func10, Try.ntmps10
  go_wp2_with (first
    | (go_at_call 21; (with_reducible refine (HC.out w1).mono ?_); rintro e w2 ⟨rfl, b2⟩; have v2 := v1.keep b2; have B2 : Hid (Below w.heap.size w w2) := hid (b1.trans (b2.mono b1.size)); clear v1)
    | (refine wpList_ldm rfl (.tmp 2) rfl rfl v1 ?_)
    | (refine wpList_boxm (x := x) rfl (.tmp 0) rfl rfl ?_; intro w1 v1 b1 s1))
  go_ret3
  exact ⟨rfl, B2.out⟩
theorem rat_neg (n s l f d t : Int) (w : World) (h : Ok ⟨n, s, l, f, d⟩) (ht : t < 0) : Calls Try.prog 10 #[mv ⟨n, s, l, f, d⟩, .int .i64 t] w fun r w' => r = .returned (.tuple #[.int .u64 0, .int .i64 0, .int .i64 1]) ∧ Below w.heap.size w w' := by
  have HC := hid (fun w => (okE_ok h ▸ rcheck_any ⟨n, s, l, f, d⟩ w : Calls Try.prog 21 #[mv ⟨n, s, l, f, d⟩] w fun e w' => e = .returned (.int .i64 0) ∧ Below w.heap.size w w'))
  clear h
  go_enter Try.func10, Try.ntmps10
  go_wp2_with (first
    | (go_at_call 21; (with_reducible refine (HC.out w1).mono ?_); rintro e w2 ⟨rfl, b2⟩; have v2 := v1.keep b2; have B2 : Hid (Below w.heap.size w w2) := hid (b1.trans (b2.mono b1.size)); clear v1)
    | (refine wpList_ldm rfl (.tmp 2) rfl rfl v1 ?_)
    | (refine wpList_boxm (x := ⟨n, s, l, f, d⟩) rfl (.tmp 0) rfl rfl ?_; intro w1 v1 b1 s1))
  go_ret3
  exact ⟨rfl, B2.out⟩
theorem rat_over (n s l f d t q : Int) (w : World) (h : Ok ⟨n, s, l, f, d⟩) (ht : 0 ≤ t) (ht2 : t ≤ 9223372036854775807) (hq : t / s = q) (hq2 : 4294967296 < q) : Calls Try.prog 10 #[mv ⟨n, s, l, f, d⟩, .int .i64 t] w fun r w' => r = .returned (.tuple #[.int .u64 0, .int .i64 0, .int .i64 2]) ∧ Below w.heap.size w w' := by
  have HC := hid (fun w => (okE_ok h ▸ rcheck_any ⟨n, s, l, f, d⟩ w : Calls Try.prog 21 #[mv ⟨n, s, l, f, d⟩] w fun e w' => e = .returned (.int .i64 0) ∧ Below w.heap.size w w'))
  obtain ⟨h1, h2, h3, h4, h5, h6, h7, h8, h9⟩ := h
  simp only at h1 h2 h3 h4 h5 h6 h7 h8 h9
  go_enter Try.func10, Try.ntmps10
  go_wp2_with (first
    | (go_at_call 21; (with_reducible refine (HC.out w1).mono ?_); rintro e w2 ⟨rfl, b2⟩; have v2 := v1.keep b2; have B2 : Hid (Below w.heap.size w w2) := hid (b1.trans (b2.mono b1.size)); have c1 : w2.cell? ⟨w.heap.size, 1, none⟩ = some (.int .i64 s) := v2.c1; clear v1)
    | (refine wpList_ldm rfl (.tmp 2) rfl rfl v1 ?_)
    | (refine wpList_boxm (x := ⟨n, s, l, f, d⟩) rfl (.tmp 0) rfl rfl ?_; intro w1 v1 b1 s1))
  go_ret3
  exact ⟨rfl, B2.out⟩
theorem rat_ok (n s l f d t q r : Int) (w : World) (h : Ok ⟨n, s, l, f, d⟩) (ht : 0 ≤ t) (ht2 : t ≤ 9223372036854775807) (hq : t / s = q) (hr : t % s = r) (hq0 : 0 ≤ q) (hq2 : q ≤ 4294967296) : Calls Try.prog 10 #[mv ⟨n, s, l, f, d⟩, .int .i64 t] w fun e w' => e = .returned (.tuple #[.int .u64 q, .int .i64 r, .int .i64 0]) ∧ Below w.heap.size w w' := by
  have HC := hid (fun w => (okE_ok h ▸ rcheck_any ⟨n, s, l, f, d⟩ w : Calls Try.prog 21 #[mv ⟨n, s, l, f, d⟩] w fun e w' => e = .returned (.int .i64 0) ∧ Below w.heap.size w w'))
  obtain ⟨h1, h2, h3, h4, h5, h6, h7, h8, h9⟩ := h
  simp only at h1 h2 h3 h4 h5 h6 h7 h8 h9
  go_enter Try.func10, Try.ntmps10
  go_wp2_with (first
    | (go_at_call 21; (with_reducible refine (HC.out w1).mono ?_); rintro e w2 ⟨rfl, b2⟩; have v2 := v1.keep b2; have B2 : Hid (Below w.heap.size w w2) := hid (b1.trans (b2.mono b1.size)); have c1 : w2.cell? ⟨w.heap.size, 1, none⟩ = some (.int .i64 s) := v2.c1; clear v1)
    | (refine wpList_ldm rfl (.tmp 2) rfl rfl v1 ?_)
    | (refine wpList_boxm (x := ⟨n, s, l, f, d⟩) rfl (.tmp 0) rfl rfl ?_; intro w1 v1 b1 s1))
  go_region
  go_wp2
  go_ret3
  exact ⟨ret_three (by first | rfl | exact hq) hr rfl, B2.out.drew⟩
theorem roff_bad (x : Md) (t : Int) (w : World) (h : ¬ Ok x) : Calls Try.prog 12 #[mv x, .int .i64 t] w fun r w' => r = .returned (.tuple #[.int .i64 0, .bool false, .int .i64 1]) ∧ Below w.heap.size w w' := by
  have HC := hid (fun w => (okE_bad h ▸ rcheck_any x w : Calls Try.prog 21 #[mv x] w fun e w' => e = .returned (.int .i64 1) ∧ Below w.heap.size w w'))
  clear h
  go_enter Try.func12, Try.ntmps12
  go_wp2_with (first
    | (go_at_call 21; (with_reducible refine (HC.out w1).mono ?_); rintro e w2 ⟨rfl, b2⟩; have v2 := v1.keep b2; have B2 : Hid (Below w.heap.size w w2) := hid (b1.trans (b2.mono b1.size)); clear v1)
    | (refine wpList_ldm rfl (.tmp 2) rfl rfl v1 ?_)
    | (refine wpList_boxm (x := x) rfl (.tmp 0) rfl rfl ?_; intro w1 v1 b1 s1))
  go_ret3
  exact ⟨rfl, B2.out⟩
theorem roff_over (n s l f d t : Int) (w : World) (h : Ok ⟨n, s, l, f, d⟩) (ht : t < -9223372036854775808 + l) : Calls Try.prog 12 #[mv ⟨n, s, l, f, d⟩, .int .i64 t] w fun r w' => r = .returned (.tuple #[.int .i64 0, .bool false, .int .i64 2]) ∧ Below w.heap.size w w' := by
  have HC := hid (fun w => (okE_ok h ▸ rcheck_any ⟨n, s, l, f, d⟩ w : Calls Try.prog 21 #[mv ⟨n, s, l, f, d⟩] w fun e w' => e = .returned (.int .i64 0) ∧ Below w.heap.size w w'))
  obtain ⟨h1, h2, h3, h4, h5, h6, h7, h8, h9⟩ := h
  simp only at h1 h2 h3 h4 h5 h6 h7 h8 h9
  go_enter Try.func12, Try.ntmps12
  go_wp2_with (first
    | (go_at_call 21; (with_reducible refine (HC.out w1).mono ?_); rintro e w2 ⟨rfl, b2⟩; have v2 := v1.keep b2; have B2 : Hid (Below w.heap.size w w2) := hid (b1.trans (b2.mono b1.size)); have c2 : w2.cell? ⟨w.heap.size, 2, none⟩ = some (.int .i64 l) := v2.c2; clear v1)
    | (refine wpList_ldm rfl (.tmp 2) rfl rfl v1 ?_)
    | (refine wpList_boxm (x := ⟨n, s, l, f, d⟩) rfl (.tmp 0) rfl rfl ?_; intro w1 v1 b1 s1))
  go_ret3
  exact ⟨rfl, B2.out⟩
theorem roff_in (n s l f d t D : Int) (B : Bool) (w : World) (h : Ok ⟨n, s, l, f, d⟩) (ht : -9223372036854775808 + l ≤ t) (ht2 : t ≤ 9223372036854775807) (hD : t - l = D) (hd : decide (D ≤ d) = true) (hB : decide (-d ≤ D) = B) : Calls Try.prog 12 #[mv ⟨n, s, l, f, d⟩, .int .i64 t] w fun e w' => e = .returned (.tuple #[.int .i64 D, .bool B, .int .i64 0]) ∧ Below w.heap.size w w' := by
  have HC := hid (fun w => (okE_ok h ▸ rcheck_any ⟨n, s, l, f, d⟩ w : Calls Try.prog 21 #[mv ⟨n, s, l, f, d⟩] w fun e w' => e = .returned (.int .i64 0) ∧ Below w.heap.size w w'))
  obtain ⟨h1, h2, h3, h4, h5, h6, h7, h8, h9⟩ := h
  simp only at h1 h2 h3 h4 h5 h6 h7 h8 h9
  go_enter Try.func12, Try.ntmps12
  go_wp2_with (first
    | (go_at_call 21; (with_reducible refine (HC.out w1).mono ?_); rintro e w2 ⟨rfl, b2⟩; have v2 := v1.keep b2; have B2 : Hid (Below w.heap.size w w2) := hid (b1.trans (b2.mono b1.size)); have c2 : w2.cell? ⟨w.heap.size, 2, none⟩ = some (.int .i64 l) := v2.c2; have c4 : w2.cell? ⟨w.heap.size, 4, none⟩ = some (.int .i64 d) := v2.c4; clear v1)
    | (refine wpList_ldm rfl (.tmp 2) rfl rfl v1 ?_)
    | (refine wpList_boxm (x := ⟨n, s, l, f, d⟩) rfl (.tmp 0) rfl rfl ?_; intro w1 v1 b1 s1))
  go_region
  go_wp2
  go_ret3
  exact ⟨rfl, B2.out.drew⟩
theorem roff_late (n s l f d t D : Int) (w : World) (h : Ok ⟨n, s, l, f, d⟩) (ht : -9223372036854775808 + l ≤ t) (ht2 : t ≤ 9223372036854775807) (hD : t - l = D) (hd : decide (D ≤ d) = false) : Calls Try.prog 12 #[mv ⟨n, s, l, f, d⟩, .int .i64 t] w fun e w' => e = .returned (.tuple #[.int .i64 D, .bool false, .int .i64 0]) ∧ Below w.heap.size w w' := by
  have HC := hid (fun w => (okE_ok h ▸ rcheck_any ⟨n, s, l, f, d⟩ w : Calls Try.prog 21 #[mv ⟨n, s, l, f, d⟩] w fun e w' => e = .returned (.int .i64 0) ∧ Below w.heap.size w w'))
  obtain ⟨h1, h2, h3, h4, h5, h6, h7, h8, h9⟩ := h
  simp only at h1 h2 h3 h4 h5 h6 h7 h8 h9
  go_enter Try.func12, Try.ntmps12
  go_wp2_with (first
    | (go_at_call 21; (with_reducible refine (HC.out w1).mono ?_); rintro e w2 ⟨rfl, b2⟩; have v2 := v1.keep b2; have B2 : Hid (Below w.heap.size w w2) := hid (b1.trans (b2.mono b1.size)); have c2 : w2.cell? ⟨w.heap.size, 2, none⟩ = some (.int .i64 l) := v2.c2; have c4 : w2.cell? ⟨w.heap.size, 4, none⟩ = some (.int .i64 d) := v2.c4; clear v1)
    | (refine wpList_ldm rfl (.tmp 2) rfl rfl v1 ?_)
    | (refine wpList_boxm (x := ⟨n, s, l, f, d⟩) rfl (.tmp 0) rfl rfl ?_; intro w1 v1 b1 s1))
  go_region
  go_wp2
  go_ret3
  exact ⟨rfl, B2.out.drew⟩
theorem rnext_bad (x : Md) (k m : Int) (w : World) (h : ¬ (Ok x ∧ k ≤ 4294967296)) : Calls Try.prog 14 #[mv x, .int .u64 k, .int .i64 m] w fun r w' => r = .returned (.tuple #[.int .u64 0, .int .i64 1]) ∧ Below w.heap.size w w' := by
  have HC := hid (fun w => rmay_any x k w false (decide_eq_false h))
  clear h
  go_enter Try.func14, Try.ntmps14
  go_wp2_with (first
    | (go_at_call 24; (with_reducible refine (HC.out w1).mono ?_); rintro e w2 ⟨rfl, b2⟩; have v2 := v1.keep b2; have B2 : Hid (Below w.heap.size w w2) := hid (b1.trans (b2.mono b1.size)); clear v1)
    | (refine wpList_ldm rfl (.tmp 3) rfl rfl v1 ?_)
    | (refine wpList_boxm (x := x) rfl (.tmp 0) rfl rfl ?_; intro w1 v1 b1 s1))
  go_ret2
  exact ⟨rfl, B2.out⟩
theorem rnext_node (n s l f d k m : Int) (w : World) (h : Ok ⟨n, s, l, f, d⟩) (hk2 : k ≤ 4294967296) (hm : (decide (m < 0) || decide (n ≤ m)) = true) : Calls Try.prog 14 #[mv ⟨n, s, l, f, d⟩, .int .u64 k, .int .i64 m] w fun r w' => r = .returned (.tuple #[.int .u64 0, .int .i64 1]) ∧ Below w.heap.size w w' := by
  have HC := hid (fun w => rmay_any ⟨n, s, l, f, d⟩ k w true (decide_eq_true ⟨h, hk2⟩))
  clear h
  go_enter Try.func14, Try.ntmps14
  go_wp2_with (first
    | (go_at_call 24; (with_reducible refine (HC.out w1).mono ?_); rintro e w2 ⟨rfl, b2⟩; have v2 := v1.keep b2; have B2 : Hid (Below w.heap.size w w2) := hid (b1.trans (b2.mono b1.size)); have c0 : w2.cell? ⟨w.heap.size, 0, none⟩ = some (.int .i64 n) := v2.c0; clear v1)
    | (refine wpList_ldm rfl (.tmp 3) rfl rfl v1 ?_)
    | (refine wpList_boxm (x := ⟨n, s, l, f, d⟩) rfl (.tmp 0) rfl rfl ?_; intro w1 v1 b1 s1))
  all_goals
    go_ret2
    exact ⟨rfl, B2.out⟩
/-- Between a slot and a node's next one none is the node's. -/
theorem none_between (n m K N j : Int) (hN : N ≤ K + n) (hm : N % n = m) (h1 : K < j) (h2 : j < N) : ¬ j % n = m := by
  intro h
  have a := Int.emod_emod_of_dvd (N - j) (Int.dvd_refl n)
  have b : (N - j) % n = 0 := by rw [Int.sub_emod, hm, h, Int.sub_self, Int.zero_emod]
  have c := Int.emod_eq_of_lt (show 0 ≤ N - j by omega) (show N - j < n by omega)
  omega
set_option maxRecDepth 100000 in
theorem rnext_ok (n s l f d k m N : Int) (w : World) (h : Ok ⟨n, s, l, f, d⟩) (hk : 0 ≤ k) (hk2 : k ≤ 4294967296) (hm : 0 ≤ m) (hm2 : m < n) (hN0 : k < N) (hN1 : N ≤ k + n) (hNm : N % n = m) (hN2 : N ≤ 4294967296) : Calls Try.prog 14 #[mv ⟨n, s, l, f, d⟩, .int .u64 k, .int .i64 m] w fun r w' => r = .returned (.tuple #[.int .u64 N, .int .i64 0]) ∧ Below w.heap.size w w' := by
  have HC := hid (fun w => rmay_any ⟨n, s, l, f, d⟩ k w true (decide_eq_true ⟨h, hk2⟩))
  obtain ⟨h1, h2, h3, h4, h5, h6, h7, h8, h9⟩ := h
  simp only at h1 h2 h3 h4 h5 h6 h7 h8 h9
  have HM := hid hNm
  clear h3 h4 h5 h6 h7 h8 h9 hNm
  go_enter Try.func14, Try.ntmps14
  go_wp2_with (first
    | (go_at_call 24; (with_reducible refine (HC.out w1).mono ?_); rintro e w2 ⟨rfl, b2⟩; have v2 := v1.keep b2; have B2 : Hid (Below w.heap.size w w2) := hid (b1.trans (b2.mono b1.size)); have c0 : w2.cell? ⟨w.heap.size, 0, none⟩ = some (.int .i64 n) := v2.c0; clear v1)
    | (refine wpList_ldm rfl (.tmp 3) rfl rfl v1 ?_)
    | (refine wpList_boxm (x := ⟨n, s, l, f, d⟩) rfl (.tmp 0) rfl rfl ?_; intro w1 v1 b1 s1))
  clear HC v2
  go_loop [1] (fun i => ∃ j : Int, i = .int .u64 j ∧ k < j ∧ j ≤ N) (fun i => (N - intOf i).toNat)
  case atStart => exact ⟨k + 1, rfl, by omega, by omega⟩
  case round =>
    obtain ⟨j, rfl, j1, j2⟩ := hrel
    by_cases hj : j = N
    · subst hj
      have e := HM.out
      have e1 : (j % n != m) = false := by simp [e]
      have o1 : 0 ≤ j % n ∧ j % n ≤ 16 := by rw [e]; omega
      have e' := hid e
      clear e
      go_wp2
      go_ret2
      exact ⟨rfl, B2.out⟩
    · have o1 := Int.emod_nonneg j (show n ≠ 0 by omega)
      have o2 := Int.emod_lt_of_pos j (show 0 < n by omega)
      have e1 : (j % n != m) = true := by
        have := none_between n m k N j hN1 HM.out j1 (by omega)
        simpa using this
      go_wp2
      go_round
      case rel => exact ⟨j + 1, rfl, by omega, by omega⟩
      case measure => simp [intOf]; omega
set_option maxRecDepth 100000 in
theorem rnext_over (n s l f d k m N : Int) (w : World) (h : Ok ⟨n, s, l, f, d⟩) (hk : 0 ≤ k) (hk2 : k ≤ 4294967296) (hm : 0 ≤ m) (hm2 : m < n) (hN0 : k < N) (hN1 : N ≤ k + n) (hNm : N % n = m) (hN2 : 4294967296 < N) : Calls Try.prog 14 #[mv ⟨n, s, l, f, d⟩, .int .u64 k, .int .i64 m] w fun r w' => r = .returned (.tuple #[.int .u64 0, .int .i64 2]) ∧ Below w.heap.size w w' := by
  have HC := hid (fun w => rmay_any ⟨n, s, l, f, d⟩ k w true (decide_eq_true ⟨h, hk2⟩))
  obtain ⟨h1, h2, h3, h4, h5, h6, h7, h8, h9⟩ := h
  simp only at h1 h2 h3 h4 h5 h6 h7 h8 h9
  have HM := hid hNm
  clear h3 h4 h5 h6 h7 h8 h9 hNm
  go_enter Try.func14, Try.ntmps14
  go_wp2_with (first
    | (go_at_call 24; (with_reducible refine (HC.out w1).mono ?_); rintro e w2 ⟨rfl, b2⟩; have v2 := v1.keep b2; have B2 : Hid (Below w.heap.size w w2) := hid (b1.trans (b2.mono b1.size)); have c0 : w2.cell? ⟨w.heap.size, 0, none⟩ = some (.int .i64 n) := v2.c0; clear v1)
    | (refine wpList_ldm rfl (.tmp 3) rfl rfl v1 ?_)
    | (refine wpList_boxm (x := ⟨n, s, l, f, d⟩) rfl (.tmp 0) rfl rfl ?_; intro w1 v1 b1 s1))
  clear HC v2
  go_loop [1] (fun i => ∃ j : Int, i = .int .u64 j ∧ k < j ∧ j ≤ N) (fun i => (N - intOf i).toNat)
  case atStart => exact ⟨k + 1, rfl, by omega, by omega⟩
  case round =>
    obtain ⟨j, rfl, j1, j2⟩ := hrel
    by_cases hj : j = N
    · subst hj
      have e := HM.out
      have e1 : (j % n != m) = false := by simp [e]
      have o1 : 0 ≤ j % n ∧ j % n ≤ 16 := by rw [e]; omega
      have e' := hid e
      clear e
      go_wp2
      go_ret2
      exact ⟨rfl, B2.out⟩
    · have o1 := Int.emod_nonneg j (show n ≠ 0 by omega)
      have o2 := Int.emod_lt_of_pos j (show 0 < n by omega)
      have e1 : (j % n != m) = true := by
        have := none_between n m k N j hN1 HM.out j1 (by omega)
        simpa using this
      go_wp2
      go_round
      case rel => exact ⟨j + 1, rfl, by omega, by omega⟩
      case measure => simp [intOf]; omega
end Go.Proofs.Ytjnfckhfgpbbiaa
