/-
  medl.Next and guard.Opens: what they answer, at every argument.
-/
import Derived.Test.YtpncbfhbiifncaaPS
namespace Go.Proofs.Ytpncbfhbiifncaa
open Go Go.RowKit
/-- Whose the slot is that is so much further on. -/
theorem own_ahead (K n m : Int) (h0 : 0 ≤ m) (h1 : m < n) : (K + (m - K % n)) % n = m := by
  have e : K + (m - K % n) = m + n * (K / n) := by
    have := Int.mul_ediv_add_emod K n
    omega
  rw [e, Int.add_mul_emod_self_left]
  exact Int.emod_eq_of_lt h0 h1
theorem own_again (K n m : Int) (h0 : 0 ≤ m) (h1 : m < n) : (K + (m - K % n + n)) % n = m := by
  have e : K + (m - K % n + n) = K + (m - K % n) + n := by omega
  rw [e, Int.add_emod_right]
  exact own_ahead K n m h0 h1
/-- How far a node's next slot is. -/
def far (n k q : Int) : Int := if q - k % n ≤ 0 then q - k % n + n else q - k % n
theorem far_in (n k q : Int) (hn : 2 ≤ n) (h0 : 0 ≤ q) (h1 : q < n) : 1 ≤ far n k q ∧ far n k q ≤ n ∧ (k + far n k q) % n = q := by
  have o1 := Int.emod_nonneg k (show n ≠ 0 by omega)
  have o2 := Int.emod_lt_of_pos k (show 0 < n by omega)
  unfold far
  split
  · exact ⟨by omega, by omega, own_again k n q h0 h1⟩
  · exact ⟨by omega, by omega, own_ahead k n q h0 h1⟩
theorem next_yes (m : Md) (k q : Int) (w : World) (h : Ok m) (hk : 0 ≤ k) (hk2 : k ≤ 4294967296) (hq : 0 ≤ q) (hq2 : q < m.n) (hF : k + far m.n k q ≤ 4294967296) : Calls Try.prog 18 #[mv m, .int .u64 k, .int .i64 q] w fun r w' => r = .returned (.tuple #[.int .u64 (k + far m.n k q), .int .i64 0]) ∧ Below w.heap.size w w' := by
  obtain ⟨n, s, l, f, d⟩ := m
  simp only at hq2 hF ⊢
  by_cases c : q - k % n ≤ 0
  · rw [show far n k q = q - k % n + n from if_pos c] at hF ⊢
    exact next_own_ok n s l f d k q _ _ w h hk hk2 hq hq2 rfl c rfl hF
  · rw [show far n k q = q - k % n from if_neg c] at hF ⊢
    exact next_ahead_ok n s l f d k q _ _ w h hk hk2 hq hq2 rfl (by omega) rfl hF
theorem next_no (m : Md) (k q : Int) (w : World) (h : Ok m) (hk : 0 ≤ k) (hk2 : k ≤ 4294967296) (hq : 0 ≤ q) (hq2 : q < m.n) (hF : 4294967296 < k + far m.n k q) : Calls Try.prog 18 #[mv m, .int .u64 k, .int .i64 q] w fun r w' => r = .returned (.tuple #[.int .u64 0, .int .i64 2]) ∧ Below w.heap.size w w' := by
  obtain ⟨n, s, l, f, d⟩ := m
  simp only at hq2 hF ⊢
  by_cases c : q - k % n ≤ 0
  · rw [show far n k q = q - k % n + n from if_pos c] at hF
    exact next_own_over n s l f d k q _ _ w h hk hk2 hq hq2 rfl c rfl hF
  · rw [show far n k q = q - k % n from if_neg c] at hF
    exact next_ahead_over n s l f d k q _ _ w h hk hk2 hq hq2 rfl (by omega) rfl hF
theorem opens_unfit (g : Gd) (m : Md) (p q : Int) (w : World) (h : decide (Fit g m p q) = false) :
    Calls Try.prog 8 #[gv g, mv m, .int .i64 p, .int .i64 q] w fun e w' => e = .returned (.tuple #[.int .i64 0, .int .i64 0, .int .i64 1]) ∧ Below w.heap.size w w' := by
  have HF := hid (fun w => (show Calls Try.prog 16 #[gv g, mv m, .int .i64 p, .int .i64 q] w fun e w' => e = .returned (.bool false) ∧ Below w.heap.size w w' from by have hf := fits_any g m p q w; rw [h] at hf; exact hf))
  clear h
  go_enter Try.func8, Try.ntmps8
  go_wp2_with (first
    | (go_at_call 16; (with_reducible refine (HF.out w2).mono ?_); rintro e w3 ⟨rfl, b3⟩; have vm3 := vm2.keep b3; have vg3 := vg2.keep b3; have B3 : Hid (Below w.heap.size w w3) := hid (B2.out.trans (b3.mono B2.out.size)); clear b3 vm2 vg2)
    | (refine wpList_ldm rfl (.tmp 5) rfl rfl vm2 ?_)
    | (refine wpList_ldg rfl (.tmp 4) rfl rfl vg2 ?_)
    | (refine wpList_boxm (x := m) rfl (.tmp 1) rfl rfl ?_; intro w2 vm2 b2 s2; have vg2 := vg1.keep b2; have B2 : Hid (Below w.heap.size w w2) := hid (b1.trans (b2.mono b1.size)); clear b2 s2 vg1)
    | (refine wpList_boxg (x := g) rfl (.tmp 0) rfl rfl ?_; intro w1 vg1 b1 s1))
  go_ret3
  exact ⟨rfl, B3.out⟩
theorem opens_cold (go gk : Bool) (gs ga : Int) (m : Md) (p q : Int) (w : World) (h : decide (Fit ⟨go, gk, gs, ga⟩ m p q) = true) (hk : knB ⟨go, gk, gs, ga⟩ = false) :
    Calls Try.prog 8 #[gv ⟨go, gk, gs, ga⟩, mv m, .int .i64 p, .int .i64 q] w fun e w' => e = .returned (.tuple #[.int .i64 0, .int .i64 0, .int .i64 1]) ∧ Below w.heap.size w w' := by
  have HF := hid (fun w => (show Calls Try.prog 16 #[gv ⟨go, gk, gs, ga⟩, mv m, .int .i64 p, .int .i64 q] w fun e w' => e = .returned (.bool true) ∧ Below w.heap.size w w' from by have hf := fits_any ⟨go, gk, gs, ga⟩ m p q w; rw [h] at hf; exact hf))
  have HK := hid (fun w => (show Calls Try.prog 17 #[gv ⟨go, gk, gs, ga⟩] w fun e w' => e = .returned (.bool false) ∧ Below w.heap.size w w' from by have hf := knows_any ⟨go, gk, gs, ga⟩ w; rw [hk] at hf; exact hf))
  clear h hk
  go_enter Try.func8, Try.ntmps8
  go_wp2_with (first
    | (go_at_call 17; (with_reducible refine (HK.out w3).mono ?_); rintro e w4 ⟨rfl, b4⟩; have vm4 := vm3.keep b4; have vg4 := vg3.keep b4; have c2 : w4.cell? ⟨w.heap.size, 2, none⟩ = some (.int .u64 gs) := vg4.c2; have B4 : Hid (Below w.heap.size w w4) := hid (B3.out.trans (b4.mono B3.out.size)); clear b4 vm3 vg3)
    | (refine wpList_ldg rfl (.tmp 4) rfl rfl vg3 ?_)
    | (go_at_call 16; (with_reducible refine (HF.out w2).mono ?_); rintro e w3 ⟨rfl, b3⟩; have vm3 := vm2.keep b3; have vg3 := vg2.keep b3; have B3 : Hid (Below w.heap.size w w3) := hid (B2.out.trans (b3.mono B2.out.size)); clear b3 vm2 vg2)
    | (refine wpList_ldm rfl (.tmp 5) rfl rfl vm2 ?_)
    | (refine wpList_ldg rfl (.tmp 4) rfl rfl vg2 ?_)
    | (refine wpList_boxm (x := m) rfl (.tmp 1) rfl rfl ?_; intro w2 vm2 b2 s2; have vg2 := vg1.keep b2; have B2 : Hid (Below w.heap.size w w2) := hid (b1.trans (b2.mono b1.size)); clear b2 s2 vg1)
    | (refine wpList_boxg (x := ⟨go, gk, gs, ga⟩) rfl (.tmp 0) rfl rfl ?_; intro w1 vg1 b1 s1))
  go_ret3
  exact ⟨rfl, B4.out⟩
theorem opens_last (go gk : Bool) (gs ga : Int) (n s l f d : Int) (p q : Int) (w : World) (h : decide (Fit ⟨go, gk, gs, ga⟩ ⟨n, s, l, f, d⟩ p q) = true) (hk : knB ⟨go, gk, gs, ga⟩ = true)
    (N1 : ∀ w : World, Calls Try.prog 18 #[mv ⟨n, s, l, f, d⟩, .int .u64 gs, .int .i64 q] w fun r w' => r = .returned (.tuple #[.int .u64 0, .int .i64 2]) ∧ Below w.heap.size w w') :
    Calls Try.prog 8 #[gv ⟨go, gk, gs, ga⟩, mv ⟨n, s, l, f, d⟩, .int .i64 p, .int .i64 q] w fun e w' => e = .returned (.tuple #[.int .i64 0, .int .i64 0, .int .i64 2]) ∧ Below w.heap.size w w' := by
  have HF := hid (fun w => (show Calls Try.prog 16 #[gv ⟨go, gk, gs, ga⟩, mv ⟨n, s, l, f, d⟩, .int .i64 p, .int .i64 q] w fun e w' => e = .returned (.bool true) ∧ Below w.heap.size w w' from by have hf := fits_any ⟨go, gk, gs, ga⟩ ⟨n, s, l, f, d⟩ p q w; rw [h] at hf; exact hf))
  have HK := hid (fun w => (show Calls Try.prog 17 #[gv ⟨go, gk, gs, ga⟩] w fun e w' => e = .returned (.bool true) ∧ Below w.heap.size w w' from by have hf := knows_any ⟨go, gk, gs, ga⟩ w; rw [hk] at hf; exact hf))
  have HN := hid N1
  clear h hk N1
  go_enter Try.func8, Try.ntmps8
  go_wp2_with (first
    | (go_at_call 18; (with_reducible refine (HN.out w4).mono ?_); rintro e w5 ⟨rfl, b5⟩; have vm5 := vm4.keep b5; have vg5 := vg4.keep b5; have d2 : w5.cell? ⟨w.heap.size, 2, none⟩ = some (.int .u64 gs) := vg5.c2; have d3 : w5.cell? ⟨w.heap.size, 3, none⟩ = some (.int .i64 ga) := vg5.c3; have e1 : w5.cell? ⟨w1.heap.size, 1, none⟩ = some (.int .i64 s) := vm5.c1; have e2 : w5.cell? ⟨w1.heap.size, 2, none⟩ = some (.int .i64 l) := vm5.c2; have e4 : w5.cell? ⟨w1.heap.size, 4, none⟩ = some (.int .i64 d) := vm5.c4; have B5 : Hid (Below w.heap.size w w5) := hid (B4.out.trans (b5.mono B4.out.size)); clear b5 vm4 vg4 c2)
    | (refine wpList_ldm rfl (.tmp 5) rfl rfl vm4 ?_)
    | (go_at_call 17; (with_reducible refine (HK.out w3).mono ?_); rintro e w4 ⟨rfl, b4⟩; have vm4 := vm3.keep b4; have vg4 := vg3.keep b4; have c2 : w4.cell? ⟨w.heap.size, 2, none⟩ = some (.int .u64 gs) := vg4.c2; have B4 : Hid (Below w.heap.size w w4) := hid (B3.out.trans (b4.mono B3.out.size)); clear b4 vm3 vg3)
    | (refine wpList_ldg rfl (.tmp 4) rfl rfl vg3 ?_)
    | (go_at_call 16; (with_reducible refine (HF.out w2).mono ?_); rintro e w3 ⟨rfl, b3⟩; have vm3 := vm2.keep b3; have vg3 := vg2.keep b3; have B3 : Hid (Below w.heap.size w w3) := hid (B2.out.trans (b3.mono B2.out.size)); clear b3 vm2 vg2)
    | (refine wpList_ldm rfl (.tmp 5) rfl rfl vm2 ?_)
    | (refine wpList_ldg rfl (.tmp 4) rfl rfl vg2 ?_)
    | (refine wpList_boxm (x := ⟨n, s, l, f, d⟩) rfl (.tmp 1) rfl rfl ?_; intro w2 vm2 b2 s2; have vg2 := vg1.keep b2; have B2 : Hid (Below w.heap.size w w2) := hid (b1.trans (b2.mono b1.size)); clear b2 s2 vg1)
    | (refine wpList_boxg (x := ⟨go, gk, gs, ga⟩) rfl (.tmp 0) rfl rfl ?_; intro w1 vg1 b1 s1))
  go_ret3
  exact ⟨rfl, B5.out⟩
set_option maxHeartbeats 1000000 in
theorem opens_over (go gk : Bool) (gs ga : Int) (n s l f d : Int) (p q N K P F T W : Int) (w : World) (h : decide (Fit ⟨go, gk, gs, ga⟩ ⟨n, s, l, f, d⟩ p q) = true) (hk : knB ⟨go, gk, gs, ga⟩ = true)
    (N1 : ∀ w : World, Calls Try.prog 18 #[mv ⟨n, s, l, f, d⟩, .int .u64 gs, .int .i64 q] w fun r w' => r = .returned (.tuple #[.int .u64 N, .int .i64 0]) ∧ Below w.heap.size w w')
    (hN : N - gs = K) (K0 : 0 ≤ K) (K1 : K ≤ 16) (hP : K * s = P) (P0 : 0 ≤ P) (P1 : P ≤ 16777216) (l0 : 0 ≤ l) (l1 : l ≤ 1048576) (hF : P + l = F) (hT : F * p = T) (T0 : 0 ≤ T) (T1 : T ≤ 36028797018963968) (hW : d * p = W) (W0 : 0 ≤ W) (W1 : W ≤ 1048576000000000)
    (A1 : ∀ w : World, Calls Try.prog 20 #[.int .i64 ga, .int .i64 (T + W)] w fun e w' => e = .returned (.tuple #[.int .i64 0, .int .i64 2]) ∧ Below w.heap.size w w') :
    Calls Try.prog 8 #[gv ⟨go, gk, gs, ga⟩, mv ⟨n, s, l, f, d⟩, .int .i64 p, .int .i64 q] w fun e w' => e = .returned (.tuple #[.int .i64 0, .int .i64 0, .int .i64 2]) ∧ Below w.heap.size w w' := by
  have HF := hid (fun w => (show Calls Try.prog 16 #[gv ⟨go, gk, gs, ga⟩, mv ⟨n, s, l, f, d⟩, .int .i64 p, .int .i64 q] w fun e w' => e = .returned (.bool true) ∧ Below w.heap.size w w' from by have hf := fits_any ⟨go, gk, gs, ga⟩ ⟨n, s, l, f, d⟩ p q w; rw [h] at hf; exact hf))
  have HK := hid (fun w => (show Calls Try.prog 17 #[gv ⟨go, gk, gs, ga⟩] w fun e w' => e = .returned (.bool true) ∧ Below w.heap.size w w' from by have hf := knows_any ⟨go, gk, gs, ga⟩ w; rw [hk] at hf; exact hf))
  have HN := hid N1
  have HA := hid A1
  have u1 : IntKind.u64.wrap (N - gs) = K := by rw [hN, IntKind.wrap_u64]; omega
  have u2 : IntKind.i64.wrap K = K := by rw [IntKind.wrap_i64]; omega
  have u3 : IntKind.i64.wrap (K * s) = P := wrap_in hP (by omega) (by omega)
  have u4 : IntKind.i64.wrap (P + l) = F := by rw [hF, IntKind.wrap_i64]; omega
  have HT := hid (fun w => ticks_any F p T w (wrap_in hT (by omega) (by omega)))
  have HW := hid (fun w => ticks_any d p W w (wrap_in hW (by omega) (by omega)))
  clear h hk N1 A1 hN hP hF hT hW
  go_enter Try.func8, Try.ntmps8
  go_wp2_with (first
    | (go_at_call 20; (with_reducible refine (HA.out w5).mono ?_); rintro e w6 ⟨rfl, b6⟩; have B6 : Hid (Below w.heap.size w w6) := hid (B5.out.trans (b6.mono B5.out.size)); clear b6)
    | (go_at_call 19; (with_reducible refine (HW.out w5).mono ?_); rintro e w' ⟨rfl, e9⟩; rw [e9]; clear e9 w')
    | (go_at_call 19; (with_reducible refine (HT.out w5).mono ?_); rintro e w' ⟨rfl, e9⟩; rw [e9]; clear e9 w')
    | (go_at_call 18; (with_reducible refine (HN.out w4).mono ?_); rintro e w5 ⟨rfl, b5⟩; have vm5 := vm4.keep b5; have vg5 := vg4.keep b5; have d2 : w5.cell? ⟨w.heap.size, 2, none⟩ = some (.int .u64 gs) := vg5.c2; have d3 : w5.cell? ⟨w.heap.size, 3, none⟩ = some (.int .i64 ga) := vg5.c3; have e1 : w5.cell? ⟨w1.heap.size, 1, none⟩ = some (.int .i64 s) := vm5.c1; have e2 : w5.cell? ⟨w1.heap.size, 2, none⟩ = some (.int .i64 l) := vm5.c2; have e4 : w5.cell? ⟨w1.heap.size, 4, none⟩ = some (.int .i64 d) := vm5.c4; have B5 : Hid (Below w.heap.size w w5) := hid (B4.out.trans (b5.mono B4.out.size)); clear b5 vm4 vg4 c2)
    | (refine wpList_ldm rfl (.tmp 5) rfl rfl vm4 ?_)
    | (go_at_call 17; (with_reducible refine (HK.out w3).mono ?_); rintro e w4 ⟨rfl, b4⟩; have vm4 := vm3.keep b4; have vg4 := vg3.keep b4; have c2 : w4.cell? ⟨w.heap.size, 2, none⟩ = some (.int .u64 gs) := vg4.c2; have B4 : Hid (Below w.heap.size w w4) := hid (B3.out.trans (b4.mono B3.out.size)); clear b4 vm3 vg3)
    | (refine wpList_ldg rfl (.tmp 4) rfl rfl vg3 ?_)
    | (go_at_call 16; (with_reducible refine (HF.out w2).mono ?_); rintro e w3 ⟨rfl, b3⟩; have vm3 := vm2.keep b3; have vg3 := vg2.keep b3; have B3 : Hid (Below w.heap.size w w3) := hid (B2.out.trans (b3.mono B2.out.size)); clear b3 vm2 vg2)
    | (refine wpList_ldm rfl (.tmp 5) rfl rfl vm2 ?_)
    | (refine wpList_ldg rfl (.tmp 4) rfl rfl vg2 ?_)
    | (refine wpList_boxm (x := ⟨n, s, l, f, d⟩) rfl (.tmp 1) rfl rfl ?_; intro w2 vm2 b2 s2; have vg2 := vg1.keep b2; have B2 : Hid (Below w.heap.size w w2) := hid (b1.trans (b2.mono b1.size)); clear b2 s2 vg1)
    | (refine wpList_boxg (x := ⟨go, gk, gs, ga⟩) rfl (.tmp 0) rfl rfl ?_; intro w1 vg1 b1 s1))
  go_ret3
  exact ⟨rfl, B6.out⟩
set_option maxHeartbeats 1000000 in
theorem opens_ok (go gk : Bool) (gs ga : Int) (n s l f d : Int) (p q N K P F T W Y : Int) (w : World) (h : decide (Fit ⟨go, gk, gs, ga⟩ ⟨n, s, l, f, d⟩ p q) = true) (hk : knB ⟨go, gk, gs, ga⟩ = true)
    (N1 : ∀ w : World, Calls Try.prog 18 #[mv ⟨n, s, l, f, d⟩, .int .u64 gs, .int .i64 q] w fun r w' => r = .returned (.tuple #[.int .u64 N, .int .i64 0]) ∧ Below w.heap.size w w')
    (hN : N - gs = K) (K0 : 0 ≤ K) (K1 : K ≤ 16) (hP : K * s = P) (P0 : 0 ≤ P) (P1 : P ≤ 16777216) (l0 : 0 ≤ l) (l1 : l ≤ 1048576) (hF : P + l = F) (hT : F * p = T) (T0 : 0 ≤ T) (T1 : T ≤ 36028797018963968) (hW : d * p = W) (W0 : 0 ≤ W) (W1 : W ≤ 1048576000000000)
    (A1 : ∀ w : World, Calls Try.prog 20 #[.int .i64 ga, .int .i64 (T + W)] w fun e w' => e = .returned (.tuple #[.int .i64 Y, .int .i64 0]) ∧ Below w.heap.size w w') (Y0 : -1152921504606846976 ≤ Y) (Y1 : Y ≤ 1152921504606846976) :
    Calls Try.prog 8 #[gv ⟨go, gk, gs, ga⟩, mv ⟨n, s, l, f, d⟩, .int .i64 p, .int .i64 q] w fun e w' => e = .returned (.tuple #[.int .i64 (Y - 2 * W), .int .i64 Y, .int .i64 0]) ∧ Below w.heap.size w w' := by
  have HF := hid (fun w => (show Calls Try.prog 16 #[gv ⟨go, gk, gs, ga⟩, mv ⟨n, s, l, f, d⟩, .int .i64 p, .int .i64 q] w fun e w' => e = .returned (.bool true) ∧ Below w.heap.size w w' from by have hf := fits_any ⟨go, gk, gs, ga⟩ ⟨n, s, l, f, d⟩ p q w; rw [h] at hf; exact hf))
  have HK := hid (fun w => (show Calls Try.prog 17 #[gv ⟨go, gk, gs, ga⟩] w fun e w' => e = .returned (.bool true) ∧ Below w.heap.size w w' from by have hf := knows_any ⟨go, gk, gs, ga⟩ w; rw [hk] at hf; exact hf))
  have HN := hid N1
  have HA := hid A1
  have u1 : IntKind.u64.wrap (N - gs) = K := by rw [hN, IntKind.wrap_u64]; omega
  have u2 : IntKind.i64.wrap K = K := by rw [IntKind.wrap_i64]; omega
  have u3 : IntKind.i64.wrap (K * s) = P := wrap_in hP (by omega) (by omega)
  have u4 : IntKind.i64.wrap (P + l) = F := by rw [hF, IntKind.wrap_i64]; omega
  have HT := hid (fun w => ticks_any F p T w (wrap_in hT (by omega) (by omega)))
  have HW := hid (fun w => ticks_any d p W w (wrap_in hW (by omega) (by omega)))
  clear h hk N1 A1 hN hP hF hT hW
  go_enter Try.func8, Try.ntmps8
  go_wp2_with (first
    | (go_at_call 20; (with_reducible refine (HA.out w5).mono ?_); rintro e w6 ⟨rfl, b6⟩; have B6 : Hid (Below w.heap.size w w6) := hid (B5.out.trans (b6.mono B5.out.size)); clear b6)
    | (go_at_call 19; (with_reducible refine (HW.out w5).mono ?_); rintro e w' ⟨rfl, e9⟩; rw [e9]; clear e9 w')
    | (go_at_call 19; (with_reducible refine (HT.out w5).mono ?_); rintro e w' ⟨rfl, e9⟩; rw [e9]; clear e9 w')
    | (go_at_call 18; (with_reducible refine (HN.out w4).mono ?_); rintro e w5 ⟨rfl, b5⟩; have vm5 := vm4.keep b5; have vg5 := vg4.keep b5; have d2 : w5.cell? ⟨w.heap.size, 2, none⟩ = some (.int .u64 gs) := vg5.c2; have d3 : w5.cell? ⟨w.heap.size, 3, none⟩ = some (.int .i64 ga) := vg5.c3; have e1 : w5.cell? ⟨w1.heap.size, 1, none⟩ = some (.int .i64 s) := vm5.c1; have e2 : w5.cell? ⟨w1.heap.size, 2, none⟩ = some (.int .i64 l) := vm5.c2; have e4 : w5.cell? ⟨w1.heap.size, 4, none⟩ = some (.int .i64 d) := vm5.c4; have B5 : Hid (Below w.heap.size w w5) := hid (B4.out.trans (b5.mono B4.out.size)); clear b5 vm4 vg4 c2)
    | (refine wpList_ldm rfl (.tmp 5) rfl rfl vm4 ?_)
    | (go_at_call 17; (with_reducible refine (HK.out w3).mono ?_); rintro e w4 ⟨rfl, b4⟩; have vm4 := vm3.keep b4; have vg4 := vg3.keep b4; have c2 : w4.cell? ⟨w.heap.size, 2, none⟩ = some (.int .u64 gs) := vg4.c2; have B4 : Hid (Below w.heap.size w w4) := hid (B3.out.trans (b4.mono B3.out.size)); clear b4 vm3 vg3)
    | (refine wpList_ldg rfl (.tmp 4) rfl rfl vg3 ?_)
    | (go_at_call 16; (with_reducible refine (HF.out w2).mono ?_); rintro e w3 ⟨rfl, b3⟩; have vm3 := vm2.keep b3; have vg3 := vg2.keep b3; have B3 : Hid (Below w.heap.size w w3) := hid (B2.out.trans (b3.mono B2.out.size)); clear b3 vm2 vg2)
    | (refine wpList_ldm rfl (.tmp 5) rfl rfl vm2 ?_)
    | (refine wpList_ldg rfl (.tmp 4) rfl rfl vg2 ?_)
    | (refine wpList_boxm (x := ⟨n, s, l, f, d⟩) rfl (.tmp 1) rfl rfl ?_; intro w2 vm2 b2 s2; have vg2 := vg1.keep b2; have B2 : Hid (Below w.heap.size w w2) := hid (b1.trans (b2.mono b1.size)); clear b2 s2 vg1)
    | (refine wpList_boxg (x := ⟨go, gk, gs, ga⟩) rfl (.tmp 0) rfl rfl ?_; intro w1 vg1 b1 s1))
  go_ret3
  exact ⟨rfl, B6.out⟩
end Go.Proofs.Ytpncbfhbiifncaa
