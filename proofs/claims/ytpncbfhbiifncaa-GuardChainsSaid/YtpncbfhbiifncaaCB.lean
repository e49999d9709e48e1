/-
  The walk of GuardChains: the loop.
-/
import Derived.Test.YtpncbfhbiifncaaCA
import Derived.Test.YtpncbfhbiifncaaPN
namespace Go.Proofs.Ytpncbfhbiifncaa
open Go Go.RowKit
theorem tmod_in (z V : Int) (hV : 0 < V) : -V < z.tmod V ∧ z.tmod V < V ∧ (0 ≤ z → 0 ≤ z.tmod V) := by
  have e1 := Int.emod_nonneg z (show V ≠ 0 by omega)
  have e2 := Int.emod_lt_of_pos z hV
  rw [Int.tmod_eq_emod]
  split
  · exact ⟨by omega, by omega, fun _ => by omega⟩
  · exact ⟨by omega, by omega, fun h => by simp_all⟩
def ChRel (S0 : Int) (m : Md) (nn gm : Nat) (w : World) (i : Value) (wr : World) : Prop :=
  ∃ (j : Nat) (A : Int), i = .int .i64 (j : Int) ∧ j ≤ nn ∧ 0 ≤ A ∧ A ≤ 1125899906842624 + (j : Int) * 4294967296 ∧ VarG wr w.heap.size ⟨true, true, S0 + (j : Int), A⟩ ∧ VarM wr gm m ∧ Below w.heap.size w wr
set_option maxRecDepth 100000 in
set_option maxHeartbeats 4000000 in
theorem chains_walk (o : Bool) (s a n ms l f d p L LL W : Int) (A : Option Addr) (nn c : Nat) (vs : List Value) (w : World) (h : Ok ⟨n, ms, l, f, d⟩) (p1 : 1 ≤ p) (p2 : p ≤ 1000) (hg : okgE ⟨true, true, s, a⟩ = 0) (s0 : 0 ≤ s) (s1 : s ≤ 1073741824) (a0 : 0 ≤ a) (a1 : a ≤ 1125899906842624) (n0 : nn ≤ 50)
    (hr : Row w w.heap.size A nn vs) (hv : ∀ u ∈ vs, ∃ z : Int, u = .int .i64 z ∧ -9223372036854775808 ≤ z ∧ z ≤ 9223372036854775807)
    (hL : ms * p = L) (L0 : 16 ≤ L) (L1 : L ≤ 1048576000) (hLL : l * p = LL) (LL0 : 1 ≤ LL) (LL1 : LL ≤ 1048576000) (hW : d * p = W) (W0 : 1 ≤ W) (W1 : W ≤ 1048576000) (W2 : 2 * W < L)
    (HPS : ∀ (S A δ : Int) (w : World), 0 ≤ S → S ≤ 1073741924 → 0 ≤ A → A ≤ 1126999906842624 → -W ≤ δ → δ ≤ W → Calls Try.prog 10 #[gv ⟨true, true, S, A⟩, mv ⟨n, ms, l, f, d⟩, .int .i64 p, .int .i64 ((S + 1) % n), .agg #[.int .i64 0, .int .i64 0, .int .u64 0, .int .u16 0], .int .i64 (A + L + LL + δ)] w fun e w' => e = .returned (.tuple #[gv ⟨true, true, S + 1, A + L + δ⟩, .bool true, .int .i64 0]) ∧ Below w.heap.size w w') :
    Calls Try.prog 6 #[gv ⟨o, true, s, a⟩, mv ⟨n, ms, l, f, d⟩, .int .i64 p, .slice A nn c] w fun e w' => e = .returned (.bool true) ∧ Below w.heap.size w w' := by
  have HC := hid (fun w => (okE_ok h ▸ check_any ⟨n, ms, l, f, d⟩ w : Calls Try.prog 12 #[mv ⟨n, ms, l, f, d⟩] w fun e w' => e = .returned (.int .i64 0) ∧ Below w.heap.size w w'))
  have HG := hid (fun w => (show Calls Try.prog 14 #[gv ⟨true, true, s, a⟩] w fun e w' => e = .returned (.int .i64 0) ∧ Below w.heap.size w w' from by have hf := gcheck_any ⟨true, true, s, a⟩ w; rw [hg] at hf; exact hf))
  have HR := hid hr
  have HV := hid hv
  have HX := hid HPS
  have HOK := hid h
  have i1 : decide (p < 1) = false := by simp; omega
  have i2 : decide (1000 < p) = false := by simp; omega
  have i3 : decide (a < 0) = false := by simp; omega
  have i4 : decide (1125899906842624 < a) = false := by simp; omega
  have i5 : decide (1073741824 < s) = false := by simp; omega
  have i6 : decide (50 < (nn : Int)) = false := by simp; omega
  have hd4 : d ≤ 1048576 ∧ 1 ≤ d := by have := h.2.2.2; obtain ⟨h4, h5, h6, h7, h8, h9⟩ := this; simp only at h4 h5 h6 h7 h8 h9; omega
  clear hg hr hv HPS h
  go_enter Try.func6, Try.ntmps6
  go_wp2_with (first
    | (go_at_call 14; (with_reducible refine (HG.out w5).mono ?_); rintro e w6 ⟨rfl, b6⟩; have vg6 := vg5.keep b6; have vm6 := vm5.keep b6; have B6 : Hid (Below w.heap.size w w6) := hid (B5.out.trans (b6.mono B5.out.size)); have cg1_6 : w6.cell? ⟨w.heap.size, 1, none⟩ = some (.bool true) := vg6.c1; have cg2_6 : w6.cell? ⟨w.heap.size, 2, none⟩ = some (.int .u64 s) := vg6.c2; have cg3_6 : w6.cell? ⟨w.heap.size, 3, none⟩ = some (.int .i64 a) := vg6.c3; clear b6 vg5 vm5)
    | (refine wpList_ldg2 (.tmp 4) rfl rfl vg5 rfl ?_)
    | (go_at_call 12; (with_reducible refine (HC.out w4).mono ?_); rintro e w5 ⟨rfl, b5⟩; have vg5 := vg4.keep b5; have vm5 := vm4.keep b5; have B5 : Hid (Below w.heap.size w w5) := hid (B4.out.trans (b5.mono B4.out.size)); clear b5 vg4 vm4)
    | (refine wpList_ldm2 (.tmp 5) rfl rfl vm4 rfl ?_)
    | (refine wpList_son rfl (.tmp 23) _ rfl rfl rfl vg3 ?_; intro w4 vg4 b4 o4 _; replace vg4 : VarG w4 w.heap.size ⟨true, true, s, a⟩ := vg4; have vm4 := vm3.other o4 Ngm.out.symm; have B4 : Hid (Below w.heap.size w w4) := hid (B3.out.trans (b4.mono (Nat.le_refl _))); clear b4 o4 vm3 vg3)
    | (go_at_call 7; (with_reducible refine (live_any w2).mono ?_); rintro e w3 ⟨rfl, b3⟩; have vg3 := vg2.keep b3; have vm3 := vm2.keep b3; have B3 : Hid (Below w.heap.size w w3) := hid (B2.out.trans (b3.mono B2.out.size)); clear b3 vg2 vm2)
    | (refine wpList_boxm (x := ⟨n, ms, l, f, d⟩) rfl (.tmp 1) rfl rfl ?_; intro w2 vm2 b2 s2; have vg2 := vg1.keep b2; have B2 : Hid (Below w.heap.size w w2) := hid (B1.out.trans (b2.mono B1.out.size)); have Ngm : Hid (w.heap.size ≠ w1.heap.size) := hid (by have := vg1.lt; omega); clear b2 s2 vg1)
    | (refine wpList_boxg (x := ⟨o, true, s, a⟩) rfl (.tmp 0) rfl rfl ?_; intro w1 vg1 b1 s1; have B1 : Hid (Below w.heap.size w w1) := hid b1; clear b1 s1))
  have V1 := hid (show ChRel s ⟨n, ms, l, f, d⟩ nn w1.heap.size w (.int .i64 0) w6 from ⟨0, a, rfl, Nat.zero_le _, a0, by omega, by simpa using vg6, vm6, B6.out⟩)
  have G1 : Hid (w1.heap.size ≠ w.heap.size) := hid Ngm.out.symm
  generalize w1.heap.size = gm at *
  clear vg6 vm6 cg1_6 cg2_6 cg3_6 HC HG B6 i1 i2 i3 i4 i5 i6 a0 a1
  go_loopw [68] (ChRel s ⟨n, ms, l, f, d⟩ nn gm w) (fun i _ => nn - (intOf i).toNat)
  case atStart => exact V1.out
  case round =>
    obtain ⟨j, Aa, rfl, hj, A0, A1, vg1, vm1, bel⟩ := hrel
    have B1 : Hid (Below w.heap.size w wr) := hid bel
    clear V1 bel
    by_cases hlt : j < nn
    · obtain ⟨b0, o0, u, rfl, hb0, hu, hcell⟩ := HR.out.at_ hlt
      obtain ⟨z, rfl, z0, z1⟩ := HV.out u (List.mem_of_getElem? hu)
      have hz : wr.cell? ⟨b0, o0 + j, none⟩ = some (.int .i64 z) := (B1.out.cell (p := ⟨b0, o0 + j, none⟩) hb0).trans hcell
      obtain ⟨S, hS⟩ : ∃ S, s + (j : Int) = S := ⟨_, rfl⟩
      rw [hS] at vg1
      obtain ⟨S2, hS2⟩ : ∃ S2, S + 1 = S2 := ⟨_, rfl⟩
      obtain ⟨V, hV⟩ : ∃ V, 2 * W + 1 = V := ⟨_, rfl⟩
      obtain ⟨Z1, hZ1⟩ : ∃ Z1, z.tmod V = Z1 := ⟨_, rfl⟩
      obtain ⟨Z2, hZ2⟩ : ∃ Z2, Z1 + V = Z2 := ⟨_, rfl⟩
      obtain ⟨Z3, hZ3⟩ : ∃ Z3, Z2.tmod V = Z3 := ⟨_, rfl⟩
      have k1 := tmod_in z V (by omega)
      rw [hZ1] at k1
      have k2 := tmod_in Z2 V (by omega)
      rw [hZ3] at k2
      have k3 := k2.2.2 (by omega)
      obtain ⟨X1, hX1⟩ : ∃ X1, Aa + L = X1 := ⟨_, rfl⟩
      obtain ⟨X2, hX2⟩ : ∃ X2, X1 + LL = X2 := ⟨_, rfl⟩
      obtain ⟨X3, hX3⟩ : ∃ X3, X2 + Z3 = X3 := ⟨_, rfl⟩
      obtain ⟨T, hT⟩ : ∃ T, Aa + L + LL + (Z3 - W) = T := ⟨_, rfl⟩
      obtain ⟨A2, hA2⟩ : ∃ A2, Aa + L + (Z3 - W) = A2 := ⟨_, rfl⟩
      have HP := HX.out S Aa (Z3 - W)
      have HO := hid (fun w => own_ok n ms l f d (S + 1) _ w HOK.out (by omega) (by omega) rfl)
      rw [hT, hA2, hS2] at HP
      rw [hS2] at HO
      generalize S2 % n = O at *
      replace HP := hid (fun w => HP w (by omega) (by omega) (by omega) (by omega) (by omega) (by omega))
      have e0 : IntKind.u64.wrap (S + 1) = S2 := by rw [hS2, IntKind.wrap_u64]; omega
      have e1 : IntKind.i64.wrap (ms * p) = L := wrap_in hL (by omega) (by omega)
      have e2 : IntKind.i64.wrap (Aa + L) = X1 := by rw [hX1, IntKind.wrap_i64]; omega
      have e3 : IntKind.i64.wrap (l * p) = LL := wrap_in hLL (by omega) (by omega)
      have e4 : IntKind.i64.wrap (X1 + LL) = X2 := by rw [hX2, IntKind.wrap_i64]; omega
      have e5 : IntKind.i64.wrap (2 * d * p) = 2 * W := by rw [Int.mul_assoc, hW, IntKind.wrap_i64]; omega
      have e5' : 2 * W + 1 = V := hV
      have e6 : z.tmod V = Z1 := hZ1
      have e6' : IntKind.i64.wrap (z.tmod V) = Z1 := by rw [hZ1, IntKind.wrap_i64]; omega
      have e7 : IntKind.i64.wrap (Z1 + V) = Z2 := by rw [hZ2, IntKind.wrap_i64]; omega
      have e8 : Z2.tmod V = Z3 := hZ3
      have e8' : IntKind.i64.wrap (Z2.tmod V) = Z3 := by rw [hZ3, IntKind.wrap_i64]; omega
      have e9 : IntKind.i64.wrap (X2 + Z3) = X3 := by rw [hX3, IntKind.wrap_i64]; omega
      have ea : IntKind.i64.wrap (d * p) = W := wrap_in hW (by omega) (by omega)
      have eb : IntKind.i64.wrap (X3 - W) = T := by rw [show X3 - W = T by omega, IntKind.wrap_i64]; omega
      have ec : IntKind.i64.wrap (T - LL) = A2 := by rw [show T - LL = A2 by omega, IntKind.wrap_i64]; omega
      have w7 : wrap64 (Z1 + V) = Z2 := by unfold wrap64; omega
      have w9 : wrap64 (X2 + Z3) = X3 := by unfold wrap64; omega
      have wb : wrap64 (X3 - W) = T := by unfold wrap64; omega
      have ed : (V == 0) = false := by simp; omega
      have ee : ¬ V = 0 := by omega
      have RB : Hid (A2 ≤ 1125899906842624 + ((j : Int) + 1) * 4294967296 ∧ 0 ≤ A2 ∧ S2 = s + ((j : Int) + 1)) := hid (by omega)
      have hlt' : (j : Int) < (nn : Int) := by omega
      have cg2 : wr.cell? ⟨w.heap.size, 2, none⟩ = some (.int .u64 S) := vg1.c2
      clear hS2 hV hZ1 hZ2 hZ3 hX1 hX2 hX3 hT hA2 hcell hu k1 k2 A0 A1 hS
      have HSV := hid hd4
      go_wp2_with (first
        | (go_at_call 13; (with_reducible refine (HO.out wr).mono ?_); rintro e x2 ⟨rfl, b2⟩; have vg2 := vg1.keep b2; have vm2 := vm1.keep b2; have B2 : Hid (Below w.heap.size w x2) := hid (B1.out.trans (b2.mono B1.out.size)); have cg3_2 : x2.cell? ⟨w.heap.size, 3, none⟩ = some (.int .i64 Aa) := vg2.c3; have cm1_2 : x2.cell? ⟨gm, 1, none⟩ = some (.int .i64 ms) := vm2.c1; have cm2_2 : x2.cell? ⟨gm, 2, none⟩ = some (.int .i64 l) := vm2.c2; have cm4_2 : x2.cell? ⟨gm, 4, none⟩ = some (.int .i64 d) := vm2.c4; clear b2 vg1 vm1)
        | (refine wpList_ldm2 (.tmp 5) rfl rfl vm1 rfl ?_))
      clear cg2
      go_quiet (fail)
      generalize hx3 : x2.drewN _ = x3
      have b3 : Below x2.heap.size x2 x3 := by rw [← hx3]; exact bel_drewN (Below.refl _ _) _
      have vg3 := vg2.keep b3
      have vm3 := vm2.keep b3
      have B3 : Hid (Below w.heap.size w x3) := hid (B2.out.trans (b3.mono B2.out.size))
      have Ngm : Hid (w.heap.size ≠ gm) := hid G1.out.symm
      clear hx3 b3 vg2 vm2 cg3_2 cm1_2 cm2_2 cm4_2 e0 e1 e2 e4 e5 e5' e6 e6' e7 e8 e8' e9 ea eb ed ee hz w7 w9 wb
      go_wp2_with (first
        | (refine wpList_svg (x := ⟨true, true, S2, A2⟩) rfl (.tmp 4) (.tmp 150) rfl rfl rfl vg6 ?_; intro x7 vg7 b7 o7 _; have vm7 := vm6.other o7 Ngm.out.symm; have vh7 := vh6.other o7 Ngh.out.symm; have B7 : Hid (Below w.heap.size w x7) := hid (B6.out.trans (b7.mono (Nat.le_refl _))); clear b7 o7 vm6 vh6 vg6)
        | (refine wpList_ldg2 (.tmp 17) rfl rfl vh6 rfl ?_)
        | (refine wpList_svg (x := ⟨true, true, S2, A2⟩) rfl (.tmp 17) (.tmp 120) rfl rfl rfl vh5 ?_; intro x6 vh6 b6 o6 _; have vg6 := vg5.other o6 Ngh.out; have vm6 := vm5.other o6 Nmh.out; have B6 : Hid (Below w.heap.size w x6) := hid (B5.out.trans (b6.mono (B4.out.size))); have cm2_6 : x6.cell? ⟨gm, 2, none⟩ = some (.int .i64 l) := vm6.c2; have ch2_6 : x6.cell? ⟨x4.heap.size, 2, none⟩ = some (.int .u64 S2) := vh6.c2; have ch3_6 : x6.cell? ⟨x4.heap.size, 3, none⟩ = some (.int .i64 A2) := vh6.c3; clear b6 o6 vg5 vm5 cm2_5 vh5)
        | (refine wpList_alg rfl rfl ?_; intro x5 vh5 b5 s5; have vg5 := vg4.keep b5; have vm5 := vm4.keep b5; have B5 : Hid (Below w.heap.size w x5) := hid (B4.out.trans (b5.mono B4.out.size)); have Ngh : Hid (w.heap.size ≠ x4.heap.size) := hid (by have := vg4.lt; omega); have Nmh : Hid (gm ≠ x4.heap.size) := hid (by have := vm4.lt; omega); have cm2_5 : x5.cell? ⟨gm, 2, none⟩ = some (.int .i64 l) := vm5.c2; clear b5 s5 vg4 vm4 cm2_4)
        | (go_at_call 10; (with_reducible refine (HP.out x3).mono ?_); rintro e x4 ⟨rfl, b4⟩; have vg4 := vg3.keep b4; have vm4 := vm3.keep b4; have B4 : Hid (Below w.heap.size w x4) := hid (B3.out.trans (b4.mono B3.out.size)); have cm2_4 : x4.cell? ⟨gm, 2, none⟩ = some (.int .i64 l) := vm4.c2; clear b4 vg3 vm3)
        | (refine wpList_ldg2 (.tmp 4) rfl rfl vg3 rfl ?_)
        | (refine wpList_ldm2 (.tmp 5) rfl rfl vm3 rfl ?_))
      go_roundw
      case rel => exact ⟨j + 1, A2, by go_num, by omega, RB.out.2.1, by have := RB.out.1; omega, by have e := RB.out.2.2; rw [show ((j + 1 : Nat) : Int) = (j : Int) + 1 by omega, ← e]; exact vg7, vm7, B7.out⟩
      case measure => simp [intOf]; omega
    · go_wp2_with fail
      go_ret
      exact ⟨rfl, B1.out⟩
end Go.Proofs.Ytpncbfhbiifncaa
