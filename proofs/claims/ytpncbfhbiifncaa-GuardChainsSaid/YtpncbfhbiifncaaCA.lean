/-
  The walk of GuardChains: what it does where something may not be.
-/
import Derived.Test.YtpncbfhbiifncaaWC
import Derived.Test.YtpncbfhbiifncaaQ
import Derived.Test.YtpncbfhbiifncaaSO
namespace Go.Proofs.Ytpncbfhbiifncaa
open Go Go.RowKit
set_option maxHeartbeats 1000000 in
set_option maxRecDepth 100000 in
theorem chains_sched (o k : Bool) (s a n ms l f d p : Int) (A : Option Addr) (nn c : Nat) (w : World) (h : ¬ Ok ⟨n, ms, l, f, d⟩) : Calls Try.prog 6 #[gv ⟨o, k, s, a⟩, mv ⟨n, ms, l, f, d⟩, .int .i64 p, .slice A nn c] w fun e w' => e = .returned (.bool true) ∧ Below w.heap.size w w' := by
  have HC := hid (fun w => (okE_bad h ▸ check_any ⟨n, ms, l, f, d⟩ w : Calls Try.prog 12 #[mv ⟨n, ms, l, f, d⟩] w fun e w' => e = .returned (.int .i64 1) ∧ Below w.heap.size w w'))
  clear h
  go_enter Try.func6, Try.ntmps6
  go_wp2_with (first
    | (go_at_call 14; (with_reducible refine (HG.out w5).mono ?_); rintro e w6 ⟨rfl, b6⟩; have vg6 := vg5.keep b6; have vm6 := vm5.keep b6; have B6 : Hid (Below w.heap.size w w6) := hid (B5.out.trans (b6.mono B5.out.size)); have cg1_6 : w6.cell? ⟨w.heap.size, 1, none⟩ = some (.bool k) := vg6.c1; have cg2_6 : w6.cell? ⟨w.heap.size, 2, none⟩ = some (.int .u64 s) := vg6.c2; have cg3_6 : w6.cell? ⟨w.heap.size, 3, none⟩ = some (.int .i64 a) := vg6.c3; clear b6 vg5 vm5)
    | (refine wpList_ldg2 (.tmp 4) rfl rfl vg5 rfl ?_)
    | (go_at_call 12; (with_reducible refine (HC.out w4).mono ?_); rintro e w5 ⟨rfl, b5⟩; have vg5 := vg4.keep b5; have vm5 := vm4.keep b5; have B5 : Hid (Below w.heap.size w w5) := hid (B4.out.trans (b5.mono B4.out.size)); clear b5 vg4 vm4)
    | (refine wpList_ldm2 (.tmp 5) rfl rfl vm4 rfl ?_)
    | (refine wpList_son rfl (.tmp 23) _ rfl rfl rfl vg3 ?_; intro w4 vg4 b4 o4 _; replace vg4 : VarG w4 w.heap.size ⟨true, k, s, a⟩ := vg4; have vm4 := vm3.other o4 Ngm.out.symm; have B4 : Hid (Below w.heap.size w w4) := hid (B3.out.trans (b4.mono (Nat.le_refl _))); clear b4 o4 vm3 vg3)
    | (go_at_call 7; (with_reducible refine (live_any w2).mono ?_); rintro e w3 ⟨rfl, b3⟩; have vg3 := vg2.keep b3; have vm3 := vm2.keep b3; have B3 : Hid (Below w.heap.size w w3) := hid (B2.out.trans (b3.mono B2.out.size)); clear b3 vg2 vm2)
    | (refine wpList_boxm (x := ⟨n, ms, l, f, d⟩) rfl (.tmp 1) rfl rfl ?_; intro w2 vm2 b2 s2; have vg2 := vg1.keep b2; have B2 : Hid (Below w.heap.size w w2) := hid (B1.out.trans (b2.mono B1.out.size)); have Ngm : Hid (w.heap.size ≠ w1.heap.size) := hid (by have := vg1.lt; omega); clear b2 s2 vg1)
    | (refine wpList_boxg (x := ⟨o, k, s, a⟩) rfl (.tmp 0) rfl rfl ?_; intro w1 vg1 b1 s1; have B1 : Hid (Below w.heap.size w w1) := hid b1; clear b1 s1))
  go_ret
  exact ⟨rfl, B5.out⟩
set_option maxHeartbeats 1000000 in
set_option maxRecDepth 100000 in
theorem chains_period (o k : Bool) (s a n ms l f d p : Int) (A : Option Addr) (nn c : Nat) (w : World) (h : Ok ⟨n, ms, l, f, d⟩) (hp : decide (p < 1) = true ∨ (decide (p < 1) = false ∧ decide (1000 < p) = true)) : Calls Try.prog 6 #[gv ⟨o, k, s, a⟩, mv ⟨n, ms, l, f, d⟩, .int .i64 p, .slice A nn c] w fun e w' => e = .returned (.bool true) ∧ Below w.heap.size w w' := by
  have HC := hid (fun w => (okE_ok h ▸ check_any ⟨n, ms, l, f, d⟩ w : Calls Try.prog 12 #[mv ⟨n, ms, l, f, d⟩] w fun e w' => e = .returned (.int .i64 0) ∧ Below w.heap.size w w'))
  clear h
  rcases hp with h1 | ⟨h1, h2⟩
  all_goals
    go_enter Try.func6, Try.ntmps6
    go_wp2_with (first
      | (go_at_call 14; (with_reducible refine (HG.out w5).mono ?_); rintro e w6 ⟨rfl, b6⟩; have vg6 := vg5.keep b6; have vm6 := vm5.keep b6; have B6 : Hid (Below w.heap.size w w6) := hid (B5.out.trans (b6.mono B5.out.size)); have cg1_6 : w6.cell? ⟨w.heap.size, 1, none⟩ = some (.bool k) := vg6.c1; have cg2_6 : w6.cell? ⟨w.heap.size, 2, none⟩ = some (.int .u64 s) := vg6.c2; have cg3_6 : w6.cell? ⟨w.heap.size, 3, none⟩ = some (.int .i64 a) := vg6.c3; clear b6 vg5 vm5)
      | (refine wpList_ldg2 (.tmp 4) rfl rfl vg5 rfl ?_)
      | (go_at_call 12; (with_reducible refine (HC.out w4).mono ?_); rintro e w5 ⟨rfl, b5⟩; have vg5 := vg4.keep b5; have vm5 := vm4.keep b5; have B5 : Hid (Below w.heap.size w w5) := hid (B4.out.trans (b5.mono B4.out.size)); clear b5 vg4 vm4)
      | (refine wpList_ldm2 (.tmp 5) rfl rfl vm4 rfl ?_)
      | (refine wpList_son rfl (.tmp 23) _ rfl rfl rfl vg3 ?_; intro w4 vg4 b4 o4 _; replace vg4 : VarG w4 w.heap.size ⟨true, k, s, a⟩ := vg4; have vm4 := vm3.other o4 Ngm.out.symm; have B4 : Hid (Below w.heap.size w w4) := hid (B3.out.trans (b4.mono (Nat.le_refl _))); clear b4 o4 vm3 vg3)
      | (go_at_call 7; (with_reducible refine (live_any w2).mono ?_); rintro e w3 ⟨rfl, b3⟩; have vg3 := vg2.keep b3; have vm3 := vm2.keep b3; have B3 : Hid (Below w.heap.size w w3) := hid (B2.out.trans (b3.mono B2.out.size)); clear b3 vg2 vm2)
      | (refine wpList_boxm (x := ⟨n, ms, l, f, d⟩) rfl (.tmp 1) rfl rfl ?_; intro w2 vm2 b2 s2; have vg2 := vg1.keep b2; have B2 : Hid (Below w.heap.size w w2) := hid (B1.out.trans (b2.mono B1.out.size)); have Ngm : Hid (w.heap.size ≠ w1.heap.size) := hid (by have := vg1.lt; omega); clear b2 s2 vg1)
      | (refine wpList_boxg (x := ⟨o, k, s, a⟩) rfl (.tmp 0) rfl rfl ?_; intro w1 vg1 b1 s1; have B1 : Hid (Below w.heap.size w w1) := hid b1; clear b1 s1))
    go_ret
    exact ⟨rfl, B5.out⟩
set_option maxHeartbeats 1000000 in
set_option maxRecDepth 100000 in
theorem chains_guard (o k : Bool) (s a n ms l f d p : Int) (A : Option Addr) (nn c : Nat) (w : World) (h : Ok ⟨n, ms, l, f, d⟩) (h1 : decide (p < 1) = false) (h2 : decide (1000 < p) = false) (hg : okgE ⟨true, k, s, a⟩ = 1) : Calls Try.prog 6 #[gv ⟨o, k, s, a⟩, mv ⟨n, ms, l, f, d⟩, .int .i64 p, .slice A nn c] w fun e w' => e = .returned (.bool true) ∧ Below w.heap.size w w' := by
  have HC := hid (fun w => (okE_ok h ▸ check_any ⟨n, ms, l, f, d⟩ w : Calls Try.prog 12 #[mv ⟨n, ms, l, f, d⟩] w fun e w' => e = .returned (.int .i64 0) ∧ Below w.heap.size w w'))
  have HG := hid (fun w => (show Calls Try.prog 14 #[gv ⟨true, k, s, a⟩] w fun e w' => e = .returned (.int .i64 1) ∧ Below w.heap.size w w' from by have hf := gcheck_any ⟨true, k, s, a⟩ w; rw [hg] at hf; exact hf))
  clear h hg
  go_enter Try.func6, Try.ntmps6
  go_wp2_with (first
    | (go_at_call 14; (with_reducible refine (HG.out w5).mono ?_); rintro e w6 ⟨rfl, b6⟩; have vg6 := vg5.keep b6; have vm6 := vm5.keep b6; have B6 : Hid (Below w.heap.size w w6) := hid (B5.out.trans (b6.mono B5.out.size)); have cg1_6 : w6.cell? ⟨w.heap.size, 1, none⟩ = some (.bool k) := vg6.c1; have cg2_6 : w6.cell? ⟨w.heap.size, 2, none⟩ = some (.int .u64 s) := vg6.c2; have cg3_6 : w6.cell? ⟨w.heap.size, 3, none⟩ = some (.int .i64 a) := vg6.c3; clear b6 vg5 vm5)
    | (refine wpList_ldg2 (.tmp 4) rfl rfl vg5 rfl ?_)
    | (go_at_call 12; (with_reducible refine (HC.out w4).mono ?_); rintro e w5 ⟨rfl, b5⟩; have vg5 := vg4.keep b5; have vm5 := vm4.keep b5; have B5 : Hid (Below w.heap.size w w5) := hid (B4.out.trans (b5.mono B4.out.size)); clear b5 vg4 vm4)
    | (refine wpList_ldm2 (.tmp 5) rfl rfl vm4 rfl ?_)
    | (refine wpList_son rfl (.tmp 23) _ rfl rfl rfl vg3 ?_; intro w4 vg4 b4 o4 _; replace vg4 : VarG w4 w.heap.size ⟨true, k, s, a⟩ := vg4; have vm4 := vm3.other o4 Ngm.out.symm; have B4 : Hid (Below w.heap.size w w4) := hid (B3.out.trans (b4.mono (Nat.le_refl _))); clear b4 o4 vm3 vg3)
    | (go_at_call 7; (with_reducible refine (live_any w2).mono ?_); rintro e w3 ⟨rfl, b3⟩; have vg3 := vg2.keep b3; have vm3 := vm2.keep b3; have B3 : Hid (Below w.heap.size w w3) := hid (B2.out.trans (b3.mono B2.out.size)); clear b3 vg2 vm2)
    | (refine wpList_boxm (x := ⟨n, ms, l, f, d⟩) rfl (.tmp 1) rfl rfl ?_; intro w2 vm2 b2 s2; have vg2 := vg1.keep b2; have B2 : Hid (Below w.heap.size w w2) := hid (B1.out.trans (b2.mono B1.out.size)); have Ngm : Hid (w.heap.size ≠ w1.heap.size) := hid (by have := vg1.lt; omega); clear b2 s2 vg1)
    | (refine wpList_boxg (x := ⟨o, k, s, a⟩) rfl (.tmp 0) rfl rfl ?_; intro w1 vg1 b1 s1; have B1 : Hid (Below w.heap.size w w1) := hid b1; clear b1 s1))
  go_ret
  exact ⟨rfl, B6.out⟩
set_option maxHeartbeats 1000000 in
set_option maxRecDepth 100000 in
theorem chains_rest (o k : Bool) (s a n ms l f d p : Int) (A : Option Addr) (nn c : Nat) (w : World) (h : Ok ⟨n, ms, l, f, d⟩) (h1 : decide (p < 1) = false) (h2 : decide (1000 < p) = false) (hg : okgE ⟨true, k, s, a⟩ = 0)
    (hr : k = false ∨ (k = true ∧ decide (a < 0) = true) ∨ (k = true ∧ decide (a < 0) = false ∧ decide (1125899906842624 < a) = true) ∨ (k = true ∧ decide (a < 0) = false ∧ decide (1125899906842624 < a) = false ∧ decide (1073741824 < s) = true) ∨ (k = true ∧ decide (a < 0) = false ∧ decide (1125899906842624 < a) = false ∧ decide (1073741824 < s) = false ∧ decide (50 < (nn : Int)) = true)) : Calls Try.prog 6 #[gv ⟨o, k, s, a⟩, mv ⟨n, ms, l, f, d⟩, .int .i64 p, .slice A nn c] w fun e w' => e = .returned (.bool true) ∧ Below w.heap.size w w' := by
  have HC := hid (fun w => (okE_ok h ▸ check_any ⟨n, ms, l, f, d⟩ w : Calls Try.prog 12 #[mv ⟨n, ms, l, f, d⟩] w fun e w' => e = .returned (.int .i64 0) ∧ Below w.heap.size w w'))
  have HG := hid (fun w => (show Calls Try.prog 14 #[gv ⟨true, k, s, a⟩] w fun e w' => e = .returned (.int .i64 0) ∧ Below w.heap.size w w' from by have hf := gcheck_any ⟨true, k, s, a⟩ w; rw [hg] at hf; exact hf))
  clear h hg
  rcases hr with rfl | ⟨rfl, h3⟩ | ⟨rfl, h3, h4⟩ | ⟨rfl, h3, h4, h5⟩ | ⟨rfl, h3, h4, h5, h6⟩
  · go_enter Try.func6, Try.ntmps6
    go_wp2_with (first
      | (go_at_call 14; (with_reducible refine (HG.out w5).mono ?_); rintro e w6 ⟨rfl, b6⟩; have vg6 := vg5.keep b6; have vm6 := vm5.keep b6; have B6 : Hid (Below w.heap.size w w6) := hid (B5.out.trans (b6.mono B5.out.size)); have cg1_6 : w6.cell? ⟨w.heap.size, 1, none⟩ = some (.bool false) := vg6.c1; have cg2_6 : w6.cell? ⟨w.heap.size, 2, none⟩ = some (.int .u64 s) := vg6.c2; have cg3_6 : w6.cell? ⟨w.heap.size, 3, none⟩ = some (.int .i64 a) := vg6.c3; clear b6 vg5 vm5)
      | (refine wpList_ldg2 (.tmp 4) rfl rfl vg5 rfl ?_)
      | (go_at_call 12; (with_reducible refine (HC.out w4).mono ?_); rintro e w5 ⟨rfl, b5⟩; have vg5 := vg4.keep b5; have vm5 := vm4.keep b5; have B5 : Hid (Below w.heap.size w w5) := hid (B4.out.trans (b5.mono B4.out.size)); clear b5 vg4 vm4)
      | (refine wpList_ldm2 (.tmp 5) rfl rfl vm4 rfl ?_)
      | (refine wpList_son rfl (.tmp 23) _ rfl rfl rfl vg3 ?_; intro w4 vg4 b4 o4 _; replace vg4 : VarG w4 w.heap.size ⟨true, false, s, a⟩ := vg4; have vm4 := vm3.other o4 Ngm.out.symm; have B4 : Hid (Below w.heap.size w w4) := hid (B3.out.trans (b4.mono (Nat.le_refl _))); clear b4 o4 vm3 vg3)
      | (go_at_call 7; (with_reducible refine (live_any w2).mono ?_); rintro e w3 ⟨rfl, b3⟩; have vg3 := vg2.keep b3; have vm3 := vm2.keep b3; have B3 : Hid (Below w.heap.size w w3) := hid (B2.out.trans (b3.mono B2.out.size)); clear b3 vg2 vm2)
      | (refine wpList_boxm (x := ⟨n, ms, l, f, d⟩) rfl (.tmp 1) rfl rfl ?_; intro w2 vm2 b2 s2; have vg2 := vg1.keep b2; have B2 : Hid (Below w.heap.size w w2) := hid (B1.out.trans (b2.mono B1.out.size)); have Ngm : Hid (w.heap.size ≠ w1.heap.size) := hid (by have := vg1.lt; omega); clear b2 s2 vg1)
      | (refine wpList_boxg (x := ⟨o, false, s, a⟩) rfl (.tmp 0) rfl rfl ?_; intro w1 vg1 b1 s1; have B1 : Hid (Below w.heap.size w w1) := hid b1; clear b1 s1))
    go_ret
    exact ⟨rfl, B6.out⟩
  all_goals
    go_enter Try.func6, Try.ntmps6
    go_wp2_with (first
      | (go_at_call 14; (with_reducible refine (HG.out w5).mono ?_); rintro e w6 ⟨rfl, b6⟩; have vg6 := vg5.keep b6; have vm6 := vm5.keep b6; have B6 : Hid (Below w.heap.size w w6) := hid (B5.out.trans (b6.mono B5.out.size)); have cg1_6 : w6.cell? ⟨w.heap.size, 1, none⟩ = some (.bool true) := vg6.c1; have cg2_6 : w6.cell? ⟨w.heap.size, 2, none⟩ = some (.int .u64 s) := vg6.c2; have cg3_6 : w6.cell? ⟨w.heap.size, 3, none⟩ = some (.int .i64 a) := vg6.c3; clear b6 vg5 vm5)
      | (refine wpList_ldg2 (.tmp 4) rfl rfl vg5 rfl ?_)
      | (go_at_call 12; (with_reducible refine (HC.out w4).mono ?_); rintro e w5 ⟨rfl, b5⟩; have vg5 := vg4.keep b5; have vm5 := vm4.keep b5; have B5 : Hid (Below w.heap.size w w5) := hid (B4.out.trans (b5.mono B4.out.size)); clear b5 vg4 vm4)
      | (refine wpList_ldm2 (.tmp 5) rfl rfl vm4 rfl ?_)
      | (refine wpList_son rfl (.tmp 23) _ rfl rfl rfl vg3 ?_; intro w4 vg4 b4 o4 _; replace vg4 : VarG w4 w.heap.size ⟨true, true, s, a⟩ := vg4; have vm4 := vm3.other o4 Ngm.out.symm; have B4 : Hid (Below w.heap.size w w4) := hid (B3.out.trans (b4.mono (Nat.le_refl _))); clear b4 o4 vm3 vg3)
      | (go_at_call 7; (with_reducible refine (live_any w2).mono ?_); rintro e w3 ⟨rfl, b3⟩; have vg3 := vg2.keep b3; have vm3 := vm2.keep b3; have B3 : Hid (Below w.heap.size w w3) := hid (B2.out.trans (b3.mono B2.out.size)); clear b3 vg2 vm2)
      | (refine wpList_boxm (x := ⟨n, ms, l, f, d⟩) rfl (.tmp 1) rfl rfl ?_; intro w2 vm2 b2 s2; have vg2 := vg1.keep b2; have B2 : Hid (Below w.heap.size w w2) := hid (B1.out.trans (b2.mono B1.out.size)); have Ngm : Hid (w.heap.size ≠ w1.heap.size) := hid (by have := vg1.lt; omega); clear b2 s2 vg1)
      | (refine wpList_boxg (x := ⟨o, true, s, a⟩) rfl (.tmp 0) rfl rfl ?_; intro w1 vg1 b1 s1; have B1 : Hid (Below w.heap.size w w1) := hid b1; clear b1 s1))
    go_ret
    exact ⟨rfl, B6.out⟩
end Go.Proofs.Ytpncbfhbiifncaa
