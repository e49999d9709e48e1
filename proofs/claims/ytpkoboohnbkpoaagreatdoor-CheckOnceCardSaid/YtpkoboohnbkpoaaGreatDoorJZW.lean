/-
  Contract of medl.Check: what it answers, at every schedule.
-/
import Derived.Test.YtpkoboohnbkpoaaGreatDoorJZN
import Derived.LoopN
namespace Go.Proofs.YtpkoboohnbkpoaaGreatDoor
open Go Go.RowKit

structure Md where
  n : Int
  s : Int
  l : Int
  f : Int
  d : Int
def encm (x : Md) : List Value := [.int .i64 x.n, .int .i64 x.s, .int .i64 x.l, .int .i64 x.f, .int .i64 x.d]
def mv (x : Md) : Value := .agg (encm x).toArray
def mdS : Sv Tryz.prog Md where
  enc := encm
  N := 5
  T := 41
  z := ⟨0, 0, 0, 0, 0⟩
  d := _
  len := fun _ => rfl
  pos := by omega
  one := by intro x u hu; simp [encm] at hu; rcases hu with rfl | rfl | rfl | rfl | rfl <;> rfl
  undT := Tryz.underlying41
  isRow := rfl
  size := by kernel_rfl
  zero := fun w => by kernel_rfl
def OkMd (x : Md) : Prop := 2 ≤ x.n ∧ x.n ≤ 16 ∧ 16 ≤ x.s ∧ x.s ≤ 1048576 ∧ 1 ≤ x.l ∧ 1 ≤ x.f ∧ 1 ≤ x.d ∧ x.d ≤ x.l ∧ x.l + x.f + x.d < x.s
instance (x : Md) : Decidable (OkMd x) := by unfold OkMd; infer_instance
theorem marr0 (l f d : Int) (w : World) : (Instr.index 162 (.agg #[.int .i64 l, .int .i64 f, .int .i64 d]) (.int .i64 0)).run Tryz.prog w = .ok (.int .i64 l) w := by kernel_rfl
theorem marr1 (l f d : Int) (w : World) : (Instr.index 162 (.agg #[.int .i64 l, .int .i64 f, .int .i64 d]) (.int .i64 1)).run Tryz.prog w = .ok (.int .i64 f) w := by kernel_rfl
theorem marr2 (l f d : Int) (w : World) : (Instr.index 162 (.agg #[.int .i64 l, .int .i64 f, .int .i64 d]) (.int .i64 2)).run Tryz.prog w = .ok (.int .i64 d) w := by kernel_rfl

set_option maxRecDepth 100000 in
theorem mcheck_ok (n s l f d : Int) (w : World) (h : OkMd ⟨n, s, l, f, d⟩) : Calls Tryz.prog 58 #[mv ⟨n, s, l, f, d⟩] w fun e w' => e = .returned (.int .i64 0) ∧ Below w.heap.size w w' := by
  obtain ⟨h1, h2, h3, h4, h5, h6, h7, h8, h9⟩ := h
  simp only at h1 h2 h3 h4 h5 h6 h7 h8 h9
  have i0 := marr0 l f d
  have i1 := marr1 l f d
  have i2 := marr2 l f d
  go_enter Tryz.func58, Tryz.ntmps58
  go_wp2_with (first
    | (refine Sv.wp_box (σ := mdS) (x := ⟨n, s, l, f, d⟩) rfl (.tmp 0) rfl rfl ?_; intro w1 v1 b1 s1; have c0 : w1.cell? ⟨w.heap.size, 0, none⟩ = some (.int .i64 n) := v1.cell (j := 0) rfl; have c1 : w1.cell? ⟨w.heap.size, 1, none⟩ = some (.int .i64 s) := v1.cell (j := 1) rfl; have c2 : w1.cell? ⟨w.heap.size, 2, none⟩ = some (.int .i64 l) := v1.cell (j := 2) rfl; have c3 : w1.cell? ⟨w.heap.size, 3, none⟩ = some (.int .i64 f) := v1.cell (j := 3) rfl; have c4 : w1.cell? ⟨w.heap.size, 4, none⟩ = some (.int .i64 d) := v1.cell (j := 4) rfl))
  refine wp_loop_rounds 4 ?_
  rw [rounds_succ]
  go_wp2
  rw [rounds_succ]
  go_wp2
  rw [rounds_succ]
  go_wp2
  rw [rounds_succ]
  go_wp2
  go_ret
  exact ⟨rfl, b1⟩

theorem mcheck_bad0 (n s l f d : Int) (w : World) (h : (decide (n < 2) || decide (16 < n) || decide (s < 16) || decide (1048576 < s) || decide (l < d)) = true) : Calls Tryz.prog 58 #[mv ⟨n, s, l, f, d⟩] w fun e w' => e = .returned (.int .i64 1) ∧ Below w.heap.size w w' := by
  go_enter Tryz.func58, Tryz.ntmps58
  go_wp2_with (first
    | (refine Sv.wp_box (σ := mdS) (x := ⟨n, s, l, f, d⟩) rfl (.tmp 0) rfl rfl ?_; intro w1 v1 b1 s1; have c0 : w1.cell? ⟨w.heap.size, 0, none⟩ = some (.int .i64 n) := v1.cell (j := 0) rfl; have c1 : w1.cell? ⟨w.heap.size, 1, none⟩ = some (.int .i64 s) := v1.cell (j := 1) rfl; have c2 : w1.cell? ⟨w.heap.size, 2, none⟩ = some (.int .i64 l) := v1.cell (j := 2) rfl; have c3 : w1.cell? ⟨w.heap.size, 3, none⟩ = some (.int .i64 f) := v1.cell (j := 3) rfl; have c4 : w1.cell? ⟨w.heap.size, 4, none⟩ = some (.int .i64 d) := v1.cell (j := 4) rfl))
  all_goals
    go_ret
    exact ⟨rfl, b1⟩
set_option maxRecDepth 100000 in
theorem mcheck_bad1 (n s l f d : Int) (w : World) (h1 : 2 ≤ n) (h2 : n ≤ 16) (h3 : 16 ≤ s) (h4 : s ≤ 1048576) (h8 : d ≤ l) (h : (decide (l < 1) || decide (s ≤ l)) = true) : Calls Tryz.prog 58 #[mv ⟨n, s, l, f, d⟩] w fun e w' => e = .returned (.int .i64 1) ∧ Below w.heap.size w w' := by
  have i0 := marr0 l f d
  go_enter Tryz.func58, Tryz.ntmps58
  go_wp2_with (first
    | (refine Sv.wp_box (σ := mdS) (x := ⟨n, s, l, f, d⟩) rfl (.tmp 0) rfl rfl ?_; intro w1 v1 b1 s1; have c0 : w1.cell? ⟨w.heap.size, 0, none⟩ = some (.int .i64 n) := v1.cell (j := 0) rfl; have c1 : w1.cell? ⟨w.heap.size, 1, none⟩ = some (.int .i64 s) := v1.cell (j := 1) rfl; have c2 : w1.cell? ⟨w.heap.size, 2, none⟩ = some (.int .i64 l) := v1.cell (j := 2) rfl; have c3 : w1.cell? ⟨w.heap.size, 3, none⟩ = some (.int .i64 f) := v1.cell (j := 3) rfl; have c4 : w1.cell? ⟨w.heap.size, 4, none⟩ = some (.int .i64 d) := v1.cell (j := 4) rfl))
  refine wp_loop_rounds 1 ?_
  rw [rounds_succ]
  go_wp2
  all_goals
    go_ret
    exact ⟨rfl, b1⟩
set_option maxRecDepth 100000 in
theorem mcheck_bad2 (n s l f d : Int) (w : World) (h1 : 2 ≤ n) (h2 : n ≤ 16) (h3 : 16 ≤ s) (h4 : s ≤ 1048576) (h8 : d ≤ l) (h5 : 1 ≤ l) (h6 : l < s) (h : (decide (f < 1) || decide (s - l ≤ f)) = true) : Calls Tryz.prog 58 #[mv ⟨n, s, l, f, d⟩] w fun e w' => e = .returned (.int .i64 1) ∧ Below w.heap.size w w' := by
  have i0 := marr0 l f d
  have i1 := marr1 l f d
  go_enter Tryz.func58, Tryz.ntmps58
  go_wp2_with (first
    | (refine Sv.wp_box (σ := mdS) (x := ⟨n, s, l, f, d⟩) rfl (.tmp 0) rfl rfl ?_; intro w1 v1 b1 s1; have c0 : w1.cell? ⟨w.heap.size, 0, none⟩ = some (.int .i64 n) := v1.cell (j := 0) rfl; have c1 : w1.cell? ⟨w.heap.size, 1, none⟩ = some (.int .i64 s) := v1.cell (j := 1) rfl; have c2 : w1.cell? ⟨w.heap.size, 2, none⟩ = some (.int .i64 l) := v1.cell (j := 2) rfl; have c3 : w1.cell? ⟨w.heap.size, 3, none⟩ = some (.int .i64 f) := v1.cell (j := 3) rfl; have c4 : w1.cell? ⟨w.heap.size, 4, none⟩ = some (.int .i64 d) := v1.cell (j := 4) rfl))
  refine wp_loop_rounds 2 ?_
  rw [rounds_succ]
  go_wp2
  rw [rounds_succ]
  go_wp2
  all_goals
    go_ret
    exact ⟨rfl, b1⟩
set_option maxRecDepth 100000 in
theorem mcheck_bad3 (n s l f d : Int) (w : World) (h1 : 2 ≤ n) (h2 : n ≤ 16) (h3 : 16 ≤ s) (h4 : s ≤ 1048576) (h8 : d ≤ l) (h5 : 1 ≤ l) (h6 : l < s) (h7 : 1 ≤ f) (h9 : f < s - l) (h : (decide (d < 1) || decide (s - l - f ≤ d)) = true) : Calls Tryz.prog 58 #[mv ⟨n, s, l, f, d⟩] w fun e w' => e = .returned (.int .i64 1) ∧ Below w.heap.size w w' := by
  have i0 := marr0 l f d
  have i1 := marr1 l f d
  have i2 := marr2 l f d
  go_enter Tryz.func58, Tryz.ntmps58
  go_wp2_with (first
    | (refine Sv.wp_box (σ := mdS) (x := ⟨n, s, l, f, d⟩) rfl (.tmp 0) rfl rfl ?_; intro w1 v1 b1 s1; have c0 : w1.cell? ⟨w.heap.size, 0, none⟩ = some (.int .i64 n) := v1.cell (j := 0) rfl; have c1 : w1.cell? ⟨w.heap.size, 1, none⟩ = some (.int .i64 s) := v1.cell (j := 1) rfl; have c2 : w1.cell? ⟨w.heap.size, 2, none⟩ = some (.int .i64 l) := v1.cell (j := 2) rfl; have c3 : w1.cell? ⟨w.heap.size, 3, none⟩ = some (.int .i64 f) := v1.cell (j := 3) rfl; have c4 : w1.cell? ⟨w.heap.size, 4, none⟩ = some (.int .i64 d) := v1.cell (j := 4) rfl))
  refine wp_loop_rounds 3 ?_
  rw [rounds_succ]
  go_wp2
  rw [rounds_succ]
  go_wp2
  rw [rounds_succ]
  go_wp2
  all_goals
    go_ret
    exact ⟨rfl, b1⟩
def okMd (x : Md) : Int := if OkMd x then 0 else 1
theorem mcheck_any (x : Md) (w : World) : Calls Tryz.prog 58 #[mv x] w fun e w' => e = .returned (.int .i64 (okMd x)) ∧ Below w.heap.size w w' := by
  obtain ⟨n, s, l, f, d⟩ := x
  by_cases h : OkMd ⟨n, s, l, f, d⟩
  · unfold okMd; rw [if_pos h]; exact mcheck_ok n s l f d w h
  · unfold okMd; rw [if_neg h]
    by_cases a0 : n < 2 ∨ 16 < n ∨ s < 16 ∨ 1048576 < s ∨ l < d
    · exact mcheck_bad0 n s l f d w (by simp; omega)
    · by_cases a1 : l < 1 ∨ s ≤ l
      · exact mcheck_bad1 n s l f d w (by omega) (by omega) (by omega) (by omega) (by omega) (by simp; omega)
      · by_cases a2 : f < 1 ∨ s - l ≤ f
        · exact mcheck_bad2 n s l f d w (by omega) (by omega) (by omega) (by omega) (by omega) (by omega) (by omega) (by simp; omega)
        · exact mcheck_bad3 n s l f d w (by omega) (by omega) (by omega) (by omega) (by omega) (by omega) (by omega) (by omega) (by omega) (by
            have : d < 1 ∨ s - l - f ≤ d := by
              by_cases c : d < 1 ∨ s - l - f ≤ d
              · exact c
              · exact absurd (show OkMd ⟨n, s, l, f, d⟩ from ⟨by simp only; omega, by simp only; omega, by simp only; omega, by simp only; omega, by simp only; omega, by simp only; omega, by simp only; omega, by simp only; omega, by simp only; omega⟩) h
            simp; omega)
end Go.Proofs.YtpkoboohnbkpoaaGreatDoor
