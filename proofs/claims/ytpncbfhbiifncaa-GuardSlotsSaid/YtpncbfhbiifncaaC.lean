/-
  medl.Check: what it answers, at every schedule.
-/
import Derived.Test.YtpncbfhbiifncaaV
namespace Go.Proofs.Ytpncbfhbiifncaa
open Go Go.RowKit
def Ok (x : Md) : Prop := 2 ≤ x.n ∧ x.n ≤ 16 ∧ 16 ≤ x.s ∧ x.s ≤ 1048576 ∧ 1 ≤ x.l ∧ 1 ≤ x.f ∧ 1 ≤ x.d ∧ x.d ≤ x.l ∧ x.l + x.f + x.d < x.s
instance (x : Md) : Decidable (Ok x) := by unfold Ok; infer_instance
theorem arr0 (l f d : Int) (w : World) : (Instr.index 59 (.agg #[.int .i64 l, .int .i64 f, .int .i64 d]) (.int .i64 0)).run Try.prog w = .ok (.int .i64 l) w := by kernel_rfl
theorem arr1 (l f d : Int) (w : World) : (Instr.index 59 (.agg #[.int .i64 l, .int .i64 f, .int .i64 d]) (.int .i64 1)).run Try.prog w = .ok (.int .i64 f) w := by kernel_rfl
theorem arr2 (l f d : Int) (w : World) : (Instr.index 59 (.agg #[.int .i64 l, .int .i64 f, .int .i64 d]) (.int .i64 2)).run Try.prog w = .ok (.int .i64 d) w := by kernel_rfl

set_option maxRecDepth 100000 in
theorem check_ok (n s l f d : Int) (w : World) (h : Ok ⟨n, s, l, f, d⟩) : Calls Try.prog 12 #[mv ⟨n, s, l, f, d⟩] w fun e w' => e = .returned (.int .i64 0) ∧ Below w.heap.size w w' := by
  obtain ⟨h1, h2, h3, h4, h5, h6, h7, h8, h9⟩ := h
  simp only at h1 h2 h3 h4 h5 h6 h7 h8 h9
  have i0 := arr0 l f d
  have i1 := arr1 l f d
  have i2 := arr2 l f d
  go_enter Try.func12, Try.ntmps12
  go_wp2_with (first
    | (refine wpList_boxm (x := ⟨n, s, l, f, d⟩) rfl (.tmp 0) rfl rfl ?_; intro w1 v1 b1 s1; have c0 : w1.cell? ⟨w.heap.size, 0, none⟩ = some (.int .i64 n) := v1.c0; have c1 : w1.cell? ⟨w.heap.size, 1, none⟩ = some (.int .i64 s) := v1.c1; have c2 : w1.cell? ⟨w.heap.size, 2, none⟩ = some (.int .i64 l) := v1.c2; have c3 : w1.cell? ⟨w.heap.size, 3, none⟩ = some (.int .i64 f) := v1.c3; have c4 : w1.cell? ⟨w.heap.size, 4, none⟩ = some (.int .i64 d) := v1.c4))
  refine wp_loop_rounds 4 ?_
  rw [rounds_succ]
  go_wp2
  rw [rounds_succ]
  go_wp2
  rw [rounds_succ]
  go_wp2
  rw [rounds_succ]
  go_wp2
  go_ret
  exact ⟨rfl, b1⟩

theorem check_bad0 (n s l f d : Int) (w : World) (h : (decide (n < 2) || decide (16 < n) || decide (s < 16) || decide (1048576 < s) || decide (l < d)) = true) : Calls Try.prog 12 #[mv ⟨n, s, l, f, d⟩] w fun e w' => e = .returned (.int .i64 1) ∧ Below w.heap.size w w' := by
  go_enter Try.func12, Try.ntmps12
  go_wp2_with (first
    | (refine wpList_boxm (x := ⟨n, s, l, f, d⟩) rfl (.tmp 0) rfl rfl ?_; intro w1 v1 b1 s1; have c0 : w1.cell? ⟨w.heap.size, 0, none⟩ = some (.int .i64 n) := v1.c0; have c1 : w1.cell? ⟨w.heap.size, 1, none⟩ = some (.int .i64 s) := v1.c1; have c2 : w1.cell? ⟨w.heap.size, 2, none⟩ = some (.int .i64 l) := v1.c2; have c3 : w1.cell? ⟨w.heap.size, 3, none⟩ = some (.int .i64 f) := v1.c3; have c4 : w1.cell? ⟨w.heap.size, 4, none⟩ = some (.int .i64 d) := v1.c4))
  all_goals
    go_ret
    exact ⟨rfl, b1⟩
set_option maxRecDepth 100000 in
theorem check_bad1 (n s l f d : Int) (w : World) (h1 : 2 ≤ n) (h2 : n ≤ 16) (h3 : 16 ≤ s) (h4 : s ≤ 1048576) (h8 : d ≤ l) (h : (decide (l < 1) || decide (s ≤ l)) = true) : Calls Try.prog 12 #[mv ⟨n, s, l, f, d⟩] w fun e w' => e = .returned (.int .i64 1) ∧ Below w.heap.size w w' := by
  have i0 := arr0 l f d
  go_enter Try.func12, Try.ntmps12
  go_wp2_with (first
    | (refine wpList_boxm (x := ⟨n, s, l, f, d⟩) rfl (.tmp 0) rfl rfl ?_; intro w1 v1 b1 s1; have c0 : w1.cell? ⟨w.heap.size, 0, none⟩ = some (.int .i64 n) := v1.c0; have c1 : w1.cell? ⟨w.heap.size, 1, none⟩ = some (.int .i64 s) := v1.c1; have c2 : w1.cell? ⟨w.heap.size, 2, none⟩ = some (.int .i64 l) := v1.c2; have c3 : w1.cell? ⟨w.heap.size, 3, none⟩ = some (.int .i64 f) := v1.c3; have c4 : w1.cell? ⟨w.heap.size, 4, none⟩ = some (.int .i64 d) := v1.c4))
  refine wp_loop_rounds 1 ?_
  rw [rounds_succ]
  go_wp2
  all_goals
    go_ret
    exact ⟨rfl, b1⟩
set_option maxRecDepth 100000 in
theorem check_bad2 (n s l f d : Int) (w : World) (h1 : 2 ≤ n) (h2 : n ≤ 16) (h3 : 16 ≤ s) (h4 : s ≤ 1048576) (h8 : d ≤ l) (h5 : 1 ≤ l) (h6 : l < s) (h : (decide (f < 1) || decide (s - l ≤ f)) = true) : Calls Try.prog 12 #[mv ⟨n, s, l, f, d⟩] w fun e w' => e = .returned (.int .i64 1) ∧ Below w.heap.size w w' := by
  have i0 := arr0 l f d
  have i1 := arr1 l f d
  go_enter Try.func12, Try.ntmps12
  go_wp2_with (first
    | (refine wpList_boxm (x := ⟨n, s, l, f, d⟩) rfl (.tmp 0) rfl rfl ?_; intro w1 v1 b1 s1; have c0 : w1.cell? ⟨w.heap.size, 0, none⟩ = some (.int .i64 n) := v1.c0; have c1 : w1.cell? ⟨w.heap.size, 1, none⟩ = some (.int .i64 s) := v1.c1; have c2 : w1.cell? ⟨w.heap.size, 2, none⟩ = some (.int .i64 l) := v1.c2; have c3 : w1.cell? ⟨w.heap.size, 3, none⟩ = some (.int .i64 f) := v1.c3; have c4 : w1.cell? ⟨w.heap.size, 4, none⟩ = some (.int .i64 d) := v1.c4))
  refine wp_loop_rounds 2 ?_
  rw [rounds_succ]
  go_wp2
  rw [rounds_succ]
  go_wp2
  all_goals
    go_ret
    exact ⟨rfl, b1⟩
set_option maxRecDepth 100000 in
theorem check_bad3 (n s l f d : Int) (w : World) (h1 : 2 ≤ n) (h2 : n ≤ 16) (h3 : 16 ≤ s) (h4 : s ≤ 1048576) (h8 : d ≤ l) (h5 : 1 ≤ l) (h6 : l < s) (h7 : 1 ≤ f) (h9 : f < s - l) (h : (decide (d < 1) || decide (s - l - f ≤ d)) = true) : Calls Try.prog 12 #[mv ⟨n, s, l, f, d⟩] w fun e w' => e = .returned (.int .i64 1) ∧ Below w.heap.size w w' := by
  have i0 := arr0 l f d
  have i1 := arr1 l f d
  have i2 := arr2 l f d
  go_enter Try.func12, Try.ntmps12
  go_wp2_with (first
    | (refine wpList_boxm (x := ⟨n, s, l, f, d⟩) rfl (.tmp 0) rfl rfl ?_; intro w1 v1 b1 s1; have c0 : w1.cell? ⟨w.heap.size, 0, none⟩ = some (.int .i64 n) := v1.c0; have c1 : w1.cell? ⟨w.heap.size, 1, none⟩ = some (.int .i64 s) := v1.c1; have c2 : w1.cell? ⟨w.heap.size, 2, none⟩ = some (.int .i64 l) := v1.c2; have c3 : w1.cell? ⟨w.heap.size, 3, none⟩ = some (.int .i64 f) := v1.c3; have c4 : w1.cell? ⟨w.heap.size, 4, none⟩ = some (.int .i64 d) := v1.c4))
  refine wp_loop_rounds 3 ?_
  rw [rounds_succ]
  go_wp2
  rw [rounds_succ]
  go_wp2
  rw [rounds_succ]
  go_wp2
  all_goals
    go_ret
    exact ⟨rfl, b1⟩
def okE (x : Md) : Int := if Ok x then 0 else 1
theorem check_any (x : Md) (w : World) : Calls Try.prog 12 #[mv x] w fun e w' => e = .returned (.int .i64 (okE x)) ∧ Below w.heap.size w w' := by
  obtain ⟨n, s, l, f, d⟩ := x
  by_cases h : Ok ⟨n, s, l, f, d⟩
  · unfold okE; rw [if_pos h]; exact check_ok n s l f d w h
  · unfold okE; rw [if_neg h]
    by_cases a0 : n < 2 ∨ 16 < n ∨ s < 16 ∨ 1048576 < s ∨ l < d
    · exact check_bad0 n s l f d w (by simp; omega)
    · by_cases a1 : l < 1 ∨ s ≤ l
      · exact check_bad1 n s l f d w (by omega) (by omega) (by omega) (by omega) (by omega) (by simp; omega)
      · by_cases a2 : f < 1 ∨ s - l ≤ f
        · exact check_bad2 n s l f d w (by omega) (by omega) (by omega) (by omega) (by omega) (by omega) (by omega) (by simp; omega)
        · exact check_bad3 n s l f d w (by omega) (by omega) (by omega) (by omega) (by omega) (by omega) (by omega) (by omega) (by omega) (by
            have : d < 1 ∨ s - l - f ≤ d := by
              by_cases c : d < 1 ∨ s - l - f ≤ d
              · exact c
              · exact absurd (show Ok ⟨n, s, l, f, d⟩ from ⟨by simp only; omega, by simp only; omega, by simp only; omega, by simp only; omega, by simp only; omega, by simp only; omega, by simp only; omega, by simp only; omega, by simp only; omega⟩) h
            simp; omega)
end Go.Proofs.Ytpncbfhbiifncaa
