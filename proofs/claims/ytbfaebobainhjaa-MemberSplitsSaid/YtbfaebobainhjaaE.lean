/-
  The document's own Check of a schedule: what it answers, at every schedule.
-/
import Derived.Test.YtbfaebobainhjaaC
namespace Go.Proofs.Ytbfaebobainhjaa
open Go Go.RowKit
set_option maxRecDepth 100000 in
theorem rcheck_bad0 (n s l f d : Int) (w : World) (h : (decide (n < 2) || decide (16 < n) || decide (s < 16) || decide (1048576 < s)) = true) : Calls Try.prog 49 #[mv ⟨n, s, l, f, d⟩] w fun e w' => e = .returned (.int .i64 1) ∧ Below w.heap.size w w' := by
  go_enter Try.func49, Try.ntmps49
  go_wp2_with (first
    | (refine wpList_boxm (x := ⟨n, s, l, f, d⟩) rfl (.tmp 0) rfl rfl ?_; intro w1 v1 b1 s1; have c0 : w1.cell? ⟨w.heap.size, 0, none⟩ = some (.int .i64 n) := v1.c0; have c1 : w1.cell? ⟨w.heap.size, 1, none⟩ = some (.int .i64 s) := v1.c1; have c2 : w1.cell? ⟨w.heap.size, 2, none⟩ = some (.int .i64 l) := v1.c2; have c3 : w1.cell? ⟨w.heap.size, 3, none⟩ = some (.int .i64 f) := v1.c3; have c4 : w1.cell? ⟨w.heap.size, 4, none⟩ = some (.int .i64 d) := v1.c4; have hlt := v1.lt))
  all_goals
    go_ret
    exact ⟨rfl, b1⟩
set_option maxRecDepth 100000 in
theorem rcheck_bad1 (n s l f d : Int) (w : World) (h1 : 2 ≤ n) (h2 : n ≤ 16) (h3 : 16 ≤ s) (h4 : s ≤ 1048576) (h : (decide (l < 1) || decide (s ≤ l)) = true) : Calls Try.prog 49 #[mv ⟨n, s, l, f, d⟩] w fun e w' => e = .returned (.int .i64 1) ∧ Below w.heap.size w w' := by
  go_enter Try.func49, Try.ntmps49
  go_wp2_with (first
    | (refine wpList_boxm (x := ⟨n, s, l, f, d⟩) rfl (.tmp 0) rfl rfl ?_; intro w1 v1 b1 s1; have c0 : w1.cell? ⟨w.heap.size, 0, none⟩ = some (.int .i64 n) := v1.c0; have c1 : w1.cell? ⟨w.heap.size, 1, none⟩ = some (.int .i64 s) := v1.c1; have c2 : w1.cell? ⟨w.heap.size, 2, none⟩ = some (.int .i64 l) := v1.c2; have c3 : w1.cell? ⟨w.heap.size, 3, none⟩ = some (.int .i64 f) := v1.c3; have c4 : w1.cell? ⟨w.heap.size, 4, none⟩ = some (.int .i64 d) := v1.c4; have hlt := v1.lt))
  refine wp_loop_rounds 2 ?_
  rw [rounds_succ]
  go_wp2
  all_goals
    go_ret
    exact ⟨rfl, b1.alloc b1.size _⟩
set_option maxRecDepth 100000 in
theorem rcheck_bad2 (n s l f d : Int) (w : World) (h1 : 2 ≤ n) (h2 : n ≤ 16) (h3 : 16 ≤ s) (h4 : s ≤ 1048576) (h5 : 1 ≤ l) (h6 : l < s) (h : (decide (f < 1) || decide (s ≤ f)) = true) : Calls Try.prog 49 #[mv ⟨n, s, l, f, d⟩] w fun e w' => e = .returned (.int .i64 1) ∧ Below w.heap.size w w' := by
  go_enter Try.func49, Try.ntmps49
  go_wp2_with (first
    | (refine wpList_boxm (x := ⟨n, s, l, f, d⟩) rfl (.tmp 0) rfl rfl ?_; intro w1 v1 b1 s1; have c0 : w1.cell? ⟨w.heap.size, 0, none⟩ = some (.int .i64 n) := v1.c0; have c1 : w1.cell? ⟨w.heap.size, 1, none⟩ = some (.int .i64 s) := v1.c1; have c2 : w1.cell? ⟨w.heap.size, 2, none⟩ = some (.int .i64 l) := v1.c2; have c3 : w1.cell? ⟨w.heap.size, 3, none⟩ = some (.int .i64 f) := v1.c3; have c4 : w1.cell? ⟨w.heap.size, 4, none⟩ = some (.int .i64 d) := v1.c4; have hlt := v1.lt))
  refine wp_loop_rounds 3 ?_
  rw [rounds_succ]
  go_wp2
  rw [rounds_succ]
  go_wp2
  all_goals
    go_ret
    exact ⟨rfl, b1.alloc b1.size _⟩
set_option maxRecDepth 100000 in
theorem rcheck_bad3 (n s l f d : Int) (w : World) (h1 : 2 ≤ n) (h2 : n ≤ 16) (h3 : 16 ≤ s) (h4 : s ≤ 1048576) (h5 : 1 ≤ l) (h6 : l < s) (h7 : 1 ≤ f) (h8 : f < s) (h : (decide (d < 1) || decide (s ≤ d)) = true) : Calls Try.prog 49 #[mv ⟨n, s, l, f, d⟩] w fun e w' => e = .returned (.int .i64 1) ∧ Below w.heap.size w w' := by
  go_enter Try.func49, Try.ntmps49
  go_wp2_with (first
    | (refine wpList_boxm (x := ⟨n, s, l, f, d⟩) rfl (.tmp 0) rfl rfl ?_; intro w1 v1 b1 s1; have c0 : w1.cell? ⟨w.heap.size, 0, none⟩ = some (.int .i64 n) := v1.c0; have c1 : w1.cell? ⟨w.heap.size, 1, none⟩ = some (.int .i64 s) := v1.c1; have c2 : w1.cell? ⟨w.heap.size, 2, none⟩ = some (.int .i64 l) := v1.c2; have c3 : w1.cell? ⟨w.heap.size, 3, none⟩ = some (.int .i64 f) := v1.c3; have c4 : w1.cell? ⟨w.heap.size, 4, none⟩ = some (.int .i64 d) := v1.c4; have hlt := v1.lt))
  refine wp_loop_rounds 4 ?_
  rw [rounds_succ]
  go_wp2
  rw [rounds_succ]
  go_wp2
  rw [rounds_succ]
  go_wp2
  all_goals
    go_ret
    exact ⟨rfl, b1.alloc b1.size _⟩
set_option maxRecDepth 100000 in
theorem rcheck_bad4 (n s l f d : Int) (w : World) (h1 : 2 ≤ n) (h2 : n ≤ 16) (h3 : 16 ≤ s) (h4 : s ≤ 1048576) (h5 : 1 ≤ l) (h6 : l < s) (h7 : 1 ≤ f) (h8 : f < s) (h9 : 1 ≤ d) (ha : d < s) (h : (decide (l < d) || decide (s ≤ l + f + d)) = true) : Calls Try.prog 49 #[mv ⟨n, s, l, f, d⟩] w fun e w' => e = .returned (.int .i64 1) ∧ Below w.heap.size w w' := by
  go_enter Try.func49, Try.ntmps49
  go_wp2_with (first
    | (refine wpList_boxm (x := ⟨n, s, l, f, d⟩) rfl (.tmp 0) rfl rfl ?_; intro w1 v1 b1 s1; have c0 : w1.cell? ⟨w.heap.size, 0, none⟩ = some (.int .i64 n) := v1.c0; have c1 : w1.cell? ⟨w.heap.size, 1, none⟩ = some (.int .i64 s) := v1.c1; have c2 : w1.cell? ⟨w.heap.size, 2, none⟩ = some (.int .i64 l) := v1.c2; have c3 : w1.cell? ⟨w.heap.size, 3, none⟩ = some (.int .i64 f) := v1.c3; have c4 : w1.cell? ⟨w.heap.size, 4, none⟩ = some (.int .i64 d) := v1.c4; have hlt := v1.lt))
  refine wp_loop_rounds 5 ?_
  rw [rounds_succ]
  go_wp2
  rw [rounds_succ]
  go_wp2
  rw [rounds_succ]
  go_wp2
  rw [rounds_succ]
  go_wp2
  all_goals
    go_ret
    exact ⟨rfl, b1.alloc b1.size _⟩
set_option maxRecDepth 100000 in
theorem rcheck_ok (n s l f d : Int) (w : World) (h1 : 2 ≤ n) (h2 : n ≤ 16) (h3 : 16 ≤ s) (h4 : s ≤ 1048576) (h5 : 1 ≤ l) (h6 : l < s) (h7 : 1 ≤ f) (h8 : f < s) (h9 : 1 ≤ d) (ha : d < s) (hb : d ≤ l) (hc : l + f + d < s) : Calls Try.prog 49 #[mv ⟨n, s, l, f, d⟩] w fun e w' => e = .returned (.int .i64 0) ∧ Below w.heap.size w w' := by
  go_enter Try.func49, Try.ntmps49
  go_wp2_with (first
    | (refine wpList_boxm (x := ⟨n, s, l, f, d⟩) rfl (.tmp 0) rfl rfl ?_; intro w1 v1 b1 s1; have c0 : w1.cell? ⟨w.heap.size, 0, none⟩ = some (.int .i64 n) := v1.c0; have c1 : w1.cell? ⟨w.heap.size, 1, none⟩ = some (.int .i64 s) := v1.c1; have c2 : w1.cell? ⟨w.heap.size, 2, none⟩ = some (.int .i64 l) := v1.c2; have c3 : w1.cell? ⟨w.heap.size, 3, none⟩ = some (.int .i64 f) := v1.c3; have c4 : w1.cell? ⟨w.heap.size, 4, none⟩ = some (.int .i64 d) := v1.c4; have hlt := v1.lt))
  refine wp_loop_rounds 5 ?_
  rw [rounds_succ]
  go_wp2
  rw [rounds_succ]
  go_wp2
  rw [rounds_succ]
  go_wp2
  rw [rounds_succ]
  go_wp2
  all_goals
    go_ret
    exact ⟨rfl, b1.alloc b1.size _⟩
theorem rcheck_any (x : Md) (w : World) : Calls Try.prog 49 #[mv x] w fun e w' => e = .returned (.int .i64 (okE x)) ∧ Below w.heap.size w w' := by
  obtain ⟨n, s, l, f, d⟩ := x
  by_cases h : Ok ⟨n, s, l, f, d⟩
  · unfold okE; rw [if_pos h]
    obtain ⟨h1, h2, h3, h4, h5, h6, h7, h8, h9⟩ := h
    simp only at h1 h2 h3 h4 h5 h6 h7 h8 h9
    exact rcheck_ok n s l f d w h1 h2 h3 h4 h5 (by omega) h6 (by omega) h7 (by omega) h8 h9
  · unfold okE; rw [if_neg h]
    by_cases a0 : n < 2 ∨ 16 < n ∨ s < 16 ∨ 1048576 < s
    · exact rcheck_bad0 n s l f d w (by simp; omega)
    · by_cases a1 : l < 1 ∨ s ≤ l
      · exact rcheck_bad1 n s l f d w (by omega) (by omega) (by omega) (by omega) (by simp; omega)
      · by_cases a2 : f < 1 ∨ s ≤ f
        · exact rcheck_bad2 n s l f d w (by omega) (by omega) (by omega) (by omega) (by omega) (by omega) (by simp; omega)
        · by_cases a3 : d < 1 ∨ s ≤ d
          · exact rcheck_bad3 n s l f d w (by omega) (by omega) (by omega) (by omega) (by omega) (by omega) (by omega) (by omega) (by simp; omega)
          · exact rcheck_bad4 n s l f d w (by omega) (by omega) (by omega) (by omega) (by omega) (by omega) (by omega) (by omega) (by omega) (by omega) (by
              have : l < d ∨ s ≤ l + f + d := by
                by_cases c : l < d ∨ s ≤ l + f + d
                · exact c
                · exact absurd (show Ok ⟨n, s, l, f, d⟩ from ⟨by simp only; omega, by simp only; omega, by simp only; omega, by simp only; omega, by simp only; omega, by simp only; omega, by simp only; omega, by simp only; omega, by simp only; omega⟩) h
              simp; omega)
end Go.Proofs.Ytbfaebobainhjaa
