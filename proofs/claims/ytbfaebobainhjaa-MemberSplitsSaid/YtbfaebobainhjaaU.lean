/-
  The document's own Count: what it answers, at every tally and verdict.
-/
import Derived.Test.YtbfaebobainhjaaT
namespace Go.Proofs.Ytbfaebobainhjaa
open Go Go.RowKit Go.Maps
theorem rcount_no0 (g b v : Int) (w : World) (h1 : v < 0) : Calls Try.prog 16 #[tv ⟨g, b⟩, .int .i64 v] w (RetT tz 1 w) := by
  go_enter Try.func16, Try.ntmps16
  go_wp2_with (first
    | (refine wpList_svt (x := tz) rfl (.tmp 4) (.tmp 32) rfl rfl rfl v2 ?_; intro w4 v4 b4 o4 s4)
    | (refine wpList_alt rfl rfl ?_; intro w2 v2 b2 s2; have c0 : w2.cell? ⟨w.heap.size, 0, none⟩ = some (.int .i64 g) := (v1.keep b2).c0; have c1 : w2.cell? ⟨w.heap.size, 1, none⟩ = some (.int .i64 b) := (v1.keep b2).c1)
    | (refine wpList_boxt (x := ⟨g, b⟩) rfl (.tmp 0) rfl rfl ?_; intro w1 v1 b1 s1))
  refine bodyPost_ret (w := w4) (results_ti Try.results16 _ rfl rfl v4) rfl ?_
  have S1 := s1.out; have S2 := s2.out
  exact ⟨rfl, (b1.trans (b2.mono (by omega))).trans (b4.mono (by omega))⟩
theorem rcount_no1 (g b v : Int) (w : World) (h1 : 3 < v) : Calls Try.prog 16 #[tv ⟨g, b⟩, .int .i64 v] w (RetT tz 1 w) := by
  go_enter Try.func16, Try.ntmps16
  go_wp2_with (first
    | (refine wpList_svt (x := tz) rfl (.tmp 4) (.tmp 32) rfl rfl rfl v2 ?_; intro w4 v4 b4 o4 s4)
    | (refine wpList_alt rfl rfl ?_; intro w2 v2 b2 s2; have c0 : w2.cell? ⟨w.heap.size, 0, none⟩ = some (.int .i64 g) := (v1.keep b2).c0; have c1 : w2.cell? ⟨w.heap.size, 1, none⟩ = some (.int .i64 b) := (v1.keep b2).c1)
    | (refine wpList_boxt (x := ⟨g, b⟩) rfl (.tmp 0) rfl rfl ?_; intro w1 v1 b1 s1))
  refine bodyPost_ret (w := w4) (results_ti Try.results16 _ rfl rfl v4) rfl ?_
  have S1 := s1.out; have S2 := s2.out
  exact ⟨rfl, (b1.trans (b2.mono (by omega))).trans (b4.mono (by omega))⟩
theorem rcount_no2 (g b v : Int) (w : World) (h1 : 0 ≤ v) (h2 : v ≤ 3) (h3 : g < 0) : Calls Try.prog 16 #[tv ⟨g, b⟩, .int .i64 v] w (RetT tz 1 w) := by
  go_enter Try.func16, Try.ntmps16
  go_wp2_with (first
    | (refine wpList_svt (x := tz) rfl (.tmp 4) (.tmp 32) rfl rfl rfl v2 ?_; intro w4 v4 b4 o4 s4)
    | (refine wpList_alt rfl rfl ?_; intro w2 v2 b2 s2; have c0 : w2.cell? ⟨w.heap.size, 0, none⟩ = some (.int .i64 g) := (v1.keep b2).c0; have c1 : w2.cell? ⟨w.heap.size, 1, none⟩ = some (.int .i64 b) := (v1.keep b2).c1)
    | (refine wpList_boxt (x := ⟨g, b⟩) rfl (.tmp 0) rfl rfl ?_; intro w1 v1 b1 s1))
  refine bodyPost_ret (w := w4) (results_ti Try.results16 _ rfl rfl v4) rfl ?_
  have S1 := s1.out; have S2 := s2.out
  exact ⟨rfl, (b1.trans (b2.mono (by omega))).trans (b4.mono (by omega))⟩
theorem rcount_no3 (g b v : Int) (w : World) (h1 : 0 ≤ v) (h2 : v ≤ 3) (h3 : 0 ≤ g) (h4 : b < 0) : Calls Try.prog 16 #[tv ⟨g, b⟩, .int .i64 v] w (RetT tz 1 w) := by
  go_enter Try.func16, Try.ntmps16
  go_wp2_with (first
    | (refine wpList_svt (x := tz) rfl (.tmp 4) (.tmp 32) rfl rfl rfl v2 ?_; intro w4 v4 b4 o4 s4)
    | (refine wpList_alt rfl rfl ?_; intro w2 v2 b2 s2; have c0 : w2.cell? ⟨w.heap.size, 0, none⟩ = some (.int .i64 g) := (v1.keep b2).c0; have c1 : w2.cell? ⟨w.heap.size, 1, none⟩ = some (.int .i64 b) := (v1.keep b2).c1)
    | (refine wpList_boxt (x := ⟨g, b⟩) rfl (.tmp 0) rfl rfl ?_; intro w1 v1 b1 s1))
  refine bodyPost_ret (w := w4) (results_ti Try.results16 _ rfl rfl v4) rfl ?_
  have S1 := s1.out; have S2 := s2.out
  exact ⟨rfl, (b1.trans (b2.mono (by omega))).trans (b4.mono (by omega))⟩
theorem rcount_no4 (g b v : Int) (w : World) (h1 : 0 ≤ v) (h2 : v ≤ 3) (h3 : 0 ≤ g) (h4 : 0 ≤ b) (h5 : 1073741824 < g) : Calls Try.prog 16 #[tv ⟨g, b⟩, .int .i64 v] w (RetT tz 1 w) := by
  go_enter Try.func16, Try.ntmps16
  go_wp2_with (first
    | (refine wpList_svt (x := tz) rfl (.tmp 4) (.tmp 32) rfl rfl rfl v2 ?_; intro w4 v4 b4 o4 s4)
    | (refine wpList_alt rfl rfl ?_; intro w2 v2 b2 s2; have c0 : w2.cell? ⟨w.heap.size, 0, none⟩ = some (.int .i64 g) := (v1.keep b2).c0; have c1 : w2.cell? ⟨w.heap.size, 1, none⟩ = some (.int .i64 b) := (v1.keep b2).c1)
    | (refine wpList_boxt (x := ⟨g, b⟩) rfl (.tmp 0) rfl rfl ?_; intro w1 v1 b1 s1))
  refine bodyPost_ret (w := w4) (results_ti Try.results16 _ rfl rfl v4) rfl ?_
  have S1 := s1.out; have S2 := s2.out
  exact ⟨rfl, (b1.trans (b2.mono (by omega))).trans (b4.mono (by omega))⟩
theorem rcount_no5 (g b v : Int) (w : World) (h1 : 0 ≤ v) (h2 : v ≤ 3) (h3 : 0 ≤ g) (h4 : 0 ≤ b) (h5 : g ≤ 1073741824) (h6 : 1073741824 < b) : Calls Try.prog 16 #[tv ⟨g, b⟩, .int .i64 v] w (RetT tz 1 w) := by
  go_enter Try.func16, Try.ntmps16
  go_wp2_with (first
    | (refine wpList_svt (x := tz) rfl (.tmp 4) (.tmp 32) rfl rfl rfl v2 ?_; intro w4 v4 b4 o4 s4)
    | (refine wpList_alt rfl rfl ?_; intro w2 v2 b2 s2; have c0 : w2.cell? ⟨w.heap.size, 0, none⟩ = some (.int .i64 g) := (v1.keep b2).c0; have c1 : w2.cell? ⟨w.heap.size, 1, none⟩ = some (.int .i64 b) := (v1.keep b2).c1)
    | (refine wpList_boxt (x := ⟨g, b⟩) rfl (.tmp 0) rfl rfl ?_; intro w1 v1 b1 s1))
  refine bodyPost_ret (w := w4) (results_ti Try.results16 _ rfl rfl v4) rfl ?_
  have S1 := s1.out; have S2 := s2.out
  exact ⟨rfl, (b1.trans (b2.mono (by omega))).trans (b4.mono (by omega))⟩
theorem rcount_ok0 (g b : Int) (w : World) (h1 : 0 ≤ g) (h2 : g ≤ 1073741824) (h3 : 0 ≤ b) (h4 : b ≤ 1073741824) : Calls Try.prog 16 #[tv ⟨g, b⟩, .int .i64 0] w (RetT ⟨g, b⟩ 0 w) := by
  go_enter Try.func16, Try.ntmps16
  go_wp2_with (first
    | (refine wpList_svt rfl (.tmp 4) (.tmp 51) rfl rfl rfl v2 ?_; intro w4 v4 b4 o4 s4)
    | (refine wpList_ldt rfl (.tmp 2) rfl rfl u2 ?_)
    | (refine wpList_alt rfl rfl ?_; intro w2 v2 b2 s2; have u2 := v1.keep b2; have c0 : w2.cell? ⟨w.heap.size, 0, none⟩ = some (.int .i64 (g)) := u2.c0; have c1 : w2.cell? ⟨w.heap.size, 1, none⟩ = some (.int .i64 (b)) := u2.c1; clear v1)
    | (refine wpList_boxt (x := ⟨g, b⟩) rfl (.tmp 0) rfl rfl ?_; intro w1 v1 b1 s1))
  refine bodyPost_ret (w := w4) (results_ti Try.results16 _ rfl rfl v4) rfl ?_
  have S1 := s1.out; have S2 := s2.out
  exact ⟨rfl, (b1.trans (b2.mono (by omega))).trans (b4.mono (by omega))⟩
theorem rcount_ok1_in (g b : Int) (w : World) (h1 : 0 ≤ g) (h2 : g + 1 ≤ 1073741824) (h3 : 0 ≤ b) (h4 : b ≤ 1073741824) : Calls Try.prog 16 #[tv ⟨g, b⟩, .int .i64 1] w (RetT ⟨g + 1, b⟩ 0 w) := by
  go_enter Try.func16, Try.ntmps16
  go_wp2_with (first
    | (refine wpList_svt rfl (.tmp 4) (.tmp 51) rfl rfl rfl v3 ?_; intro w4 v4 b4 o4 s4)
    | (refine wpList_ldt rfl (.tmp 2) rfl rfl u3 ?_)
    | (refine wpList_sg rfl (.tmp 43) (.tmp 42) rfl rfl rfl u2 ?_; intro w3 u3 b3 o3 s3; have v3 := v2.other o3 (by have := s1.out; omega))
    | (refine wpList_alt rfl rfl ?_; intro w2 v2 b2 s2; have u2 := v1.keep b2; have c0 : w2.cell? ⟨w.heap.size, 0, none⟩ = some (.int .i64 (g)) := u2.c0; have c1 : w2.cell? ⟨w.heap.size, 1, none⟩ = some (.int .i64 (b)) := u2.c1; clear v1)
    | (refine wpList_boxt (x := ⟨g, b⟩) rfl (.tmp 0) rfl rfl ?_; intro w1 v1 b1 s1))
  refine bodyPost_ret (w := w4) (results_ti Try.results16 _ rfl rfl v4) rfl ?_
  have S1 := s1.out; have S2 := s2.out; have S3 := s3.out
  exact ⟨rfl, ((b1.trans (b2.mono (by omega))).trans (b3.mono (by omega))).trans (b4.mono (by omega))⟩
theorem rcount_ok1_top (b : Int) (w : World) (h3 : 0 ≤ b) (h4 : b ≤ 1073741824) : Calls Try.prog 16 #[tv ⟨1073741824, b⟩, .int .i64 1] w (RetT ⟨1073741824, b⟩ 0 w) := by
  go_enter Try.func16, Try.ntmps16
  go_wp2_with (first
    | (refine wpList_svt rfl (.tmp 4) (.tmp 51) rfl rfl rfl v3 ?_; intro w4 v4 b4 o4 s4)
    | (refine wpList_ldt rfl (.tmp 2) rfl rfl u3 ?_)
    | (refine wpList_sg rfl (.tmp 43) (.tmp 42) rfl rfl rfl u2 ?_; intro w3 u3 b3 o3 s3; have v3 := v2.other o3 (by have := s1.out; omega))
    | (refine wpList_alt rfl rfl ?_; intro w2 v2 b2 s2; have u2 := v1.keep b2; have c0 : w2.cell? ⟨w.heap.size, 0, none⟩ = some (.int .i64 (1073741824)) := u2.c0; have c1 : w2.cell? ⟨w.heap.size, 1, none⟩ = some (.int .i64 (b)) := u2.c1; clear v1)
    | (refine wpList_boxt (x := ⟨1073741824, b⟩) rfl (.tmp 0) rfl rfl ?_; intro w1 v1 b1 s1))
  refine bodyPost_ret (w := w4) (results_ti Try.results16 _ rfl rfl v4) rfl ?_
  have S1 := s1.out; have S2 := s2.out; have S3 := s3.out
  exact ⟨rfl, ((b1.trans (b2.mono (by omega))).trans (b3.mono (by omega))).trans (b4.mono (by omega))⟩
theorem rcount_ok2_in (g b : Int) (w : World) (h1 : 0 ≤ g) (h2 : g + 1 ≤ 1073741824) (h3 : 0 ≤ b) (h4 : b ≤ 1073741824) : Calls Try.prog 16 #[tv ⟨g, b⟩, .int .i64 2] w (RetT ⟨g + 1, b⟩ 0 w) := by
  go_enter Try.func16, Try.ntmps16
  go_wp2_with (first
    | (refine wpList_svt rfl (.tmp 4) (.tmp 51) rfl rfl rfl v3 ?_; intro w4 v4 b4 o4 s4)
    | (refine wpList_ldt rfl (.tmp 2) rfl rfl u3 ?_)
    | (refine wpList_sg rfl (.tmp 43) (.tmp 42) rfl rfl rfl u2 ?_; intro w3 u3 b3 o3 s3; have v3 := v2.other o3 (by have := s1.out; omega))
    | (refine wpList_alt rfl rfl ?_; intro w2 v2 b2 s2; have u2 := v1.keep b2; have c0 : w2.cell? ⟨w.heap.size, 0, none⟩ = some (.int .i64 (g)) := u2.c0; have c1 : w2.cell? ⟨w.heap.size, 1, none⟩ = some (.int .i64 (b)) := u2.c1; clear v1)
    | (refine wpList_boxt (x := ⟨g, b⟩) rfl (.tmp 0) rfl rfl ?_; intro w1 v1 b1 s1))
  refine bodyPost_ret (w := w4) (results_ti Try.results16 _ rfl rfl v4) rfl ?_
  have S1 := s1.out; have S2 := s2.out; have S3 := s3.out
  exact ⟨rfl, ((b1.trans (b2.mono (by omega))).trans (b3.mono (by omega))).trans (b4.mono (by omega))⟩
theorem rcount_ok2_top (b : Int) (w : World) (h3 : 0 ≤ b) (h4 : b ≤ 1073741824) : Calls Try.prog 16 #[tv ⟨1073741824, b⟩, .int .i64 2] w (RetT ⟨1073741824, b⟩ 0 w) := by
  go_enter Try.func16, Try.ntmps16
  go_wp2_with (first
    | (refine wpList_svt rfl (.tmp 4) (.tmp 51) rfl rfl rfl v3 ?_; intro w4 v4 b4 o4 s4)
    | (refine wpList_ldt rfl (.tmp 2) rfl rfl u3 ?_)
    | (refine wpList_sg rfl (.tmp 43) (.tmp 42) rfl rfl rfl u2 ?_; intro w3 u3 b3 o3 s3; have v3 := v2.other o3 (by have := s1.out; omega))
    | (refine wpList_alt rfl rfl ?_; intro w2 v2 b2 s2; have u2 := v1.keep b2; have c0 : w2.cell? ⟨w.heap.size, 0, none⟩ = some (.int .i64 (1073741824)) := u2.c0; have c1 : w2.cell? ⟨w.heap.size, 1, none⟩ = some (.int .i64 (b)) := u2.c1; clear v1)
    | (refine wpList_boxt (x := ⟨1073741824, b⟩) rfl (.tmp 0) rfl rfl ?_; intro w1 v1 b1 s1))
  refine bodyPost_ret (w := w4) (results_ti Try.results16 _ rfl rfl v4) rfl ?_
  have S1 := s1.out; have S2 := s2.out; have S3 := s3.out
  exact ⟨rfl, ((b1.trans (b2.mono (by omega))).trans (b3.mono (by omega))).trans (b4.mono (by omega))⟩
theorem rcount_ok3_in (g b : Int) (w : World) (h1 : 0 ≤ g) (h2 : g ≤ 1073741824) (h3 : 0 ≤ b) (h4 : b + 1 ≤ 1073741824) : Calls Try.prog 16 #[tv ⟨g, b⟩, .int .i64 3] w (RetT ⟨g, b + 1⟩ 0 w) := by
  go_enter Try.func16, Try.ntmps16
  go_wp2_with (first
    | (refine wpList_svt rfl (.tmp 4) (.tmp 51) rfl rfl rfl v3 ?_; intro w4 v4 b4 o4 s4)
    | (refine wpList_ldt rfl (.tmp 2) rfl rfl u3 ?_)
    | (refine wpList_sb rfl (.tmp 50) (.tmp 49) rfl rfl rfl u2 ?_; intro w3 u3 b3 o3 s3; have v3 := v2.other o3 (by have := s1.out; omega))
    | (refine wpList_alt rfl rfl ?_; intro w2 v2 b2 s2; have u2 := v1.keep b2; have c0 : w2.cell? ⟨w.heap.size, 0, none⟩ = some (.int .i64 (g)) := u2.c0; have c1 : w2.cell? ⟨w.heap.size, 1, none⟩ = some (.int .i64 (b)) := u2.c1; clear v1)
    | (refine wpList_boxt (x := ⟨g, b⟩) rfl (.tmp 0) rfl rfl ?_; intro w1 v1 b1 s1))
  refine bodyPost_ret (w := w4) (results_ti Try.results16 _ rfl rfl v4) rfl ?_
  have S1 := s1.out; have S2 := s2.out; have S3 := s3.out
  exact ⟨rfl, ((b1.trans (b2.mono (by omega))).trans (b3.mono (by omega))).trans (b4.mono (by omega))⟩
theorem rcount_ok3_top (g : Int) (w : World) (h1 : 0 ≤ g) (h2 : g ≤ 1073741824) : Calls Try.prog 16 #[tv ⟨g, 1073741824⟩, .int .i64 3] w (RetT ⟨g, 1073741824⟩ 0 w) := by
  go_enter Try.func16, Try.ntmps16
  go_wp2_with (first
    | (refine wpList_svt rfl (.tmp 4) (.tmp 51) rfl rfl rfl v3 ?_; intro w4 v4 b4 o4 s4)
    | (refine wpList_ldt rfl (.tmp 2) rfl rfl u3 ?_)
    | (refine wpList_sb rfl (.tmp 50) (.tmp 49) rfl rfl rfl u2 ?_; intro w3 u3 b3 o3 s3; have v3 := v2.other o3 (by have := s1.out; omega))
    | (refine wpList_alt rfl rfl ?_; intro w2 v2 b2 s2; have u2 := v1.keep b2; have c0 : w2.cell? ⟨w.heap.size, 0, none⟩ = some (.int .i64 (g)) := u2.c0; have c1 : w2.cell? ⟨w.heap.size, 1, none⟩ = some (.int .i64 (1073741824)) := u2.c1; clear v1)
    | (refine wpList_boxt (x := ⟨g, 1073741824⟩) rfl (.tmp 0) rfl rfl ?_; intro w1 v1 b1 s1))
  refine bodyPost_ret (w := w4) (results_ti Try.results16 _ rfl rfl v4) rfl ?_
  have S1 := s1.out; have S2 := s2.out; have S3 := s3.out
  exact ⟨rfl, ((b1.trans (b2.mono (by omega))).trans (b3.mono (by omega))).trans (b4.mono (by omega))⟩
theorem inc_top : inc 1073741824 = 1073741824 := rfl
theorem rcount_any (x : Ty) (v : Int) (w : World) : Calls Try.prog 16 #[tv x, .int .i64 v] w (RetT (cntT x v) (cntE x v) w) := by
  obtain ⟨g, b⟩ := x
  by_cases h : OkV v ∧ OkT ⟨g, b⟩
  · have e1 : cntT ⟨g, b⟩ v = cnt ⟨g, b⟩ v := if_pos h
    have e2 : cntE ⟨g, b⟩ v = 0 := if_pos h
    rw [e1, e2]
    obtain ⟨hv, ⟨h1, h2⟩, h3, h4⟩ := h
    simp only at h1 h2 h3 h4
    unfold OkV at hv
    clear e1 e2
    obtain rfl | rfl | rfl | rfl : v = 0 ∨ v = 1 ∨ v = 2 ∨ v = 3 := by omega
    · exact rcount_ok0 g b w h1 h2 h3 h4
    · by_cases hi : g + 1 ≤ 1073741824
      · show Calls _ _ _ _ (RetT ⟨inc g, b⟩ 0 w); rw [inc_in hi]; exact rcount_ok1_in g b w h1 hi h3 h4
      · obtain rfl : g = 1073741824 := by omega
        exact rcount_ok1_top b w h3 h4
    · by_cases hi : g + 1 ≤ 1073741824
      · show Calls _ _ _ _ (RetT ⟨inc g, b⟩ 0 w); rw [inc_in hi]; exact rcount_ok2_in g b w h1 hi h3 h4
      · obtain rfl : g = 1073741824 := by omega
        exact rcount_ok2_top b w h3 h4
    · by_cases hi : b + 1 ≤ 1073741824
      · show Calls _ _ _ _ (RetT ⟨g, inc b⟩ 0 w); rw [inc_in hi]; exact rcount_ok3_in g b w h1 h2 h3 hi
      · obtain rfl : b = 1073741824 := by omega
        exact rcount_ok3_top g w h1 h2
  · have e1 : cntT ⟨g, b⟩ v = tz := if_neg h
    have e2 : cntE ⟨g, b⟩ v = 1 := if_neg h
    rw [e1, e2]
    unfold OkV OkT OkN at h
    simp only at h
    by_cases a0 : v < 0
    · exact rcount_no0 g b v w a0
    by_cases a1 : 3 < v
    · exact rcount_no1 g b v w a1
    by_cases a2 : g < 0
    · exact rcount_no2 g b v w (by omega) (by omega) a2
    by_cases a3 : b < 0
    · exact rcount_no3 g b v w (by omega) (by omega) (by omega) a3
    by_cases a4 : 1073741824 < g
    · exact rcount_no4 g b v w (by omega) (by omega) (by omega) (by omega) a4
    · exact rcount_no5 g b v w (by omega) (by omega) (by omega) (by omega) (by omega) (by omega)
end Go.Proofs.Ytbfaebobainhjaa
