/-
  The contract of the document's own Text (palletref14.Text), given those of its Digits and of palletref01.Text.
-/
import Derived.Test.YtkfnkieljcipnaaGreatDoorK4
import Derived.Test.YtkfnkieljcipnaaGreatDoorZMB
namespace Go.Proofs.YtkfnkieljcipnaaGreatDoor
open Go Go.RowKit Go.Joins

set_option maxHeartbeats 1000000 in
set_option maxRecDepth 100000 in
theorem rtext_n_true_z (s : List UInt8) (w : World) (HX : ∀ w : World, Calls Tryz.prog 73 #[.int .i64 0] w fun e w' => e = .returned (.tuple #[.string (bA (numX 0 true)), .int .i64 0]) ∧ Below w.heap.size w w') : Calls Tryz.prog 54 #[tkV ⟨2, s, 0, true⟩] w fun e w' => e = .returned (textR ⟨2, s, 0, true⟩) ∧ Below w.heap.size w w' := by
  have hb : strB s = bA s := rfl
  have HX := hid HX
  have HR : Hid (textF ⟨2, s, 0, true⟩ = some (numX 0 true)) := hid (by unfold textF; rw [if_pos ⟨rfl, rfl⟩])
  go_enter Tryz.func54, Tryz.ntmps54
  go_upto_region 2 with (first
    | (refine Sh.wp_box tkS (x := ⟨2, s, 0, true⟩) rfl (.tmp 0) rfl rfl ?_; intro w1 v1 b1 s1; have c0 : w1.cell? ⟨w.heap.size, 0, none⟩ = some (.int .i64 2) := v1.cell (j := 0) rfl; have c1 : w1.cell? ⟨w.heap.size, 1, none⟩ = some (.string (bA s)) := v1.cell (j := 1) rfl; have c2 : w1.cell? ⟨w.heap.size, 2, none⟩ = some (.int .i64 0) := v1.cell (j := 2) rfl; have c3 : w1.cell? ⟨w.heap.size, 3, none⟩ = some (.bool true) := v1.cell (j := 3) rfl; have B1 := hid b1; have V1 := hid v1; clear v1 b1 s1))
  go_wp2_with (first
    | (go_at_call 73; refine (HX.out w1).mono ?_; rintro e w2 ⟨rfl, g2⟩; have B2 := hid (B1.out.trans (g2.mono B1.out.size)); clear g2))
  go_ret2
  exact ⟨by unfold textR; rw [HR.out]; rfl, B2.out⟩
set_option maxHeartbeats 1000000 in
set_option maxRecDepth 100000 in
theorem rtext_n_true_x (s : List UInt8) (n : Int) (w : World) (hs : smallI n = true) (h0 : n ≠ 0) (HX : ∀ w : World, Calls Tryz.prog 73 #[.int .i64 n] w fun e w' => e = .returned (.tuple #[.string (bA (numX n true)), .int .i64 0]) ∧ Below w.heap.size w w') : Calls Tryz.prog 54 #[tkV ⟨2, s, n, true⟩] w fun e w' => e = .returned (textR ⟨2, s, n, true⟩) ∧ Below w.heap.size w w' := by
  have hb : strB s = bA s := rfl
  have HX := hid HX
  have hs' : -1000000000000000000 < n ∧ n < 1000000000000000000 := by simpa [smallI] using hs
  have HR : Hid (textF ⟨2, s, n, true⟩ = some (numX n true)) := hid (by unfold textF; rw [if_pos ⟨rfl, hs⟩])
  have hn1 : (n == 0) = false := beq_eq_false_iff_ne.2 h0
  have q1 : ¬ 1000000000000000000 ≤ n := by omega
  have q2 : ¬ n ≤ -1000000000000000000 := by omega
  clear hs h0 hs'
  go_enter Tryz.func54, Tryz.ntmps54
  go_upto_region 2 with (first
    | (refine Sh.wp_box tkS (x := ⟨2, s, n, true⟩) rfl (.tmp 0) rfl rfl ?_; intro w1 v1 b1 s1; have c0 : w1.cell? ⟨w.heap.size, 0, none⟩ = some (.int .i64 2) := v1.cell (j := 0) rfl; have c1 : w1.cell? ⟨w.heap.size, 1, none⟩ = some (.string (bA s)) := v1.cell (j := 1) rfl; have c2 : w1.cell? ⟨w.heap.size, 2, none⟩ = some (.int .i64 n) := v1.cell (j := 2) rfl; have c3 : w1.cell? ⟨w.heap.size, 3, none⟩ = some (.bool true) := v1.cell (j := 3) rfl; have B1 := hid b1; have V1 := hid v1; clear v1 b1 s1))
  go_wp2_with (first
    | (go_at_call 73; refine (HX.out w1).mono ?_; rintro e w2 ⟨rfl, g2⟩; have B2 := hid (B1.out.trans (g2.mono B1.out.size)); clear g2))
  go_ret2
  exact ⟨by unfold textR; rw [HR.out]; rfl, B2.out⟩
set_option maxHeartbeats 1000000 in
set_option maxRecDepth 100000 in
theorem rtext_n_false_z (s : List UInt8) (w : World) (HD : ∀ w : World, Calls Tryz.prog 74 #[.int .i64 0] w fun e w' => e = .returned (.string (bA (numX 0 false))) ∧ Below w.heap.size w w') : Calls Tryz.prog 54 #[tkV ⟨2, s, 0, false⟩] w fun e w' => e = .returned (textR ⟨2, s, 0, false⟩) ∧ Below w.heap.size w w' := by
  have hb : strB s = bA s := rfl
  have HD := hid HD
  have HR : Hid (textF ⟨2, s, 0, false⟩ = some (numX 0 false)) := hid (by unfold textF; rw [if_pos ⟨rfl, rfl⟩])
  go_enter Tryz.func54, Tryz.ntmps54
  go_upto_region 2 with (first
    | (refine Sh.wp_box tkS (x := ⟨2, s, 0, false⟩) rfl (.tmp 0) rfl rfl ?_; intro w1 v1 b1 s1; have c0 : w1.cell? ⟨w.heap.size, 0, none⟩ = some (.int .i64 2) := v1.cell (j := 0) rfl; have c1 : w1.cell? ⟨w.heap.size, 1, none⟩ = some (.string (bA s)) := v1.cell (j := 1) rfl; have c2 : w1.cell? ⟨w.heap.size, 2, none⟩ = some (.int .i64 0) := v1.cell (j := 2) rfl; have c3 : w1.cell? ⟨w.heap.size, 3, none⟩ = some (.bool false) := v1.cell (j := 3) rfl; have B1 := hid b1; have V1 := hid v1; clear v1 b1 s1))
  go_wp2_with (first
    | (go_at_call 74; refine (HD.out w1).mono ?_; rintro e w2 ⟨rfl, g2⟩; have B2 := hid (B1.out.trans (g2.mono B1.out.size)); clear g2))
  go_ret2
  exact ⟨by unfold textR; rw [HR.out]; rfl, B2.out⟩
set_option maxHeartbeats 1000000 in
set_option maxRecDepth 100000 in
theorem rtext_n_false_x (s : List UInt8) (n : Int) (w : World) (hs : smallI n = true) (h0 : n ≠ 0) (HD : ∀ w : World, Calls Tryz.prog 74 #[.int .i64 n] w fun e w' => e = .returned (.string (bA (numX n false))) ∧ Below w.heap.size w w') : Calls Tryz.prog 54 #[tkV ⟨2, s, n, false⟩] w fun e w' => e = .returned (textR ⟨2, s, n, false⟩) ∧ Below w.heap.size w w' := by
  have hb : strB s = bA s := rfl
  have HD := hid HD
  have hs' : -1000000000000000000 < n ∧ n < 1000000000000000000 := by simpa [smallI] using hs
  have HR : Hid (textF ⟨2, s, n, false⟩ = some (numX n false)) := hid (by unfold textF; rw [if_pos ⟨rfl, hs⟩])
  have hn1 : (n == 0) = false := beq_eq_false_iff_ne.2 h0
  have q1 : ¬ 1000000000000000000 ≤ n := by omega
  have q2 : ¬ n ≤ -1000000000000000000 := by omega
  clear hs h0 hs'
  go_enter Tryz.func54, Tryz.ntmps54
  go_upto_region 2 with (first
    | (refine Sh.wp_box tkS (x := ⟨2, s, n, false⟩) rfl (.tmp 0) rfl rfl ?_; intro w1 v1 b1 s1; have c0 : w1.cell? ⟨w.heap.size, 0, none⟩ = some (.int .i64 2) := v1.cell (j := 0) rfl; have c1 : w1.cell? ⟨w.heap.size, 1, none⟩ = some (.string (bA s)) := v1.cell (j := 1) rfl; have c2 : w1.cell? ⟨w.heap.size, 2, none⟩ = some (.int .i64 n) := v1.cell (j := 2) rfl; have c3 : w1.cell? ⟨w.heap.size, 3, none⟩ = some (.bool false) := v1.cell (j := 3) rfl; have B1 := hid b1; have V1 := hid v1; clear v1 b1 s1))
  go_wp2_with (first
    | (go_at_call 74; refine (HD.out w1).mono ?_; rintro e w2 ⟨rfl, g2⟩; have B2 := hid (B1.out.trans (g2.mono B1.out.size)); clear g2))
  go_ret2
  exact ⟨by unfold textR; rw [HR.out]; rfl, B2.out⟩
set_option maxHeartbeats 1000000 in
set_option maxRecDepth 100000 in
theorem rtext_big_hi (s : List UInt8) (n : Int) (tm : Bool) (w : World) (hq : 1000000000000000000 ≤ n) : Calls Tryz.prog 54 #[tkV ⟨2, s, n, tm⟩] w fun e w' => e = .returned (textR ⟨2, s, n, tm⟩) ∧ Below w.heap.size w w' := by
  have hn1 : (n == 0) = false := beq_eq_false_iff_ne.2 (by omega)
  have HR : Hid (textF ⟨2, s, n, tm⟩ = none) := hid (by unfold textF; rw [if_neg (by rintro ⟨_, h⟩; simp [smallI] at h; omega), if_pos (.inl (by show n ≠ 0; omega))])
  go_enter Tryz.func54, Tryz.ntmps54
  go_upto_region 2 with (first
    | (refine Sh.wp_box tkS (x := ⟨2, s, n, tm⟩) rfl (.tmp 0) rfl rfl ?_; intro w1 v1 b1 s1; have c0 : w1.cell? ⟨w.heap.size, 0, none⟩ = some (.int .i64 2) := v1.cell (j := 0) rfl; have c1 : w1.cell? ⟨w.heap.size, 1, none⟩ = some (.string (bA s)) := v1.cell (j := 1) rfl; have c2 : w1.cell? ⟨w.heap.size, 2, none⟩ = some (.int .i64 n) := v1.cell (j := 2) rfl; have c3 : w1.cell? ⟨w.heap.size, 3, none⟩ = some (.bool tm) := v1.cell (j := 3) rfl; have B1 := hid b1; have V1 := hid v1; clear v1 b1 s1))
  go_wp2_with fail
  go_ret2
  exact ⟨by unfold textR; rw [HR.out]; rfl, B1.out⟩
set_option maxHeartbeats 1000000 in
set_option maxRecDepth 100000 in
theorem rtext_big_lo (s : List UInt8) (n : Int) (tm : Bool) (w : World) (hq : n ≤ -1000000000000000000) : Calls Tryz.prog 54 #[tkV ⟨2, s, n, tm⟩] w fun e w' => e = .returned (textR ⟨2, s, n, tm⟩) ∧ Below w.heap.size w w' := by
  have hn1 : (n == 0) = false := beq_eq_false_iff_ne.2 (by omega)
  have HR : Hid (textF ⟨2, s, n, tm⟩ = none) := hid (by unfold textF; rw [if_neg (by rintro ⟨_, h⟩; simp [smallI] at h; omega), if_pos (.inl (by show n ≠ 0; omega))])
  have q0 : ¬ 1000000000000000000 ≤ n := by omega
  go_enter Tryz.func54, Tryz.ntmps54
  go_upto_region 2 with (first
    | (refine Sh.wp_box tkS (x := ⟨2, s, n, tm⟩) rfl (.tmp 0) rfl rfl ?_; intro w1 v1 b1 s1; have c0 : w1.cell? ⟨w.heap.size, 0, none⟩ = some (.int .i64 2) := v1.cell (j := 0) rfl; have c1 : w1.cell? ⟨w.heap.size, 1, none⟩ = some (.string (bA s)) := v1.cell (j := 1) rfl; have c2 : w1.cell? ⟨w.heap.size, 2, none⟩ = some (.int .i64 n) := v1.cell (j := 2) rfl; have c3 : w1.cell? ⟨w.heap.size, 3, none⟩ = some (.bool tm) := v1.cell (j := 3) rfl; have B1 := hid b1; have V1 := hid v1; clear v1 b1 s1))
  go_wp2_with fail
  go_ret2
  exact ⟨by unfold textR; rw [HR.out]; rfl, B1.out⟩
set_option maxHeartbeats 1000000 in
set_option maxRecDepth 100000 in
theorem rtext_on_1 (s : List UInt8) (n : Int) (tm : Bool) (w : World) (h0 : n ≠ 0) : Calls Tryz.prog 54 #[tkV ⟨1, s, n, tm⟩] w fun e w' => e = .returned (textR ⟨1, s, n, tm⟩) ∧ Below w.heap.size w w' := by
  have h2 : ¬ (1 : Int) = 2 := by decide
  have hn1 : (n == 0) = false := beq_eq_false_iff_ne.2 h0
  have HR : Hid (textF ⟨1, s, n, tm⟩ = none) := hid (by unfold textF; rw [if_neg (fun h => h2 h.1), if_pos (.inl h0)])
  go_enter Tryz.func54, Tryz.ntmps54
  go_upto_region 2 with (first
    | (refine Sh.wp_box tkS (x := ⟨1, s, n, tm⟩) rfl (.tmp 0) rfl rfl ?_; intro w1 v1 b1 s1; have c0 : w1.cell? ⟨w.heap.size, 0, none⟩ = some (.int .i64 1) := v1.cell (j := 0) rfl; have c1 : w1.cell? ⟨w.heap.size, 1, none⟩ = some (.string (bA s)) := v1.cell (j := 1) rfl; have c2 : w1.cell? ⟨w.heap.size, 2, none⟩ = some (.int .i64 n) := v1.cell (j := 2) rfl; have c3 : w1.cell? ⟨w.heap.size, 3, none⟩ = some (.bool tm) := v1.cell (j := 3) rfl; have B1 := hid b1; have V1 := hid v1; clear v1 b1 s1))
  go_wp2_with fail
  go_ret2
  exact ⟨by unfold textR; rw [HR.out]; rfl, B1.out⟩
set_option maxHeartbeats 1000000 in
set_option maxRecDepth 100000 in
theorem rtext_on_3 (s : List UInt8) (n : Int) (tm : Bool) (w : World) (h0 : n ≠ 0) : Calls Tryz.prog 54 #[tkV ⟨3, s, n, tm⟩] w fun e w' => e = .returned (textR ⟨3, s, n, tm⟩) ∧ Below w.heap.size w w' := by
  have h2 : ¬ (3 : Int) = 2 := by decide
  have hn1 : (n == 0) = false := beq_eq_false_iff_ne.2 h0
  have HR : Hid (textF ⟨3, s, n, tm⟩ = none) := hid (by unfold textF; rw [if_neg (fun h => h2 h.1), if_pos (.inl h0)])
  go_enter Tryz.func54, Tryz.ntmps54
  go_upto_region 2 with (first
    | (refine Sh.wp_box tkS (x := ⟨3, s, n, tm⟩) rfl (.tmp 0) rfl rfl ?_; intro w1 v1 b1 s1; have c0 : w1.cell? ⟨w.heap.size, 0, none⟩ = some (.int .i64 3) := v1.cell (j := 0) rfl; have c1 : w1.cell? ⟨w.heap.size, 1, none⟩ = some (.string (bA s)) := v1.cell (j := 1) rfl; have c2 : w1.cell? ⟨w.heap.size, 2, none⟩ = some (.int .i64 n) := v1.cell (j := 2) rfl; have c3 : w1.cell? ⟨w.heap.size, 3, none⟩ = some (.bool tm) := v1.cell (j := 3) rfl; have B1 := hid b1; have V1 := hid v1; clear v1 b1 s1))
  go_wp2_with fail
  go_ret2
  exact ⟨by unfold textR; rw [HR.out]; rfl, B1.out⟩
set_option maxHeartbeats 1000000 in
set_option maxRecDepth 100000 in
theorem rtext_on_x (k : Int) (s : List UInt8) (n : Int) (tm : Bool) (w : World) (h2 : k ≠ 2) (h1 : (k == 1) = false) (h3 : (k == 3) = false) (h0 : n ≠ 0) : Calls Tryz.prog 54 #[tkV ⟨k, s, n, tm⟩] w fun e w' => e = .returned (textR ⟨k, s, n, tm⟩) ∧ Below w.heap.size w w' := by
  have hk2 : (k != 2) = true := by simp [h2]
  have hn1 : (n == 0) = false := beq_eq_false_iff_ne.2 h0
  have HR : Hid (textF ⟨k, s, n, tm⟩ = none) := hid (by unfold textF; rw [if_neg (fun h => h2 h.1), if_pos (.inl h0)])
  go_enter Tryz.func54, Tryz.ntmps54
  go_upto_region 2 with (first
    | (refine Sh.wp_box tkS (x := ⟨k, s, n, tm⟩) rfl (.tmp 0) rfl rfl ?_; intro w1 v1 b1 s1; have c0 : w1.cell? ⟨w.heap.size, 0, none⟩ = some (.int .i64 k) := v1.cell (j := 0) rfl; have c1 : w1.cell? ⟨w.heap.size, 1, none⟩ = some (.string (bA s)) := v1.cell (j := 1) rfl; have c2 : w1.cell? ⟨w.heap.size, 2, none⟩ = some (.int .i64 n) := v1.cell (j := 2) rfl; have c3 : w1.cell? ⟨w.heap.size, 3, none⟩ = some (.bool tm) := v1.cell (j := 3) rfl; have B1 := hid b1; have V1 := hid v1; clear v1 b1 s1))
  go_wp2_with fail
  go_ret2
  exact ⟨by unfold textR; rw [HR.out]; rfl, B1.out⟩
set_option maxHeartbeats 1000000 in
set_option maxRecDepth 100000 in
theorem rtext_ot_1 (s : List UInt8)  (w : World) : Calls Tryz.prog 54 #[tkV ⟨1, s, 0, true⟩] w fun e w' => e = .returned (textR ⟨1, s, 0, true⟩) ∧ Below w.heap.size w w' := by
  have h2 : ¬ (1 : Int) = 2 := by decide
  have HR : Hid (textF ⟨1, s, 0, true⟩ = none) := hid (by unfold textF; rw [if_neg (fun h => h2 h.1), if_pos (.inr rfl)])
  go_enter Tryz.func54, Tryz.ntmps54
  go_upto_region 2 with (first
    | (refine Sh.wp_box tkS (x := ⟨1, s, 0, true⟩) rfl (.tmp 0) rfl rfl ?_; intro w1 v1 b1 s1; have c0 : w1.cell? ⟨w.heap.size, 0, none⟩ = some (.int .i64 1) := v1.cell (j := 0) rfl; have c1 : w1.cell? ⟨w.heap.size, 1, none⟩ = some (.string (bA s)) := v1.cell (j := 1) rfl; have c2 : w1.cell? ⟨w.heap.size, 2, none⟩ = some (.int .i64 0) := v1.cell (j := 2) rfl; have c3 : w1.cell? ⟨w.heap.size, 3, none⟩ = some (.bool true) := v1.cell (j := 3) rfl; have B1 := hid b1; have V1 := hid v1; clear v1 b1 s1))
  go_wp2_with fail
  go_ret2
  exact ⟨by unfold textR; rw [HR.out]; rfl, B1.out⟩
set_option maxHeartbeats 1000000 in
set_option maxRecDepth 100000 in
theorem rtext_ot_3 (s : List UInt8)  (w : World) : Calls Tryz.prog 54 #[tkV ⟨3, s, 0, true⟩] w fun e w' => e = .returned (textR ⟨3, s, 0, true⟩) ∧ Below w.heap.size w w' := by
  have h2 : ¬ (3 : Int) = 2 := by decide
  have HR : Hid (textF ⟨3, s, 0, true⟩ = none) := hid (by unfold textF; rw [if_neg (fun h => h2 h.1), if_pos (.inr rfl)])
  go_enter Tryz.func54, Tryz.ntmps54
  go_upto_region 2 with (first
    | (refine Sh.wp_box tkS (x := ⟨3, s, 0, true⟩) rfl (.tmp 0) rfl rfl ?_; intro w1 v1 b1 s1; have c0 : w1.cell? ⟨w.heap.size, 0, none⟩ = some (.int .i64 3) := v1.cell (j := 0) rfl; have c1 : w1.cell? ⟨w.heap.size, 1, none⟩ = some (.string (bA s)) := v1.cell (j := 1) rfl; have c2 : w1.cell? ⟨w.heap.size, 2, none⟩ = some (.int .i64 0) := v1.cell (j := 2) rfl; have c3 : w1.cell? ⟨w.heap.size, 3, none⟩ = some (.bool true) := v1.cell (j := 3) rfl; have B1 := hid b1; have V1 := hid v1; clear v1 b1 s1))
  go_wp2_with fail
  go_ret2
  exact ⟨by unfold textR; rw [HR.out]; rfl, B1.out⟩
set_option maxHeartbeats 1000000 in
set_option maxRecDepth 100000 in
theorem rtext_ot_x (k : Int) (s : List UInt8)  (w : World) (h2 : k ≠ 2) (h1 : (k == 1) = false) (h3 : (k == 3) = false) : Calls Tryz.prog 54 #[tkV ⟨k, s, 0, true⟩] w fun e w' => e = .returned (textR ⟨k, s, 0, true⟩) ∧ Below w.heap.size w w' := by
  have hk2 : (k != 2) = true := by simp [h2]
  have HR : Hid (textF ⟨k, s, 0, true⟩ = none) := hid (by unfold textF; rw [if_neg (fun h => h2 h.1), if_pos (.inr rfl)])
  go_enter Tryz.func54, Tryz.ntmps54
  go_upto_region 2 with (first
    | (refine Sh.wp_box tkS (x := ⟨k, s, 0, true⟩) rfl (.tmp 0) rfl rfl ?_; intro w1 v1 b1 s1; have c0 : w1.cell? ⟨w.heap.size, 0, none⟩ = some (.int .i64 k) := v1.cell (j := 0) rfl; have c1 : w1.cell? ⟨w.heap.size, 1, none⟩ = some (.string (bA s)) := v1.cell (j := 1) rfl; have c2 : w1.cell? ⟨w.heap.size, 2, none⟩ = some (.int .i64 0) := v1.cell (j := 2) rfl; have c3 : w1.cell? ⟨w.heap.size, 3, none⟩ = some (.bool true) := v1.cell (j := 3) rfl; have B1 := hid b1; have V1 := hid v1; clear v1 b1 s1))
  go_wp2_with fail
  go_ret2
  exact ⟨by unfold textR; rw [HR.out]; rfl, B1.out⟩
set_option maxHeartbeats 1000000 in
set_option maxRecDepth 100000 in
theorem rtext_o0_x (k : Int) (s : List UInt8) (w : World) (h2 : k ≠ 2) (h1 : k ≠ 1) (h3 : k ≠ 3) : Calls Tryz.prog 54 #[tkV ⟨k, s, 0, false⟩] w fun e w' => e = .returned (textR ⟨k, s, 0, false⟩) ∧ Below w.heap.size w w' := by
  have hk2 : (k != 2) = true := by simp [h2]
  have hk1 : (k == 1) = false := beq_eq_false_iff_ne.2 h1
  have hk3 : (k == 3) = false := beq_eq_false_iff_ne.2 h3
  have HR : Hid (textF ⟨k, s, 0, false⟩ = none) := hid (by unfold textF; rw [if_neg (fun h => h2 h.1), if_neg (by simp), if_neg (fun h => h1 h.1), if_neg (fun h => h3 h.1)])
  go_enter Tryz.func54, Tryz.ntmps54
  go_upto_region 2 with (first
    | (refine Sh.wp_box tkS (x := ⟨k, s, 0, false⟩) rfl (.tmp 0) rfl rfl ?_; intro w1 v1 b1 s1; have c0 : w1.cell? ⟨w.heap.size, 0, none⟩ = some (.int .i64 k) := v1.cell (j := 0) rfl; have c1 : w1.cell? ⟨w.heap.size, 1, none⟩ = some (.string (bA s)) := v1.cell (j := 1) rfl; have c2 : w1.cell? ⟨w.heap.size, 2, none⟩ = some (.int .i64 0) := v1.cell (j := 2) rfl; have c3 : w1.cell? ⟨w.heap.size, 3, none⟩ = some (.bool false) := v1.cell (j := 3) rfl; have B1 := hid b1; have V1 := hid v1; clear v1 b1 s1))
  go_wp2_with fail
  go_ret2
  exact ⟨by unfold textR; rw [HR.out]; rfl, B1.out⟩
set_option maxHeartbeats 1000000 in
set_option maxRecDepth 100000 in
theorem rtext_w_true (s : List UInt8) (w : World) (hsz : s.length ≤ 1099511627776) (hw : wordB s = true) : Calls Tryz.prog 54 #[tkV ⟨1, s, 0, false⟩] w fun e w' => e = .returned (textR ⟨1, s, 0, false⟩) ∧ Below w.heap.size w w' := by
  have HW := hid (fun w => by have := rword_any (bA s) w (by rw [bA_size]; omega); unfold WordPost at this; rwa [bA_list, hw] at this)
  have HR : Hid (textF ⟨1, s, 0, false⟩ = some s) := hid (by unfold textF; rw [if_neg (fun h => by have : (1 : Int) = 2 := h.1; omega), if_neg (by simp), if_pos ⟨rfl, hw⟩])
  clear hw hsz
  go_enter Tryz.func54, Tryz.ntmps54
  go_upto_region 2 with (first
    | (refine Sh.wp_box tkS (x := ⟨1, s, 0, false⟩) rfl (.tmp 0) rfl rfl ?_; intro w1 v1 b1 s1; have c0 : w1.cell? ⟨w.heap.size, 0, none⟩ = some (.int .i64 1) := v1.cell (j := 0) rfl; have c1 : w1.cell? ⟨w.heap.size, 1, none⟩ = some (.string (bA s)) := v1.cell (j := 1) rfl; have c2 : w1.cell? ⟨w.heap.size, 2, none⟩ = some (.int .i64 0) := v1.cell (j := 2) rfl; have c3 : w1.cell? ⟨w.heap.size, 3, none⟩ = some (.bool false) := v1.cell (j := 3) rfl; have B1 := hid b1; have V1 := hid v1; clear v1 b1 s1))
  go_wp2_with (first
    | (go_at_call 70; refine (HW.out w1).mono ?_; rintro e w2 ⟨rfl, g2⟩; have V2 := hid (V1.out.keep g2); have d0 : w2.cell? ⟨w.heap.size, 0, none⟩ = some (.int .i64 1) := V2.out.cell (j := 0) rfl; have d1 : w2.cell? ⟨w.heap.size, 1, none⟩ = some (.string (bA s)) := V2.out.cell (j := 1) rfl; have B2 := hid (B1.out.trans (g2.mono B1.out.size)); clear g2))
  go_ret2
  exact ⟨by unfold textR; rw [HR.out]; rfl, B2.out⟩
set_option maxHeartbeats 1000000 in
set_option maxRecDepth 100000 in
theorem rtext_w_false (s : List UInt8) (w : World) (hsz : s.length ≤ 1099511627776) (hw : wordB s = false) : Calls Tryz.prog 54 #[tkV ⟨1, s, 0, false⟩] w fun e w' => e = .returned (textR ⟨1, s, 0, false⟩) ∧ Below w.heap.size w w' := by
  have HW := hid (fun w => by have := rword_any (bA s) w (by rw [bA_size]; omega); unfold WordPost at this; rwa [bA_list, hw] at this)
  have HR : Hid (textF ⟨1, s, 0, false⟩ = none) := hid (by unfold textF; rw [if_neg (fun h => by have : (1 : Int) = 2 := h.1; omega), if_neg (by simp), if_neg (by rintro ⟨_, h⟩; rw [hw] at h; cases h), if_neg (fun h => by have : (1 : Int) = 3 := h.1; omega)])
  clear hw hsz
  go_enter Tryz.func54, Tryz.ntmps54
  go_upto_region 2 with (first
    | (refine Sh.wp_box tkS (x := ⟨1, s, 0, false⟩) rfl (.tmp 0) rfl rfl ?_; intro w1 v1 b1 s1; have c0 : w1.cell? ⟨w.heap.size, 0, none⟩ = some (.int .i64 1) := v1.cell (j := 0) rfl; have c1 : w1.cell? ⟨w.heap.size, 1, none⟩ = some (.string (bA s)) := v1.cell (j := 1) rfl; have c2 : w1.cell? ⟨w.heap.size, 2, none⟩ = some (.int .i64 0) := v1.cell (j := 2) rfl; have c3 : w1.cell? ⟨w.heap.size, 3, none⟩ = some (.bool false) := v1.cell (j := 3) rfl; have B1 := hid b1; have V1 := hid v1; clear v1 b1 s1))
  go_wp2_with (first
    | (go_at_call 70; refine (HW.out w1).mono ?_; rintro e w2 ⟨rfl, g2⟩; have V2 := hid (V1.out.keep g2); have d0 : w2.cell? ⟨w.heap.size, 0, none⟩ = some (.int .i64 1) := V2.out.cell (j := 0) rfl; have d1 : w2.cell? ⟨w.heap.size, 1, none⟩ = some (.string (bA s)) := V2.out.cell (j := 1) rfl; have B2 := hid (B1.out.trans (g2.mono B1.out.size)); clear g2))
  go_ret2
  exact ⟨by unfold textR; rw [HR.out]; rfl, B2.out⟩
set_option maxHeartbeats 1000000 in
set_option maxRecDepth 100000 in
theorem rtext_s_59  (w : World) : Calls Tryz.prog 54 #[tkV ⟨3, [59], 0, false⟩] w fun e w' => e = .returned (textR ⟨3, [59], 0, false⟩) ∧ Below w.heap.size w w' := by
  have HR : Hid (textF ⟨3, [59], 0, false⟩ = some [59]) := hid (by decide)
  have e59 : ((bA [59]).toList == [59]) = true := by rw [ByteArray.toList_eq]; decide
  have e123 : ((bA [59]).toList == [123]) = false := by rw [ByteArray.toList_eq]; decide
  have e125 : ((bA [59]).toList == [125]) = false := by rw [ByteArray.toList_eq]; decide
  go_enter Tryz.func54, Tryz.ntmps54
  go_upto_region 2 with (first
    | (refine Sh.wp_box tkS (x := ⟨3, [59], 0, false⟩) rfl (.tmp 0) rfl rfl ?_; intro w1 v1 b1 s1; have c0 : w1.cell? ⟨w.heap.size, 0, none⟩ = some (.int .i64 3) := v1.cell (j := 0) rfl; have c1 : w1.cell? ⟨w.heap.size, 1, none⟩ = some (.string (bA [59])) := v1.cell (j := 1) rfl; have c2 : w1.cell? ⟨w.heap.size, 2, none⟩ = some (.int .i64 0) := v1.cell (j := 2) rfl; have c3 : w1.cell? ⟨w.heap.size, 3, none⟩ = some (.bool false) := v1.cell (j := 3) rfl; have B1 := hid b1; have V1 := hid v1; clear v1 b1 s1))
  go_wp2_with fail
  go_ret2
  exact ⟨by unfold textR; rw [HR.out]; rfl, B1.out⟩
set_option maxHeartbeats 1000000 in
set_option maxRecDepth 100000 in
theorem rtext_s_123  (w : World) : Calls Tryz.prog 54 #[tkV ⟨3, [123], 0, false⟩] w fun e w' => e = .returned (textR ⟨3, [123], 0, false⟩) ∧ Below w.heap.size w w' := by
  have HR : Hid (textF ⟨3, [123], 0, false⟩ = some [123]) := hid (by decide)
  have e59 : ((bA [123]).toList == [59]) = false := by rw [ByteArray.toList_eq]; decide
  have e123 : ((bA [123]).toList == [123]) = true := by rw [ByteArray.toList_eq]; decide
  have e125 : ((bA [123]).toList == [125]) = false := by rw [ByteArray.toList_eq]; decide
  go_enter Tryz.func54, Tryz.ntmps54
  go_upto_region 2 with (first
    | (refine Sh.wp_box tkS (x := ⟨3, [123], 0, false⟩) rfl (.tmp 0) rfl rfl ?_; intro w1 v1 b1 s1; have c0 : w1.cell? ⟨w.heap.size, 0, none⟩ = some (.int .i64 3) := v1.cell (j := 0) rfl; have c1 : w1.cell? ⟨w.heap.size, 1, none⟩ = some (.string (bA [123])) := v1.cell (j := 1) rfl; have c2 : w1.cell? ⟨w.heap.size, 2, none⟩ = some (.int .i64 0) := v1.cell (j := 2) rfl; have c3 : w1.cell? ⟨w.heap.size, 3, none⟩ = some (.bool false) := v1.cell (j := 3) rfl; have B1 := hid b1; have V1 := hid v1; clear v1 b1 s1))
  go_wp2_with fail
  go_ret2
  exact ⟨by unfold textR; rw [HR.out]; rfl, B1.out⟩
set_option maxHeartbeats 1000000 in
set_option maxRecDepth 100000 in
theorem rtext_s_125  (w : World) : Calls Tryz.prog 54 #[tkV ⟨3, [125], 0, false⟩] w fun e w' => e = .returned (textR ⟨3, [125], 0, false⟩) ∧ Below w.heap.size w w' := by
  have HR : Hid (textF ⟨3, [125], 0, false⟩ = some [125]) := hid (by decide)
  have e59 : ((bA [125]).toList == [59]) = false := by rw [ByteArray.toList_eq]; decide
  have e123 : ((bA [125]).toList == [123]) = false := by rw [ByteArray.toList_eq]; decide
  have e125 : ((bA [125]).toList == [125]) = true := by rw [ByteArray.toList_eq]; decide
  go_enter Tryz.func54, Tryz.ntmps54
  go_upto_region 2 with (first
    | (refine Sh.wp_box tkS (x := ⟨3, [125], 0, false⟩) rfl (.tmp 0) rfl rfl ?_; intro w1 v1 b1 s1; have c0 : w1.cell? ⟨w.heap.size, 0, none⟩ = some (.int .i64 3) := v1.cell (j := 0) rfl; have c1 : w1.cell? ⟨w.heap.size, 1, none⟩ = some (.string (bA [125])) := v1.cell (j := 1) rfl; have c2 : w1.cell? ⟨w.heap.size, 2, none⟩ = some (.int .i64 0) := v1.cell (j := 2) rfl; have c3 : w1.cell? ⟨w.heap.size, 3, none⟩ = some (.bool false) := v1.cell (j := 3) rfl; have B1 := hid b1; have V1 := hid v1; clear v1 b1 s1))
  go_wp2_with fail
  go_ret2
  exact ⟨by unfold textR; rw [HR.out]; rfl, B1.out⟩
set_option maxHeartbeats 1000000 in
set_option maxRecDepth 100000 in
theorem rtext_s_no (s : List UInt8) (w : World) (hw : signL s = false) : Calls Tryz.prog 54 #[tkV ⟨3, s, 0, false⟩] w fun e w' => e = .returned (textR ⟨3, s, 0, false⟩) ∧ Below w.heap.size w w' := by
  have HR : Hid (textF ⟨3, s, 0, false⟩ = none) := hid (by unfold textF; rw [if_neg (fun h => by have : (3 : Int) = 2 := h.1; omega), if_neg (by simp), if_neg (fun h => by have : (3 : Int) = 1 := h.1; omega), if_neg (by rintro ⟨_, h⟩; rw [hw] at h; cases h)])
  have hne : ∀ c, sgB c = true → ((bA s).toList == [c]) = false := fun c hc => by
    rw [ByteArray.toList_eq, beq_eq_false_iff_ne]
    rintro h
    have h : s = [c] := h
    subst h
    rw [show signL [c] = sgB c from rfl, hc] at hw
    cases hw
  have e59 := hne 59 (by decide)
  have e123 := hne 123 (by decide)
  have e125 := hne 125 (by decide)
  clear hne hw
  go_enter Tryz.func54, Tryz.ntmps54
  go_upto_region 2 with (first
    | (refine Sh.wp_box tkS (x := ⟨3, s, 0, false⟩) rfl (.tmp 0) rfl rfl ?_; intro w1 v1 b1 s1; have c0 : w1.cell? ⟨w.heap.size, 0, none⟩ = some (.int .i64 3) := v1.cell (j := 0) rfl; have c1 : w1.cell? ⟨w.heap.size, 1, none⟩ = some (.string (bA s)) := v1.cell (j := 1) rfl; have c2 : w1.cell? ⟨w.heap.size, 2, none⟩ = some (.int .i64 0) := v1.cell (j := 2) rfl; have c3 : w1.cell? ⟨w.heap.size, 3, none⟩ = some (.bool false) := v1.cell (j := 3) rfl; have B1 := hid b1; have V1 := hid v1; clear v1 b1 s1))
  go_wp2_with fail
  go_ret2
  exact ⟨by unfold textR; rw [HR.out]; rfl, B1.out⟩
end Go.Proofs.YtkfnkieljcipnaaGreatDoor
