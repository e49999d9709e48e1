/-
  Check, and the document's own: what they answer, at every frame.
-/
import Derived.Test.YtbfaebobainhjaaVF
import Derived.Test.YtbfaebobainhjaaM
namespace Go.Proofs.Ytbfaebobainhjaa
open Go Go.RowKit
def okF (x : Fr) : Nat := if OkF x then 0 else 1
theorem okF_ok {x : Fr} (h : OkF x) : okF x = 0 := if_pos h
theorem okF_bad {x : Fr} (h : ¬ OkF x) : okF x = 1 := if_neg h
/-- Why a frame may not be. -/
theorem bad_why (k f : Int) (s m : Nat) (h : ¬ OkF ⟨k, f, s, m⟩) : (k ≠ 1 ∧ k ≠ 2) ∨ Out f ∨ 4294967296 < s := by
  unfold OkF at h; unfold Out; simp only at h; omega
theorem fcheck_ok1 (k : Int) (q1 : (k != 1) = false) (_q2 : (k != 2) = true) (f1 s m : Nat) (w : World) (h : f1 ≤ 15) (hs : s ≤ 4294967296) : Calls Try.prog 28 #[fv ⟨k, (f1 : Int), s, m⟩] w fun e w' => e = .returned (.int .i64 0) ∧ Below w.heap.size w w' := by
  have HF := hid h
  go_enter Try.func28, Try.ntmps28
  go_wp2_with (first
    | (go_at_call 40; refine (isNode_in f1 _ HF.out).mono ?_; rintro e w' ⟨rfl, rfl⟩)
    | (refine wpList_boxf (x := ⟨k, (f1 : Int), s, m⟩) rfl (.tmp 0) rfl rfl ?_; intro w1 v1 b1 s1; have c0 : w1.cell? ⟨w.heap.size, 0, none⟩ = some (.int .i64 k) := v1.c0; have c1 : w1.cell? ⟨w.heap.size, 1, none⟩ = some (.int .i64 (f1 : Int)) := v1.c1; have c2 : w1.cell? ⟨w.heap.size, 2, none⟩ = some (.int .u64 (s : Int)) := v1.c2))
  go_ret
  exact ⟨rfl, b1⟩
theorem fcheck_slot1 (k : Int) (q1 : (k != 1) = false) (_q2 : (k != 2) = true) (f1 s m : Nat) (w : World) (h : f1 ≤ 15) (hs : 4294967296 < s) : Calls Try.prog 28 #[fv ⟨k, (f1 : Int), s, m⟩] w fun e w' => e = .returned (.int .i64 1) ∧ Below w.heap.size w w' := by
  have HF := hid h
  go_enter Try.func28, Try.ntmps28
  go_wp2_with (first
    | (go_at_call 40; refine (isNode_in f1 _ HF.out).mono ?_; rintro e w' ⟨rfl, rfl⟩)
    | (refine wpList_boxf (x := ⟨k, (f1 : Int), s, m⟩) rfl (.tmp 0) rfl rfl ?_; intro w1 v1 b1 s1; have c0 : w1.cell? ⟨w.heap.size, 0, none⟩ = some (.int .i64 k) := v1.c0; have c1 : w1.cell? ⟨w.heap.size, 1, none⟩ = some (.int .i64 (f1 : Int)) := v1.c1; have c2 : w1.cell? ⟨w.heap.size, 2, none⟩ = some (.int .u64 (s : Int)) := v1.c2))
  go_ret
  exact ⟨rfl, b1⟩
theorem fcheck_from1lo (k : Int) (q1 : (k != 1) = false) (_q2 : (k != 2) = true) (f : Int) (s m : Nat) (w : World) (h : f < 0) : Calls Try.prog 28 #[fv ⟨k, f, s, m⟩] w fun e w' => e = .returned (.int .i64 1) ∧ Below w.heap.size w w' := by
  have HF : Hid (Out f) := hid (by unfold Out; omega)
  go_enter Try.func28, Try.ntmps28
  go_wp2_with (first
    | (go_at_call 40; refine (isNode_out f _ HF.out).mono ?_; rintro e w' ⟨rfl, rfl⟩)
    | (refine wpList_boxf (x := ⟨k, f, s, m⟩) rfl (.tmp 0) rfl rfl ?_; intro w1 v1 b1 s1; have c0 : w1.cell? ⟨w.heap.size, 0, none⟩ = some (.int .i64 k) := v1.c0; have c1 : w1.cell? ⟨w.heap.size, 1, none⟩ = some (.int .i64 f) := v1.c1; have c2 : w1.cell? ⟨w.heap.size, 2, none⟩ = some (.int .u64 (s : Int)) := v1.c2))
  go_ret
  exact ⟨rfl, b1⟩
theorem fcheck_from1hi (k : Int) (q1 : (k != 1) = false) (_q2 : (k != 2) = true) (f : Int) (s m : Nat) (w : World) (h : 15 < f) : Calls Try.prog 28 #[fv ⟨k, f, s, m⟩] w fun e w' => e = .returned (.int .i64 1) ∧ Below w.heap.size w w' := by
  have HF : Hid (Out f) := hid (by unfold Out; omega)
  go_enter Try.func28, Try.ntmps28
  go_wp2_with (first
    | (go_at_call 40; refine (isNode_out f _ HF.out).mono ?_; rintro e w' ⟨rfl, rfl⟩)
    | (refine wpList_boxf (x := ⟨k, f, s, m⟩) rfl (.tmp 0) rfl rfl ?_; intro w1 v1 b1 s1; have c0 : w1.cell? ⟨w.heap.size, 0, none⟩ = some (.int .i64 k) := v1.c0; have c1 : w1.cell? ⟨w.heap.size, 1, none⟩ = some (.int .i64 f) := v1.c1; have c2 : w1.cell? ⟨w.heap.size, 2, none⟩ = some (.int .u64 (s : Int)) := v1.c2))
  go_ret
  exact ⟨rfl, b1⟩
theorem fcheck_ok2 (k : Int) (q1 : (k != 1) = true) (q2 : (k != 2) = false) (f1 s m : Nat) (w : World) (h : f1 ≤ 15) (hs : s ≤ 4294967296) : Calls Try.prog 28 #[fv ⟨k, (f1 : Int), s, m⟩] w fun e w' => e = .returned (.int .i64 0) ∧ Below w.heap.size w w' := by
  have HF := hid h
  go_enter Try.func28, Try.ntmps28
  go_wp2_with (first
    | (go_at_call 40; refine (isNode_in f1 _ HF.out).mono ?_; rintro e w' ⟨rfl, rfl⟩)
    | (refine wpList_boxf (x := ⟨k, (f1 : Int), s, m⟩) rfl (.tmp 0) rfl rfl ?_; intro w1 v1 b1 s1; have c0 : w1.cell? ⟨w.heap.size, 0, none⟩ = some (.int .i64 k) := v1.c0; have c1 : w1.cell? ⟨w.heap.size, 1, none⟩ = some (.int .i64 (f1 : Int)) := v1.c1; have c2 : w1.cell? ⟨w.heap.size, 2, none⟩ = some (.int .u64 (s : Int)) := v1.c2))
  go_ret
  exact ⟨rfl, b1⟩
theorem fcheck_slot2 (k : Int) (q1 : (k != 1) = true) (q2 : (k != 2) = false) (f1 s m : Nat) (w : World) (h : f1 ≤ 15) (hs : 4294967296 < s) : Calls Try.prog 28 #[fv ⟨k, (f1 : Int), s, m⟩] w fun e w' => e = .returned (.int .i64 1) ∧ Below w.heap.size w w' := by
  have HF := hid h
  go_enter Try.func28, Try.ntmps28
  go_wp2_with (first
    | (go_at_call 40; refine (isNode_in f1 _ HF.out).mono ?_; rintro e w' ⟨rfl, rfl⟩)
    | (refine wpList_boxf (x := ⟨k, (f1 : Int), s, m⟩) rfl (.tmp 0) rfl rfl ?_; intro w1 v1 b1 s1; have c0 : w1.cell? ⟨w.heap.size, 0, none⟩ = some (.int .i64 k) := v1.c0; have c1 : w1.cell? ⟨w.heap.size, 1, none⟩ = some (.int .i64 (f1 : Int)) := v1.c1; have c2 : w1.cell? ⟨w.heap.size, 2, none⟩ = some (.int .u64 (s : Int)) := v1.c2))
  go_ret
  exact ⟨rfl, b1⟩
theorem fcheck_from2lo (k : Int) (q1 : (k != 1) = true) (q2 : (k != 2) = false) (f : Int) (s m : Nat) (w : World) (h : f < 0) : Calls Try.prog 28 #[fv ⟨k, f, s, m⟩] w fun e w' => e = .returned (.int .i64 1) ∧ Below w.heap.size w w' := by
  have HF : Hid (Out f) := hid (by unfold Out; omega)
  go_enter Try.func28, Try.ntmps28
  go_wp2_with (first
    | (go_at_call 40; refine (isNode_out f _ HF.out).mono ?_; rintro e w' ⟨rfl, rfl⟩)
    | (refine wpList_boxf (x := ⟨k, f, s, m⟩) rfl (.tmp 0) rfl rfl ?_; intro w1 v1 b1 s1; have c0 : w1.cell? ⟨w.heap.size, 0, none⟩ = some (.int .i64 k) := v1.c0; have c1 : w1.cell? ⟨w.heap.size, 1, none⟩ = some (.int .i64 f) := v1.c1; have c2 : w1.cell? ⟨w.heap.size, 2, none⟩ = some (.int .u64 (s : Int)) := v1.c2))
  go_ret
  exact ⟨rfl, b1⟩
theorem fcheck_from2hi (k : Int) (q1 : (k != 1) = true) (q2 : (k != 2) = false) (f : Int) (s m : Nat) (w : World) (h : 15 < f) : Calls Try.prog 28 #[fv ⟨k, f, s, m⟩] w fun e w' => e = .returned (.int .i64 1) ∧ Below w.heap.size w w' := by
  have HF : Hid (Out f) := hid (by unfold Out; omega)
  go_enter Try.func28, Try.ntmps28
  go_wp2_with (first
    | (go_at_call 40; refine (isNode_out f _ HF.out).mono ?_; rintro e w' ⟨rfl, rfl⟩)
    | (refine wpList_boxf (x := ⟨k, f, s, m⟩) rfl (.tmp 0) rfl rfl ?_; intro w1 v1 b1 s1; have c0 : w1.cell? ⟨w.heap.size, 0, none⟩ = some (.int .i64 k) := v1.c0; have c1 : w1.cell? ⟨w.heap.size, 1, none⟩ = some (.int .i64 f) := v1.c1; have c2 : w1.cell? ⟨w.heap.size, 2, none⟩ = some (.int .u64 (s : Int)) := v1.c2))
  go_ret
  exact ⟨rfl, b1⟩
theorem fcheck_kind (k f : Int) (s m : Nat) (w : World) (h1 : k ≠ 1) (h2 : k ≠ 2) : Calls Try.prog 28 #[fv ⟨k, f, s, m⟩] w fun e w' => e = .returned (.int .i64 1) ∧ Below w.heap.size w w' := by
  have q1 : (k != 1) = true := by rw [bne_iff_ne]; exact h1
  have q2 : (k != 2) = true := by rw [bne_iff_ne]; exact h2
  go_enter Try.func28, Try.ntmps28
  go_wp2_with (first
    | (refine wpList_boxf (x := ⟨k, f, s, m⟩) rfl (.tmp 0) rfl rfl ?_; intro w1 v1 b1 s1; have c0 : w1.cell? ⟨w.heap.size, 0, none⟩ = some (.int .i64 k) := v1.c0; have c1 : w1.cell? ⟨w.heap.size, 1, none⟩ = some (.int .i64 f) := v1.c1; have c2 : w1.cell? ⟨w.heap.size, 2, none⟩ = some (.int .u64 (s : Int)) := v1.c2))
  go_ret
  exact ⟨rfl, b1⟩
theorem fcheck_any (x : Fr) (w : World) : Calls Try.prog 28 #[fv x] w fun e w' => e = .returned (.int .i64 (okF x : Nat)) ∧ Below w.heap.size w w' := by
  obtain ⟨k, f, s, m⟩ := x
  by_cases h : OkF ⟨k, f, s, m⟩
  · rw [okF_ok h]
    obtain ⟨h1, h2, h3, h4⟩ := h
    simp only at h1 h2 h3 h4
    obtain ⟨g, rfl⟩ : ∃ g : Nat, f = g := ⟨f.toNat, by omega⟩
    rcases h1 with rfl | rfl
    · exact fcheck_ok1 1 rfl rfl g s m w (by omega) h4
    · exact fcheck_ok2 2 rfl rfl g s m w (by omega) h4
  · rw [okF_bad h]
    by_cases hk : k ≠ 1 ∧ k ≠ 2
    · exact fcheck_kind k f s m w hk.1 hk.2
    · by_cases hf : f < 0
      · by_cases h1 : k = 1
        · subst h1; exact fcheck_from1lo 1 rfl rfl f s m w hf
        · obtain rfl : k = 2 := by omega
          exact fcheck_from2lo 2 rfl rfl f s m w hf
      · by_cases hf2 : 15 < f
        · by_cases h1 : k = 1
          · subst h1; exact fcheck_from1hi 1 rfl rfl f s m w hf2
          · obtain rfl : k = 2 := by omega
            exact fcheck_from2hi 2 rfl rfl f s m w hf2
        · obtain ⟨g, rfl⟩ : ∃ g : Nat, f = g := ⟨f.toNat, by omega⟩
          have hs : 4294967296 < s := by
            rcases bad_why _ _ _ _ h with c | c | c
            · exact absurd c hk
            · unfold Out at c; omega
            · exact c
          by_cases h1 : k = 1
          · subst h1; exact fcheck_slot1 1 rfl rfl g s m w (by omega) hs
          · obtain rfl : k = 2 := by omega
            exact fcheck_slot2 2 rfl rfl g s m w (by omega) hs
theorem reffcheck_ok1 (k : Int) (q1 : (k != 1) = false) (_q2 : (k != 2) = true) (f1 s m : Nat) (w : World) (h : f1 ≤ 15) (hs : s ≤ 4294967296) : Calls Try.prog 30 #[fv ⟨k, (f1 : Int), s, m⟩] w fun e w' => e = .returned (.int .i64 0) ∧ Below w.heap.size w w' := by
  have HF := hid h
  go_enter Try.func30, Try.ntmps30
  go_wp2_with (first
    | (refine wpList_boxf (x := ⟨k, (f1 : Int), s, m⟩) rfl (.tmp 0) rfl rfl ?_; intro w1 v1 b1 s1; have c0 : w1.cell? ⟨w.heap.size, 0, none⟩ = some (.int .i64 k) := v1.c0; have c1 : w1.cell? ⟨w.heap.size, 1, none⟩ = some (.int .i64 (f1 : Int)) := v1.c1; have c2 : w1.cell? ⟨w.heap.size, 2, none⟩ = some (.int .u64 (s : Int)) := v1.c2))
  go_ret
  exact ⟨rfl, b1⟩
theorem reffcheck_slot1 (k : Int) (q1 : (k != 1) = false) (_q2 : (k != 2) = true) (f1 s m : Nat) (w : World) (h : f1 ≤ 15) (hs : 4294967296 < s) : Calls Try.prog 30 #[fv ⟨k, (f1 : Int), s, m⟩] w fun e w' => e = .returned (.int .i64 1) ∧ Below w.heap.size w w' := by
  have HF := hid h
  go_enter Try.func30, Try.ntmps30
  go_wp2_with (first
    | (refine wpList_boxf (x := ⟨k, (f1 : Int), s, m⟩) rfl (.tmp 0) rfl rfl ?_; intro w1 v1 b1 s1; have c0 : w1.cell? ⟨w.heap.size, 0, none⟩ = some (.int .i64 k) := v1.c0; have c1 : w1.cell? ⟨w.heap.size, 1, none⟩ = some (.int .i64 (f1 : Int)) := v1.c1; have c2 : w1.cell? ⟨w.heap.size, 2, none⟩ = some (.int .u64 (s : Int)) := v1.c2))
  go_ret
  exact ⟨rfl, b1⟩
theorem reffcheck_from1lo (k : Int) (q1 : (k != 1) = false) (_q2 : (k != 2) = true) (f : Int) (s m : Nat) (w : World) (h : f < 0) : Calls Try.prog 30 #[fv ⟨k, f, s, m⟩] w fun e w' => e = .returned (.int .i64 1) ∧ Below w.heap.size w w' := by
  have HF : Hid (Out f) := hid (by unfold Out; omega)
  go_enter Try.func30, Try.ntmps30
  go_wp2_with (first
    | (refine wpList_boxf (x := ⟨k, f, s, m⟩) rfl (.tmp 0) rfl rfl ?_; intro w1 v1 b1 s1; have c0 : w1.cell? ⟨w.heap.size, 0, none⟩ = some (.int .i64 k) := v1.c0; have c1 : w1.cell? ⟨w.heap.size, 1, none⟩ = some (.int .i64 f) := v1.c1; have c2 : w1.cell? ⟨w.heap.size, 2, none⟩ = some (.int .u64 (s : Int)) := v1.c2))
  go_ret
  exact ⟨rfl, b1⟩
theorem reffcheck_from1hi (k : Int) (q1 : (k != 1) = false) (_q2 : (k != 2) = true) (f : Int) (s m : Nat) (w : World) (h : 15 < f) : Calls Try.prog 30 #[fv ⟨k, f, s, m⟩] w fun e w' => e = .returned (.int .i64 1) ∧ Below w.heap.size w w' := by
  have HF : Hid (Out f) := hid (by unfold Out; omega)
  go_enter Try.func30, Try.ntmps30
  go_wp2_with (first
    | (refine wpList_boxf (x := ⟨k, f, s, m⟩) rfl (.tmp 0) rfl rfl ?_; intro w1 v1 b1 s1; have c0 : w1.cell? ⟨w.heap.size, 0, none⟩ = some (.int .i64 k) := v1.c0; have c1 : w1.cell? ⟨w.heap.size, 1, none⟩ = some (.int .i64 f) := v1.c1; have c2 : w1.cell? ⟨w.heap.size, 2, none⟩ = some (.int .u64 (s : Int)) := v1.c2))
  go_ret
  exact ⟨rfl, b1⟩
theorem reffcheck_ok2 (k : Int) (q1 : (k != 1) = true) (q2 : (k != 2) = false) (f1 s m : Nat) (w : World) (h : f1 ≤ 15) (hs : s ≤ 4294967296) : Calls Try.prog 30 #[fv ⟨k, (f1 : Int), s, m⟩] w fun e w' => e = .returned (.int .i64 0) ∧ Below w.heap.size w w' := by
  have HF := hid h
  go_enter Try.func30, Try.ntmps30
  go_wp2_with (first
    | (refine wpList_boxf (x := ⟨k, (f1 : Int), s, m⟩) rfl (.tmp 0) rfl rfl ?_; intro w1 v1 b1 s1; have c0 : w1.cell? ⟨w.heap.size, 0, none⟩ = some (.int .i64 k) := v1.c0; have c1 : w1.cell? ⟨w.heap.size, 1, none⟩ = some (.int .i64 (f1 : Int)) := v1.c1; have c2 : w1.cell? ⟨w.heap.size, 2, none⟩ = some (.int .u64 (s : Int)) := v1.c2))
  go_ret
  exact ⟨rfl, b1⟩
theorem reffcheck_slot2 (k : Int) (q1 : (k != 1) = true) (q2 : (k != 2) = false) (f1 s m : Nat) (w : World) (h : f1 ≤ 15) (hs : 4294967296 < s) : Calls Try.prog 30 #[fv ⟨k, (f1 : Int), s, m⟩] w fun e w' => e = .returned (.int .i64 1) ∧ Below w.heap.size w w' := by
  have HF := hid h
  go_enter Try.func30, Try.ntmps30
  go_wp2_with (first
    | (refine wpList_boxf (x := ⟨k, (f1 : Int), s, m⟩) rfl (.tmp 0) rfl rfl ?_; intro w1 v1 b1 s1; have c0 : w1.cell? ⟨w.heap.size, 0, none⟩ = some (.int .i64 k) := v1.c0; have c1 : w1.cell? ⟨w.heap.size, 1, none⟩ = some (.int .i64 (f1 : Int)) := v1.c1; have c2 : w1.cell? ⟨w.heap.size, 2, none⟩ = some (.int .u64 (s : Int)) := v1.c2))
  go_ret
  exact ⟨rfl, b1⟩
theorem reffcheck_from2lo (k : Int) (q1 : (k != 1) = true) (q2 : (k != 2) = false) (f : Int) (s m : Nat) (w : World) (h : f < 0) : Calls Try.prog 30 #[fv ⟨k, f, s, m⟩] w fun e w' => e = .returned (.int .i64 1) ∧ Below w.heap.size w w' := by
  have HF : Hid (Out f) := hid (by unfold Out; omega)
  go_enter Try.func30, Try.ntmps30
  go_wp2_with (first
    | (refine wpList_boxf (x := ⟨k, f, s, m⟩) rfl (.tmp 0) rfl rfl ?_; intro w1 v1 b1 s1; have c0 : w1.cell? ⟨w.heap.size, 0, none⟩ = some (.int .i64 k) := v1.c0; have c1 : w1.cell? ⟨w.heap.size, 1, none⟩ = some (.int .i64 f) := v1.c1; have c2 : w1.cell? ⟨w.heap.size, 2, none⟩ = some (.int .u64 (s : Int)) := v1.c2))
  go_ret
  exact ⟨rfl, b1⟩
theorem reffcheck_from2hi (k : Int) (q1 : (k != 1) = true) (q2 : (k != 2) = false) (f : Int) (s m : Nat) (w : World) (h : 15 < f) : Calls Try.prog 30 #[fv ⟨k, f, s, m⟩] w fun e w' => e = .returned (.int .i64 1) ∧ Below w.heap.size w w' := by
  have HF : Hid (Out f) := hid (by unfold Out; omega)
  go_enter Try.func30, Try.ntmps30
  go_wp2_with (first
    | (refine wpList_boxf (x := ⟨k, f, s, m⟩) rfl (.tmp 0) rfl rfl ?_; intro w1 v1 b1 s1; have c0 : w1.cell? ⟨w.heap.size, 0, none⟩ = some (.int .i64 k) := v1.c0; have c1 : w1.cell? ⟨w.heap.size, 1, none⟩ = some (.int .i64 f) := v1.c1; have c2 : w1.cell? ⟨w.heap.size, 2, none⟩ = some (.int .u64 (s : Int)) := v1.c2))
  go_ret
  exact ⟨rfl, b1⟩
theorem reffcheck_kind (k f : Int) (s m : Nat) (w : World) (h1 : k ≠ 1) (h2 : k ≠ 2) : Calls Try.prog 30 #[fv ⟨k, f, s, m⟩] w fun e w' => e = .returned (.int .i64 1) ∧ Below w.heap.size w w' := by
  have q1 : (k != 1) = true := by rw [bne_iff_ne]; exact h1
  have q2 : (k != 2) = true := by rw [bne_iff_ne]; exact h2
  go_enter Try.func30, Try.ntmps30
  go_wp2_with (first
    | (refine wpList_boxf (x := ⟨k, f, s, m⟩) rfl (.tmp 0) rfl rfl ?_; intro w1 v1 b1 s1; have c0 : w1.cell? ⟨w.heap.size, 0, none⟩ = some (.int .i64 k) := v1.c0; have c1 : w1.cell? ⟨w.heap.size, 1, none⟩ = some (.int .i64 f) := v1.c1; have c2 : w1.cell? ⟨w.heap.size, 2, none⟩ = some (.int .u64 (s : Int)) := v1.c2))
  go_ret
  exact ⟨rfl, b1⟩
theorem reffcheck_any (x : Fr) (w : World) : Calls Try.prog 30 #[fv x] w fun e w' => e = .returned (.int .i64 (okF x : Nat)) ∧ Below w.heap.size w w' := by
  obtain ⟨k, f, s, m⟩ := x
  by_cases h : OkF ⟨k, f, s, m⟩
  · rw [okF_ok h]
    obtain ⟨h1, h2, h3, h4⟩ := h
    simp only at h1 h2 h3 h4
    obtain ⟨g, rfl⟩ : ∃ g : Nat, f = g := ⟨f.toNat, by omega⟩
    rcases h1 with rfl | rfl
    · exact reffcheck_ok1 1 rfl rfl g s m w (by omega) h4
    · exact reffcheck_ok2 2 rfl rfl g s m w (by omega) h4
  · rw [okF_bad h]
    by_cases hk : k ≠ 1 ∧ k ≠ 2
    · exact reffcheck_kind k f s m w hk.1 hk.2
    · by_cases hf : f < 0
      · by_cases h1 : k = 1
        · subst h1; exact reffcheck_from1lo 1 rfl rfl f s m w hf
        · obtain rfl : k = 2 := by omega
          exact reffcheck_from2lo 2 rfl rfl f s m w hf
      · by_cases hf2 : 15 < f
        · by_cases h1 : k = 1
          · subst h1; exact reffcheck_from1hi 1 rfl rfl f s m w hf2
          · obtain rfl : k = 2 := by omega
            exact reffcheck_from2hi 2 rfl rfl f s m w hf2
        · obtain ⟨g, rfl⟩ : ∃ g : Nat, f = g := ⟨f.toNat, by omega⟩
          have hs : 4294967296 < s := by
            rcases bad_why _ _ _ _ h with c | c | c
            · exact absurd c hk
            · unfold Out at c; omega
            · exact c
          by_cases h1 : k = 1
          · subst h1; exact reffcheck_slot1 1 rfl rfl g s m w (by omega) hs
          · obtain rfl : k = 2 := by omega
            exact reffcheck_slot2 2 rfl rfl g s m w (by omega) hs
end Go.Proofs.Ytbfaebobainhjaa
