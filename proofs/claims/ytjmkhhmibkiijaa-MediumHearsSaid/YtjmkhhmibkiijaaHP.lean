/-
  Plain: what is there while one is heard again and again. No condition but what each head says.
-/
import Derived.Test.YtjmkhhmibkiijaaGP
import Derived.Test.YtjmkhhmibkiijaaHD
namespace Go.Proofs.Ytjmkhhmibkiijaa
open Go Go.RowKit

theorem okA_of {xs : List Ar} (h1 : xs.length ≤ 256) (h2 : ∀ j, j < xs.length → mayA (nth xs j) = true) (h3 : ∀ j, j + 1 < xs.length → (nth xs j).id < (nth xs (j + 1)).id) : okA xs = true := by
  have : anyB (wrg xs) xs.length = false := anyB_no fun j hj => by
    unfold wrg
    rw [h2 j hj, Bool.not_true, Bool.false_or, Bool.eq_false_iff]
    intro hh
    rw [Bool.and_eq_true, decide_eq_true_eq, decide_eq_true_eq] at hh
    have := h3 (j - 1) (by omega)
    rw [show j - 1 + 1 = j by omega] at this
    omega
  unfold okA
  rw [this]
  simp
  omega
theorem ids_lt {xs : List Ar} (h : okA xs = true) {a b : Nat} (hab : a < b) (hb : b < xs.length) : (nth xs a).id < (nth xs b).id := by
  induction b with
  | zero => omega
  | succ b ih =>
    have h1 := wrg_ids h (j := b) hb
    by_cases e : a = b
    · subst e; exact h1
    · have := ih (by omega) (by omega); omega
theorem ids_ne {xs : List Ar} (h : okA xs = true) {a b : Nat} (ha : a < xs.length) (hb : b < xs.length) (hab : a ≠ b) : (nth xs a).id ≠ (nth xs b).id := by
  rcases Nat.lt_or_gt_of_ne hab with h1 | h1
  · have := ids_lt h h1 hb; omega
  · have := ids_lt h h1 ha; omega
theorem may_lf {x : Ar} (h : mayA x = true) (A : Option Addr) (c : Nat) (z : Int) (h1 : 1 ≤ z) (h2 : z ≤ 16) : mayA { x with A := A, c := c, lf := z } = true := by
  unfold mayA timeB at h ⊢; simp at h ⊢; omega
theorem lf_of {x : Ar} (h : mayA x = true) : 1 ≤ x.lf ∧ x.lf ≤ 16 := by
  unfold mayA at h; simp at h; omega
/-- It has been heard i times. -/
def hst (ls : List Ar) (k i m : Nat) (xs : List Ar) : Prop :=
  xs.length = m ∧ if (i : Int) < (nth ls k).lf then m = ls.length ∧ ∀ j, j < m → ∃ A c, nth xs j = { nth ls j with A := A, c := c, lf := if j = k then (nth ls k).lf - i else (nth ls j).lf }
  else m = ls.length - 1 ∧ ∀ j, j < m → ∃ A c, nth xs j = { nth ls (if j < k then j else j + 1) with A := A, c := c }
theorem hst_zero {ls : List Ar} {k : Nat} (h : okA ls = true) (hk : k < ls.length) : hst ls k 0 ls.length ls := by
  have := lf_of (okA_may h _ (nth_mem hk))
  refine ⟨rfl, ?_⟩
  rw [if_pos (by omega)]
  refine ⟨rfl, fun j hj => ⟨(nth ls j).A, (nth ls j).c, ?_⟩⟩
  by_cases e : j = k
  · subst e; rw [if_pos rfl]; simp
  · rw [if_neg e]
section
variable {ls xs : List Ar} {k i m : Nat} (h : okA ls = true) (hk : k < ls.length) (hs : hst ls k i m xs)
include h hk hs
theorem hst_ok : okA xs = true := by
  obtain ⟨h1, h2⟩ := hs
  have hlen := okA_len h
  have hm := lf_of (okA_may h _ (nth_mem hk))
  split at h2
  · obtain ⟨e, h2⟩ := h2
    subst e
    refine okA_of (by omega) (fun j hj => ?_) (fun j hj => ?_)
    · obtain ⟨A, c, e⟩ := h2 j (by omega)
      rw [e]
      have hj' := okA_may h _ (nth_mem (l := ls) (k := j) (by omega))
      have := lf_of hj'
      exact may_lf hj' A c _ (by split <;> omega) (by split <;> omega)
    · obtain ⟨A, c, e⟩ := h2 j (by omega)
      obtain ⟨A2, c2, e2⟩ := h2 (j + 1) (by omega)
      rw [e, e2]
      exact wrg_ids h (by omega)
  · obtain ⟨e, h2⟩ := h2
    refine okA_of (by omega) (fun j hj => ?_) (fun j hj => ?_)
    · obtain ⟨A, c, e⟩ := h2 j (by omega)
      rw [e]
      have hj' : mayA (nth ls (if j < k then j else j + 1)) = true := okA_may h _ (nth_mem (l := ls) (by split <;> omega))
      exact hj'
    · obtain ⟨A, c, e⟩ := h2 j (by omega)
      obtain ⟨A2, c2, e2⟩ := h2 (j + 1) (by omega)
      rw [e, e2]
      show (nth ls _).id < (nth ls _).id
      exact ids_lt h (by split <;> split <;> omega) (by split <;> omega)
theorem hst_at (hi : (i : Int) < (nth ls k).lf) : m = ls.length ∧ k < m ∧ (∃ A c, nth xs k = { nth ls k with A := A, c := c, lf := (nth ls k).lf - i }) ∧ (∀ j, j < k → (nth xs j).id ≠ (nth ls k).id) := by
  obtain ⟨h1, h2⟩ := hs
  rw [if_pos hi] at h2
  obtain ⟨e, h2⟩ := h2
  subst e
  refine ⟨rfl, hk, ?_, fun j hj => ?_⟩
  · have := h2 k hk
    rwa [if_pos rfl] at this
  · obtain ⟨A, c, e⟩ := h2 j (by omega)
    rw [e]
    exact ids_ne h (by omega) hk (by omega)
theorem hst_gone (hi : ¬ (i : Int) < (nth ls k).lf) : m = ls.length - 1 ∧ (∀ j, j < m → (nth xs j).id ≠ (nth ls k).id) ∧ ∀ j, j < m → ∃ A c, nth xs j = { nth ls (if j < k then j else j + 1) with A := A, c := c } := by
  obtain ⟨h1, h2⟩ := hs
  rw [if_neg hi] at h2
  obtain ⟨e, h2⟩ := h2
  refine ⟨e, fun j hj => ?_, h2⟩
  obtain ⟨A, c, e⟩ := h2 j hj
  rw [e]
  exact ids_ne h (by split <;> omega) hk (by split <;> omega)
theorem hst_next (hi : (i : Int) < (nth ls k).lf) {l : List Ar} {m' : Nat} (hl : l.length = m') (hp : heardP xs k m' l) : hst ls k (i + 1) m' l := by
  have _ := h
  obtain ⟨h1, h2⟩ := hs
  rw [if_pos hi] at h2
  obtain ⟨e, h2⟩ := h2
  subst e
  obtain ⟨A0, c0, e0⟩ := h2 k hk
  rw [if_pos rfl] at e0
  have hlf : (nth xs k).lf = (nth ls k).lf - i := by rw [e0]
  unfold heardP at hp
  rw [hlf, h1] at hp
  refine ⟨hl, ?_⟩
  split at hp
  · obtain ⟨e, hp⟩ := hp
    rw [if_neg (by omega)]
    refine ⟨e, fun j hj => ?_⟩
    obtain ⟨A, c, e1⟩ := hp j hj
    obtain ⟨A2, c2, e2⟩ := h2 (if j < k then j else j + 1) (by split <;> omega)
    rw [if_neg (show ¬ (if j < k then j else j + 1) = k by split <;> omega)] at e2
    exact ⟨A, c, by rw [e1, e2]⟩
  · obtain ⟨e, hp⟩ := hp
    rw [if_pos (by omega)]
    refine ⟨e, fun j hj => ?_⟩
    obtain ⟨A, c, e1⟩ := hp j hj
    obtain ⟨A2, c2, e2⟩ := h2 j (by omega)
    refine ⟨A, c, ?_⟩
    rw [e1, e2]
    by_cases q : j = k
    · subst q; rw [if_pos rfl, if_pos rfl]
      show Ar.mk _ _ _ _ _ _ _ _ _ _ _ = Ar.mk _ _ _ _ _ _ _ _ _ _ _
      congr 1
      push_cast; omega
    · rw [if_neg q, if_neg q, if_neg q]
end
end Go.Proofs.Ytjmkhhmibkiijaa
