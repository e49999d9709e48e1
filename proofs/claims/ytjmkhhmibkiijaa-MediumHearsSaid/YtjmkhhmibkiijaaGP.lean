/-
  Plain: what is launched one behind the other is garbled just if it meets another one. No condition but what each head says.
-/
import Derived.Test.YtjmkhhmibkiijaaM0
namespace Go.Proofs.Ytjmkhhmibkiijaa
open Go Go.RowKit

theorem meet_comm (x y : Ar) : meet x y = meet y x := by
  unfold meet; rw [Bool.eq_iff_iff]; simp; omega
theorem may_same (x : Ar) (A : Option Addr) (c : Nat) (b : Bool) : mayA { x with A := A, c := c, bad := b } = mayA x := rfl
theorem lauE_zero {xs : List Ar} {x : Ar} (h : lauE xs x = 0) : okA xs = true ∧ okA [x] = true ∧ xs.length < 256 ∧ (0 < xs.length → (nth xs (xs.length - 1)).id < x.id) := by
  unfold lauE at h
  by_cases h1 : okA xs = true
  · by_cases h2 : okA [x] = true
    · rw [h1, h2] at h
      simp only [Bool.and_self, if_true] at h
      split at h
      · omega
      · rename_i h3
        split at h
        · omega
        · have := okA_len h1
          refine ⟨h1, h2, by omega, fun hp => ?_⟩
          simp at h3
          exact h3 hp
    · simp [h2] at h
  · simp [h1] at h
theorem lauE_cases (xs : List Ar) (x : Ar) : lauE xs x = 0 ∨ lauE xs x = 1 ∨ lauE xs x = 7 := by
  unfold lauE; split
  · split
    · exact .inr (.inl rfl)
    · split
      · exact .inr (.inr rfl)
      · exact .inl rfl
  · exact .inr (.inl rfl)
theorem wrg_ids {xs : List Ar} (h : okA xs = true) {j : Nat} (hj : j + 1 < xs.length) : (nth xs j).id < (nth xs (j + 1)).id := by
  have h2 : anyB (wrg xs) xs.length = false := by unfold okA at h; simp at h; exact h.2
  have := anyB_false h2 hj
  unfold wrg at this
  simp at this
  omega
theorem okA_next {xs l : List Ar} {x : Ar} (hE : lauE xs x = 0) (hl : l.length = xs.length + 1) (hp : lauP xs x l) : okA l = true := by
  obtain ⟨h1, h2, h3, h4⟩ := lauE_zero hE
  have : anyB (wrg l) l.length = false := anyB_no fun j hj => by
    rw [hl] at hj
    obtain ⟨A, c, hx⟩ := hp.2
    by_cases e : j = xs.length
    · subst e
      have hm : mayA (nth l xs.length) = true := by rw [hx, may_same, ← okA_one]; exact h2
      have : (0 < xs.length ∧ (nth l xs.length).id ≤ (nth l (xs.length - 1)).id) → False := fun ⟨hp0, hq⟩ => by
        obtain ⟨A2, c2, hy⟩ := hp.1 (xs.length - 1) (by omega)
        rw [hx, hy] at hq
        have := h4 hp0
        simp at hq; omega
      unfold wrg
      rw [hm, Bool.not_true, Bool.false_or, Bool.eq_false_iff]
      intro hh
      rw [Bool.and_eq_true, decide_eq_true_eq, decide_eq_true_eq] at hh
      exact this hh
    · obtain ⟨A1, c1, hy⟩ := hp.1 j (by omega)
      have hm : mayA (nth l j) = true := by rw [hy, may_same]; exact okA_may h1 _ (nth_mem (by omega))
      have : (0 < j ∧ (nth l j).id ≤ (nth l (j - 1)).id) → False := fun ⟨hp0, hq⟩ => by
        obtain ⟨A2, c2, hz⟩ := hp.1 (j - 1) (by omega)
        rw [hy, hz] at hq
        have h5 := wrg_ids h1 (j := j - 1) (by omega)
        rw [show j - 1 + 1 = j by omega] at h5
        simp at hq; omega
      unfold wrg
      rw [hm, Bool.not_true, Bool.false_or, Bool.eq_false_iff]
      intro hh
      rw [Bool.and_eq_true, decide_eq_true_eq, decide_eq_true_eq] at hh
      exact this hh
  unfold okA
  rw [this, hl]
  simp
  omega
theorem anyB_congr {f g : Nat → Bool} {n : Nat} (h : ∀ i, i < n → f i = g i) : anyB f n = anyB g n := by
  unfold anyB
  rw [Bool.eq_iff_iff, List.any_eq_true, List.any_eq_true]
  exact ⟨fun ⟨i, hi, hf⟩ => ⟨i, hi, by rw [← h i (List.mem_range.1 hi)]; exact hf⟩, fun ⟨i, hi, hf⟩ => ⟨i, hi, by rw [h i (List.mem_range.1 hi)]; exact hf⟩⟩
/-- Does it meet another one? -/
def gm (xs : List Ar) (a b : Nat) : Bool := decide (a ≠ b) && meet (nth xs a) (nth xs b)
def gb (xs : List Ar) (a : Nat) : Bool := anyB (gm xs a) xs.length
def ginv (ls xs : List Ar) (i : Nat) : Prop := okA xs = true ∧ xs.length ≤ i ∧ ∀ a, a < xs.length → (0 ≤ (nth xs a).id ∧ (nth xs a).id < (i : Int)) ∧ (nth xs a).bad = (gb xs a || (nth ls (nth xs a).id.toNat).bad)
theorem ginv_zero (ls : List Ar) : ginv ls [] 0 := ⟨rfl, Nat.le_refl _, fun a h => by simp at h⟩
theorem ginv_stay {ls xs : List Ar} {i : Nat} (h : ginv ls xs i) : ginv ls xs (i + 1) :=
  ⟨h.1, by have := h.2.1; omega, fun a ha => ⟨⟨(h.2.2 a ha).1.1, by have := (h.2.2 a ha).1.2; omega⟩, (h.2.2 a ha).2⟩⟩
theorem ginv_next {ls xs l : List Ar} {i : Nat} (h : ginv ls xs i) (hE : lauE xs { nth ls i with id := (i : Int) } = 0) (hl : l.length = xs.length + 1) (hp : lauP xs { nth ls i with id := (i : Int) } l) : ginv ls l (i + 1) := by
  refine ⟨okA_next hE hl hp, by have := h.2.1; omega, fun a ha => ?_⟩
  rw [hl] at ha
  obtain ⟨A, c, hx⟩ := hp.2
  by_cases e : a = xs.length
  · subst e
    have h1 : gb l xs.length = anyB (fun b => meet { nth ls i with id := (i : Int) } (nth xs b)) xs.length := by
      unfold gb
      rw [hl, anyB_succ]
      have : gm l xs.length xs.length = false := by unfold gm; simp
      rw [this, Bool.or_false]
      refine anyB_congr fun b hb => ?_
      obtain ⟨A2, c2, hy⟩ := hp.1 b hb
      unfold gm
      rw [hx, hy, decide_eq_true (by omega : xs.length ≠ b)]
      rfl
    rw [h1, hx]
    refine ⟨⟨by simp, by simp; omega⟩, ?_⟩
    have : ((i : Int)).toNat = i := by omega
    show bads xs { nth ls i with id := (i : Int) } xs.length = (_ || (nth ls ((i : Int)).toNat).bad)
    rw [this]
    unfold bads
    rw [Bool.or_comm]
  · obtain ⟨A1, c1, hy⟩ := hp.1 a (by omega)
    have h1 : gb l a = (gb xs a || meet { nth ls i with id := (i : Int) } (nth xs a)) := by
      unfold gb
      rw [hl, anyB_succ]
      congr 1
      · refine anyB_congr fun b hb => ?_
        obtain ⟨A2, c2, hz⟩ := hp.1 b hb
        unfold gm
        rw [hy, hz]
        rfl
      · unfold gm
        rw [hy, hx, decide_eq_true (by omega : a ≠ xs.length), Bool.true_and, meet_comm]
        rfl
    have h2 := h.2.2 a (by omega)
    rw [h1, hy]
    refine ⟨⟨h2.1.1, by have := h2.1.2; show (nth xs a).id < _; omega⟩, ?_⟩
    show ((nth xs a).bad || _) = (_ || (nth ls (nth xs a).id.toNat).bad)
    rw [h2.2]
    cases gb xs a <;> cases meet { nth ls i with id := (i : Int) } (nth xs a) <;> cases (nth ls (nth xs a).id.toNat).bad <;> rfl
end Go.Proofs.Ytjmkhhmibkiijaa
