/-
  Plain words of Round: in two goes; what it leaves.
-/
import Derived.Test.YtbfaebobainhjaaN2
namespace Go.Proofs.Ytbfaebobainhjaa
open Go Go.RowKit
theorem rnd_E (x : Md) (me : Int) (l : List Int) : ∀ (k : Int) (own : Nat) (t : Ty), (rnd x me k l own t).2.2 = 0 ∨ rnd x me k l own t = (0, tz, 1) := by
  induction l with
  | nil => intro k own t; exact .inl rfl
  | cons v r ih =>
    intro k own t
    by_cases h : May x me k ∧ OkV v
    · rw [rnd_on _ _ _ _ _ _ _ h]; exact ih _ _ _
    · rw [rnd_err _ _ _ _ _ _ _ h]; exact .inr rfl
theorem rndA_E (x : Md) (me k : Int) (l : List Int) (own : Nat) : (rndA x me k l own).2.2 = 0 ∨ rndA x me k l own = (0, tz, 1) := by
  unfold rndA
  split
  · exact rnd_E ..
  · exact .inr rfl
theorem rnd_split (x : Md) (me : Int) (a : Nat) (T : Ty) (l : List Int) : ∀ (k : Int) (own : Nat) (t : Ty) (j : Nat), j ≤ l.length → rnd x me k l own t = (a, T, 0) →
    ∃ a1 T1, rnd x me k (l.take j) own t = (a1, T1, 0) ∧ rnd x me (k + (j : Int)) (l.drop j) a1 T1 = (a, T, 0) := by
  induction l with
  | nil => intro k own t j hj h; exact ⟨own, t, by simp [rnd], by simpa [rnd] using h⟩
  | cons v r ih =>
    intro k own t j hj h
    cases j with
    | zero => exact ⟨own, t, by simp [rnd], by simpa using h⟩
    | succ j =>
      by_cases hc : May x me k ∧ OkV v
      · rw [rnd_on _ _ _ _ _ _ _ hc] at h
        obtain ⟨a1, T1, h1, h2⟩ := ih (k + 1) _ _ j (by simp at hj; omega) h
        refine ⟨a1, T1, ?_, ?_⟩
        · rw [List.take_succ_cons, rnd_on _ _ _ _ _ _ _ hc]; exact h1
        · rw [List.drop_succ_cons, show k + ((j + 1 : Nat) : Int) = k + 1 + (j : Int) by omega]; exact h2
      · rw [rnd_err _ _ _ _ _ _ _ hc] at h
        simp at h
theorem cnt_le (t : Ty) (v : Int) (B : Int) (h : 0 ≤ t.g ∧ t.g ≤ B ∧ 0 ≤ t.b ∧ t.b ≤ B) : 0 ≤ (cnt t v).g ∧ (cnt t v).g ≤ B + 1 ∧ 0 ≤ (cnt t v).b ∧ (cnt t v).b ≤ B + 1 := by
  unfold cnt inc
  split
  · simp only; omega
  · split
    · simp only; omega
    · omega
theorem rnd_le (x : Md) (me : Int) (a : Nat) (T : Ty) (l : List Int) : ∀ (k : Int) (own : Nat) (t : Ty) (B : Int), (0 ≤ t.g ∧ t.g ≤ B ∧ 0 ≤ t.b ∧ t.b ≤ B) → rnd x me k l own t = (a, T, 0) → 0 ≤ T.g ∧ T.g ≤ B + l.length ∧ 0 ≤ T.b ∧ T.b ≤ B + l.length := by
  induction l with
  | nil => intro k own t B hb h; simp [rnd] at h; obtain ⟨_, rfl⟩ := h; simpa using hb
  | cons v r ih =>
    intro k own t B hb h
    by_cases hc : May x me k ∧ OkV v
    · rw [rnd_on _ _ _ _ _ _ _ hc] at h
      have := ih _ _ _ (B + 1) (cnt_le t v B hb) h
      simp only [List.length_cons]; omega
    · rw [rnd_err _ _ _ _ _ _ _ hc] at h
      simp at h
theorem rnd_shift (x : Md) (me : Int) (a : Nat) (l : List Int) : ∀ (T : Ty) (k : Int) (own : Nat) (t t' : Ty) (B : Int), B + l.length ≤ 1000000 → (0 ≤ t.g ∧ t.g ≤ B ∧ 0 ≤ t.b ∧ t.b ≤ B) → (0 ≤ t'.g ∧ t'.g ≤ B ∧ 0 ≤ t'.b ∧ t'.b ≤ B) → rnd x me k l own t = (a, T, 0) →
    ∃ V, rnd x me k l own t' = (a, V, 0) ∧ V.g - t'.g = T.g - t.g ∧ V.b - t'.b = T.b - t.b := by
  induction l with
  | nil => intro T k own t t' B hB hb hb' h; simp [rnd] at h; obtain ⟨rfl, rfl⟩ := h; exact ⟨t', by simp [rnd], by omega, by omega⟩
  | cons v r ih =>
    intro T k own t t' B hB hb hb' h
    simp only [List.length_cons] at hB
    by_cases hc : May x me k ∧ OkV v
    · rw [rnd_on _ _ _ _ _ _ _ hc] at h
      obtain ⟨V, h1, h2, h3⟩ := ih T _ _ _ (cnt t' v) (B + 1) (by omega) (cnt_le t v B hb) (cnt_le t' v B hb') h
      refine ⟨V, by rw [rnd_on _ _ _ _ _ _ _ hc]; exact h1, ?_⟩
      have e1 : (cnt t' v).g - t'.g = (cnt t v).g - t.g ∧ (cnt t' v).b - t'.b = (cnt t v).b - t.b := by
        unfold cnt inc
        split
        · simp only; omega
        · split
          · simp only; omega
          · omega
      omega
    · rw [rnd_err _ _ _ _ _ _ _ hc] at h
      simp at h
theorem rnd_lt (x : Md) (me : Int) (a : Nat) (T : Ty) (l : List Int) : ∀ (k : Int) (own : Nat) (t : Ty), own < 65536 → rnd x me k l own t = (a, T, 0) → a < 65536 := by
  induction l with
  | nil => intro k own t ho h; simp [rnd] at h; omega
  | cons v r ih =>
    intro k own t ho h
    by_cases hc : May x me k ∧ OkV v
    · rw [rnd_on _ _ _ _ _ _ _ hc] at h
      obtain ⟨_, h2, _, _, h5⟩ := slO_cast x me k hc.1
      exact ih _ _ _ (aft_lt _ _ _ _ ho h2 h5) h
    · rw [rnd_err _ _ _ _ _ _ _ hc] at h
      simp at h
theorem rnd_may (x : Md) (me k : Int) (l : List Int) (own : Nat) (t : Ty) (a : Nat) (T : Ty) (hl : l ≠ []) (h : rnd x me k l own t = (a, T, 0)) : May x me k := by
  cases l with
  | nil => exact absurd rfl hl
  | cons v r =>
    by_cases hc : May x me k ∧ OkV v
    · exact hc.1
    · rw [rnd_err _ _ _ _ _ _ _ hc] at h
      simp at h
/-- In two goes. -/
theorem rndA_split (x : Md) (me k : Int) (l : List Int) (own : Nat) (a : Nat) (T : Ty) (j : Nat) (hj : j < l.length) (h100 : l.length ≤ 100) (h : rndA x me k l own = (a, T, 0)) :
    ∃ a1 U V, rndA x me k (l.take j) own = (a1, U, 0) ∧ rndA x me (k + (j : Int)) (l.drop j) a1 = (a, V, 0) ∧ U.g + V.g = T.g ∧ U.b + V.b = T.b ∧ (own < 65536 → a1 < 65536) ∧
      0 ≤ U.g ∧ U.g ≤ 100 ∧ 0 ≤ U.b ∧ U.b ≤ 100 ∧ 0 ≤ V.g ∧ V.g ≤ 100 ∧ 0 ≤ V.b ∧ V.b ≤ 100 ∧ k + (j : Int) ≤ 4294967296 := by
  unfold rndA at h
  split at h
  · rename_i hm
    obtain ⟨a1, U, h1, h2⟩ := rnd_split x me a T l k own tz j (by omega) h
    have hu := rnd_le x me a1 U _ k own tz 0 (by decide) h1
    rw [List.length_take] at hu
    have hB : 0 ≤ U.g ∧ U.g ≤ (j : Int) ∧ 0 ≤ U.b ∧ U.b ≤ (j : Int) := by omega
    obtain ⟨V, h3, h4, h5⟩ := rnd_shift x me a (l.drop j) T (k + (j : Int)) a1 U tz j (by rw [List.length_drop]; omega) hB (by simp only [tz]; omega) h2
    have hv := rnd_le x me a V _ _ a1 tz 0 (by decide) h3
    rw [List.length_drop] at hv
    have hm2 := rnd_may x me _ _ _ _ _ _ (by intro e; have := congrArg List.length e; simp at this; omega) h3
    refine ⟨a1, U, V, ?_, ?_, by simp only [tz] at h4; omega, by simp only [tz] at h5; omega, fun ho => rnd_lt x me a1 U _ k own tz ho h1, by omega, by omega, by omega, by omega, by omega, by omega, by omega, by omega, hm2.2.1⟩
    · unfold rndA; rw [if_pos ⟨hm.1, by rw [List.length_take]; have := hm.2; omega⟩]; exact h1
    · unfold rndA; rw [if_pos ⟨hm2, by rw [List.length_drop]; have := hm.2; omega⟩]; exact h3
  · simp at h
end Go.Proofs.Ytbfaebobainhjaa
