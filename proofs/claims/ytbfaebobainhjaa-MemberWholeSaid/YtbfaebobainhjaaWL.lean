/-
  Plain words of Round: a round that was as it is to be, and one in which none was heard.
-/
import Derived.Test.YtbfaebobainhjaaSP
namespace Go.Proofs.Ytbfaebobainhjaa
open Go Go.RowKit
theorem aft_good (O me own : Nat) : aft O me own 1 = addb own O := by
  by_cases h : O = me
  · subst h; exact aft_own ..
  · unfold aft; rw [if_neg h]; rfl
theorem hs_none (O me own j : Nat) (h : j = O ∨ hs own j = decide (j = me)) : hs (aft O me own 0) j = decide (j = me) := by
  by_cases e : O = me
  · subst e
    rw [aft_own, hs_addb]
    by_cases q : O = j
    · subst q; simp
    · rcases h with h | h
      · exact absurd h.symm q
      · rw [h]; simp [q]
  · have : aft O me own 0 = subb own O := by unfold aft; rw [if_neg e]; rfl
    rw [this, hs_subb]
    by_cases q : O = j
    · subst q; simp [e]
    · rcases h with h | h
      · exact absurd h.symm q
      · rw [h]; simp [q]
theorem rnd_good (x : Md) (me : Int) : ∀ (i : Nat) (k : Int) (own : Nat) (t : Ty), i ≤ 16 → 0 ≤ t.g ∧ t.g + i ≤ 1000 → (∀ q : Nat, q < i → May x me (k + (q : Int))) →
    ∃ A, rnd x me k (List.replicate i 1) own t = (A, ⟨t.g + i, t.b⟩, 0) ∧ (∀ j, hs own j = true → hs A j = true) ∧ (∀ q : Nat, q < i → hs A (slO x (k + (q : Int))) = true)
  | 0, k, own, t, _, _, _ => ⟨own, by obtain ⟨g, b⟩ := t; simp [rnd], fun _ h => h, fun q hq => absurd hq (by omega)⟩
  | i + 1, k, own, t, hi, ht, hm => by
    have h0 := hm 0 (by omega)
    rw [show k + ((0 : Nat) : Int) = k by omega] at h0
    have hc : cnt t 1 = ⟨t.g + 1, t.b⟩ := by
      show (⟨inc t.g, t.b⟩ : Ty) = _
      rw [inc_in (by omega)]
    obtain ⟨A, h1, h2, h3⟩ := rnd_good x me i (k + 1) (addb own (slO x k)) ⟨t.g + 1, t.b⟩ (by omega) (by simp only; omega) (fun q hq => by
      have := hm (q + 1) (by omega)
      rwa [show k + ((q + 1 : Nat) : Int) = k + 1 + (q : Int) by omega] at this)
    refine ⟨A, ?_, fun j hj => h2 j (by rw [hs_addb, hj]; rfl), fun q hq => ?_⟩
    · rw [List.replicate_succ, rnd_on _ _ _ _ _ _ _ ⟨h0, by decide⟩, aft_good, hc, h1]
      simp only [Prod.mk.injEq, Ty.mk.injEq, and_true, true_and]
      omega
    · cases q with
      | zero => rw [show k + ((0 : Nat) : Int) = k by omega]; exact h2 _ (by rw [hs_addb]; simp)
      | succ q => rw [show k + ((q + 1 : Nat) : Int) = k + 1 + (q : Int) by omega]; exact h3 q (by omega)
theorem rnd_none (x : Md) (me : Int) : ∀ (i : Nat) (k : Int) (own : Nat) (t : Ty), i ≤ 16 → (∀ q : Nat, q < i → May x me (k + (q : Int))) →
    ∃ A, rnd x me k (List.replicate i 0) own t = (A, t, 0) ∧ (∀ j, hs own j = decide (j = me.toNat) → hs A j = decide (j = me.toNat)) ∧ (∀ q : Nat, q < i → hs A (slO x (k + (q : Int))) = decide (slO x (k + (q : Int)) = me.toNat))
  | 0, k, own, t, _, _ => ⟨own, by simp [rnd], fun _ h => h, fun q hq => absurd hq (by omega)⟩
  | i + 1, k, own, t, hi, hm => by
    have h0 := hm 0 (by omega)
    rw [show k + ((0 : Nat) : Int) = k by omega] at h0
    have hc : cnt t 0 = t := rfl
    obtain ⟨A, h1, h2, h3⟩ := rnd_none x me i (k + 1) (aft (slO x k) me.toNat own 0) t (by omega) (fun q hq => by
      have := hm (q + 1) (by omega)
      rwa [show k + ((q + 1 : Nat) : Int) = k + 1 + (q : Int) by omega] at this)
    refine ⟨A, ?_, fun j hj => h2 j (hs_none _ _ _ _ (.inr hj)), fun q hq => ?_⟩
    · rw [List.replicate_succ, rnd_on _ _ _ _ _ _ _ ⟨h0, by decide⟩, hc, h1]
    · cases q with
      | zero => rw [show k + ((0 : Nat) : Int) = k by omega]; exact h2 _ (hs_none _ _ _ _ (.inl rfl))
      | succ q => rw [show k + ((q + 1 : Nat) : Int) = k + 1 + (q : Int) by omega]; exact h3 q (by omega)
theorem covered (x : Md) (N : Nat) (hN : x.n = N) (h0 : 0 < N) (k : Int) (j : Nat) (hj : j < N) : ∃ q : Nat, q < N ∧ slO x (k + (q : Int)) = j := by
  have a1 := Int.emod_nonneg ((j : Int) - k) (show (N : Int) ≠ 0 by omega)
  have a2 := Int.emod_lt_of_pos ((j : Int) - k) (show 0 < (N : Int) by omega)
  refine ⟨(((j : Int) - k) % N).toNat, by omega, ?_⟩
  unfold slO
  rw [hN, Int.toNat_of_nonneg a1, Int.add_emod, Int.emod_emod_of_dvd _ (Int.dvd_refl _), ← Int.add_emod, show k + ((j : Int) - k) = (j : Int) by omega, Int.emod_eq_of_lt (by omega) (by omega)]
  rfl
/-- What follows of both rounds. -/
theorem whole_plain (x : Md) (N : Nat) (hN : x.n = N) (me k : Int) (own : Nat) (ho : own < 65536) (hx : Ok x) (hk : 0 ≤ k) (hk2 : k ≤ 2147483648) (m0 : 0 ≤ me) (m1 : me < x.n) :
    ∃ A B, rndA x me k (List.replicate N 1) own = (A, ⟨(N : Int), 0⟩, 0) ∧ rndA x me k (List.replicate N 0) own = (B, ⟨0, 0⟩, 0) ∧ A < 65536 ∧ B < 65536 ∧ (∀ j, j < N → hs A j = true) ∧ (∀ j, j < N → hs B j = decide (j = me.toNat)) := by
  have n1 := hx.1; have n2 := hx.2.1
  have hm : ∀ q : Nat, q < N → May x me (k + (q : Int)) := fun q hq => ⟨hx, by omega, m0, m1⟩
  have hm0 : May x me k := ⟨hx, by omega, m0, m1⟩
  obtain ⟨A, h1, _, h2⟩ := rnd_good x me N k own tz (by omega) (by simp only [tz]; omega) hm
  obtain ⟨B, h3, _, h4⟩ := rnd_none x me N k own tz (by omega) hm
  refine ⟨A, B, ?_, ?_, rnd_lt x me A _ _ k own tz ho h1, rnd_lt x me B _ _ k own tz ho h3, fun j hj => ?_, fun j hj => ?_⟩
  · unfold rndA; rw [if_pos ⟨hm0, by rw [List.length_replicate]; omega⟩, h1]; simp [tz]
  · unfold rndA; rw [if_pos ⟨hm0, by rw [List.length_replicate]; omega⟩, h3]; rfl
  · obtain ⟨q, hq, e⟩ := covered x N hN (by omega) k j hj
    rw [← e]; exact h2 q hq
  · obtain ⟨q, hq, e⟩ := covered x N hN (by omega) k j hj
    rw [← e]; exact h4 q hq
end Go.Proofs.Ytbfaebobainhjaa
