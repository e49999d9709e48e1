/-
  heap.Less and the document's own, heap.above: what they answer, at any things.
-/
import Derived.Test.YtpfidohneddgkaaA
namespace Go.Proofs.Ytpfidohneddgkaa
open Go Go.RowKit

set_option maxHeartbeats 2000000 in
theorem less_any (x y : It) (w : World) : Calls Try.prog 51 #[itv x, itv y] w fun e w' => e = .returned (.bool (lt x y)) ∧ Below w.heap.size w w' := by
  obtain ⟨R, hR⟩ : ∃ R, R = lt x y := ⟨_, rfl⟩
  rw [← hR]
  obtain ⟨a1, a2, a3, a4, a5, a6⟩ := x
  obtain ⟨b1, b2, b3, b4, b5, b6⟩ := y
  unfold lt lex at hR
  dsimp only at hR
  unfold itv enc
  by_cases h1 : a1 = b1
  · subst h1
    rw [if_pos rfl] at hR
    by_cases h2 : a2 = b2
    · subst h2
      rw [if_pos rfl] at hR
      by_cases h3 : a3 = b3
      · subst h3
        rw [if_pos rfl] at hR
        by_cases h4 : a4 = b4
        · subst h4
          rw [if_pos rfl] at hR
          by_cases h5 : a5 = b5
          · subst h5
            rw [if_pos rfl] at hR
            have HR := hid hR
            clear hR
            go_enter Try.func51, Try.ntmps51
            go_wp2
            go_ret
            exact ⟨ret_bool HR.out.symm, ((Below.refl _ _).alloc (Nat.le_refl _) _).alloc (by simp) _⟩
          · rw [if_neg h5] at hR
            have HR := hid hR
            have t5 : (a5 != b5) = true := by simpa using h5
            clear hR h5
            go_enter Try.func51, Try.ntmps51
            go_wp2
            go_ret
            exact ⟨ret_bool HR.out.symm, ((Below.refl _ _).alloc (Nat.le_refl _) _).alloc (by simp) _⟩
        · rw [if_neg h4] at hR
          have HR := hid hR
          have t4 : (a4 != b4) = true := by simpa using h4
          clear hR h4
          go_enter Try.func51, Try.ntmps51
          go_wp2
          go_ret
          exact ⟨ret_bool HR.out.symm, ((Below.refl _ _).alloc (Nat.le_refl _) _).alloc (by simp) _⟩
      · rw [if_neg h3] at hR
        have HR := hid hR
        have t3 : (a3 != b3) = true := by simpa using h3
        clear hR h3
        go_enter Try.func51, Try.ntmps51
        go_wp2
        go_ret
        exact ⟨ret_bool HR.out.symm, ((Below.refl _ _).alloc (Nat.le_refl _) _).alloc (by simp) _⟩
    · rw [if_neg h2] at hR
      have HR := hid hR
      have t2 : (a2 != b2) = true := by simpa using h2
      clear hR h2
      go_enter Try.func51, Try.ntmps51
      go_wp2
      go_ret
      exact ⟨ret_bool HR.out.symm, ((Below.refl _ _).alloc (Nat.le_refl _) _).alloc (by simp) _⟩
  · rw [if_neg h1] at hR
    have HR := hid hR
    have t1 : (a1 != b1) = true := by simpa using h1
    clear hR h1
    go_enter Try.func51, Try.ntmps51
    go_wp2
    go_ret
    exact ⟨ret_bool HR.out.symm, ((Below.refl _ _).alloc (Nat.le_refl _) _).alloc (by simp) _⟩

set_option maxHeartbeats 2000000 in
theorem refless_any (x y : It) (w : World) : Calls Try.prog 30 #[itv x, itv y] w fun e w' => e = .returned (.bool (lt x y)) ∧ Below w.heap.size w w' := by
  obtain ⟨R, hR⟩ : ∃ R, R = lt x y := ⟨_, rfl⟩
  rw [← hR]
  obtain ⟨a1, a2, a3, a4, a5, a6⟩ := x
  obtain ⟨b1, b2, b3, b4, b5, b6⟩ := y
  unfold lt lex at hR
  dsimp only at hR
  unfold itv enc
  by_cases h1 : a1 = b1
  · subst h1
    rw [if_pos rfl] at hR
    by_cases h2 : a2 = b2
    · subst h2
      rw [if_pos rfl] at hR
      by_cases h3 : a3 = b3
      · subst h3
        rw [if_pos rfl] at hR
        by_cases h4 : a4 = b4
        · subst h4
          rw [if_pos rfl] at hR
          by_cases h5 : a5 = b5
          · subst h5
            rw [if_pos rfl] at hR
            have HR := hid hR
            clear hR
            go_enter Try.func30, Try.ntmps30
            go_wp2
            go_ret
            exact ⟨ret_bool HR.out.symm, ((Below.refl _ _).alloc (Nat.le_refl _) _).alloc (by simp) _⟩
          · rw [if_neg h5] at hR
            have HR := hid hR
            have t5 : (a5 != b5) = true := by simpa using h5
            clear hR h5
            go_enter Try.func30, Try.ntmps30
            go_wp2
            go_ret
            exact ⟨ret_bool HR.out.symm, ((Below.refl _ _).alloc (Nat.le_refl _) _).alloc (by simp) _⟩
        · rw [if_neg h4] at hR
          have HR := hid hR
          have t4 : (a4 != b4) = true := by simpa using h4
          clear hR h4
          go_enter Try.func30, Try.ntmps30
          go_wp2
          go_ret
          exact ⟨ret_bool HR.out.symm, ((Below.refl _ _).alloc (Nat.le_refl _) _).alloc (by simp) _⟩
      · rw [if_neg h3] at hR
        have HR := hid hR
        have t3 : (a3 != b3) = true := by simpa using h3
        clear hR h3
        go_enter Try.func30, Try.ntmps30
        go_wp2
        go_ret
        exact ⟨ret_bool HR.out.symm, ((Below.refl _ _).alloc (Nat.le_refl _) _).alloc (by simp) _⟩
    · rw [if_neg h2] at hR
      have HR := hid hR
      have t2 : (a2 != b2) = true := by simpa using h2
      clear hR h2
      go_enter Try.func30, Try.ntmps30
      go_wp2
      go_ret
      exact ⟨ret_bool HR.out.symm, ((Below.refl _ _).alloc (Nat.le_refl _) _).alloc (by simp) _⟩
  · rw [if_neg h1] at hR
    have HR := hid hR
    have t1 : (a1 != b1) = true := by simpa using h1
    clear hR h1
    go_enter Try.func30, Try.ntmps30
    go_wp2
    go_ret
    exact ⟨ret_bool HR.out.symm, ((Below.refl _ _).alloc (Nat.le_refl _) _).alloc (by simp) _⟩

theorem above_any (k : Nat) (hk : 1 ≤ k) (hb : k ≤ 1000000) (w : World) : Calls Try.prog 58 #[.int .i64 (k : Int)] w fun e w' => e = .returned (.int .i64 ((par k : Nat) : Int)) ∧ w' = w := by
  have e1 : ((k : Int) - 1).tdiv 2 = ((par k : Nat) : Int) := by
    unfold par
    rw [Int.tdiv_eq_ediv_of_nonneg (by omega)]
    omega
  have hp : par k ≤ k := by unfold par; omega
  generalize par k = p at *
  go_enter Try.func58, Try.ntmps58
  go_wp2
  go_ret
  refine ⟨ret_int ?_, rfl⟩
  go_num
end Go.Proofs.Ytpfidohneddgkaa
