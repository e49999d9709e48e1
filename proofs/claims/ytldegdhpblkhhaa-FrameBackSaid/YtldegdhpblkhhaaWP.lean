/-
  Plain arithmetic of layer 2 (no program): a number's groups of seven bits, highest first; what reading them gives; fixed numbers; their order as bytes. No condition but what each head says.
-/
import Derived.Test.YtldegdhpblkhhaaP
import Derived.Lib.BitFns
namespace Go.Proofs.Ytldegdhpblkhhaa
open Go

/-- The groups k to 1, the highest first, each with 128 more. -/
def grp (n : Nat) : Nat → List Nat
  | 0 => []
  | k + 1 => (n / 128 ^ (k + 1) % 128 + 128) :: grp n k
/-- How many groups a number has, but one. -/
def gn (n : Nat) : Nat := (Lib.bitLen n - 1) / 7
/-- A number that varies. -/
def vary (n : Nat) : List Nat := grp n (gn n) ++ [n % 128]
/-- A fixed number of a width. -/
def fixb (n : Nat) : Nat → List Nat
  | 0 => []
  | k + 1 => (n / 256 ^ k % 256) :: fixb n k
/-- All are bytes. -/
theorem grp_len (n : Nat) : ∀ k, (grp n k).length = k
  | 0 => rfl
  | k + 1 => by simp [grp, grp_len n k]
theorem grp_oct (n : Nat) : ∀ k, Oct (grp n k)
  | 0 => Oct.nil
  | k + 1 => Oct.cons (by have := Nat.mod_lt (n / 128 ^ (k + 1)) (show 0 < 128 by omega); omega) (grp_oct n k)
theorem vary_len (n : Nat) : (vary n).length = gn n + 1 := by simp [vary, grp_len]
theorem vary_oct (n : Nat) : Oct (vary n) := (grp_oct n _).app (Oct.cons (by omega) Oct.nil)
theorem fixb_len (n : Nat) : ∀ k, (fixb n k).length = k
  | 0 => rfl
  | k + 1 => by simp [fixb, fixb_len n k]
theorem fixb_oct (n : Nat) : ∀ k, Oct (fixb n k)
  | 0 => Oct.nil
  | k + 1 => Oct.cons (Nat.mod_lt _ (by omega)) (fixb_oct n k)

theorem bitLen_aux : ∀ (f x : Nat), x < 2 ^ f → x < 2 ^ Lib.bitLenAux f x ∧ (x ≠ 0 → 2 ^ (Lib.bitLenAux f x - 1) ≤ x)
  | 0, x, h => by
    have : x = 0 := by simpa using h
    subst this; simp [Lib.bitLenAux]
  | f + 1, x, h => by
    by_cases h0 : x = 0
    · subst h0; simp [Lib.bitLenAux]
    · have ih := bitLen_aux f (x / 2) (by rw [Nat.pow_succ] at h; omega)
      simp only [Lib.bitLenAux, if_neg h0]
      refine ⟨?_, fun _ => ?_⟩
      · rw [Nat.add_comm, Nat.pow_succ]; omega
      · rw [Nat.add_sub_cancel_left]
        by_cases h1 : x / 2 = 0
        · rw [h1]; cases f <;> simp [Lib.bitLenAux] <;> omega
        · have h2 := ih.2 h1
          have h3 : Lib.bitLenAux f (x / 2) ≠ 0 := by
            intro e; rw [e] at ih; have := ih.1; simp at this; omega
          obtain ⟨m, hm⟩ : ∃ m, Lib.bitLenAux f (x / 2) = m + 1 := ⟨_, (Nat.succ_pred h3).symm⟩
          rw [hm] at h2 ⊢
          rw [Nat.pow_succ]; simp at h2; omega

theorem bitLen_lt (n : Nat) (h : n < 2 ^ 64) : n < 2 ^ Lib.bitLen n := (bitLen_aux 64 n h).1
theorem bitLen_ge (n : Nat) (h : n < 2 ^ 64) (h0 : n ≠ 0) : 2 ^ (Lib.bitLen n - 1) ≤ n := (bitLen_aux 64 n h).2 h0
theorem bitLen_le64 (n : Nat) (h : n < 2 ^ 64) : Lib.bitLen n ≤ 64 := Lib.bitLen_le n 64 (Nat.le_refl _) h
theorem bitLen_57 (n : Nat) (h : n < 2 ^ 64) : 57 < Lib.bitLen n ↔ 144115188075855872 ≤ n := by
  constructor
  · intro hb
    by_cases hn : n < 2 ^ 57
    · have := Lib.bitLen_le n 57 (by omega) hn; omega
    · have : (2 : Nat) ^ 57 = 144115188075855872 := by decide
      omega
  · intro hn
    have h1 := bitLen_lt n h
    apply Nat.lt_of_not_le; intro hb
    have h2 := Nat.pow_le_pow_right (show 0 < 2 by omega) hb
    have : (2 : Nat) ^ 57 = 144115188075855872 := by decide
    omega

theorem pow128 (k : Nat) : 128 ^ k = 2 ^ (7 * k) := by rw [Nat.pow_mul]
theorem gn_lt (n : Nat) (h : n < 2 ^ 64) : n < 128 ^ (gn n + 1) := by
  rw [pow128]
  exact Nat.lt_of_lt_of_le (bitLen_lt n h) (Nat.pow_le_pow_right (by omega) (by unfold gn; omega))
theorem gn_ge (n : Nat) (h : n < 2 ^ 64) (h0 : 0 < gn n) : 128 ^ gn n ≤ n := by
  rw [pow128]
  have hn : n ≠ 0 := by intro e; subst e; revert h0; decide
  exact Nat.le_trans (Nat.pow_le_pow_right (by omega) (by unfold gn; omega)) (bitLen_ge n h hn)
theorem gn_le (n : Nat) (h : n < 2 ^ 64) : gn n ≤ 9 := by
  have := bitLen_le64 n h
  unfold gn; omega
theorem pow_mono128 {i j : Nat} (h : i ≤ j) : 128 ^ i ≤ 128 ^ j := Nat.pow_le_pow_right (by omega) h
theorem gn_eq (n k : Nat) (h : n < 2 ^ 64) (h1 : n < 128 ^ (k + 1)) (h2 : 0 < k → 128 ^ k ≤ n) : gn n = k := by
  apply Nat.le_antisymm
  · apply Nat.le_of_not_lt; intro hlt
    have := gn_ge n h (by omega)
    have := pow_mono128 (show k + 1 ≤ gn n by omega)
    omega
  · apply Nat.le_of_not_lt; intro hlt
    have := gn_lt n h
    have := pow_mono128 (show gn n + 1 ≤ k by omega)
    have := h2 (by omega)
    omega
theorem gn_mono {a b : Nat} (ha : a < 2 ^ 64) (hb : b < 2 ^ 64) (h : a ≤ b) : gn a ≤ gn b := by
  apply Nat.le_of_not_lt; intro hlt
  have := gn_ge a ha (by omega)
  have := gn_lt b hb
  have := pow_mono128 (show gn b + 1 ≤ gn a by omega)
  omega
theorem gn_small (n : Nat) (h : n < 128) : gn n = 0 := gn_eq n 0 (Nat.lt_of_lt_of_le h (by decide)) (by simpa using h) (by omega)
theorem div_pow_succ (n k : Nat) : n / 128 ^ (k + 1) = n / 128 / 128 ^ k := by
  rw [Nat.div_div_eq_div_mul, Nat.pow_succ, Nat.mul_comm]
theorem div_pow_succ' (n k : Nat) : n / 128 ^ (k + 1) = n / 128 ^ k / 128 := by
  rw [Nat.div_div_eq_div_mul, Nat.pow_succ]
theorem gn_big (n : Nat) (h : n < 2 ^ 64) (hn : 128 ≤ n) : gn n = gn (n / 128) + 1 := by
  have h' : n / 128 < 2 ^ 64 := by omega
  have a1 := gn_lt (n / 128) h'
  refine gn_eq n _ h ?_ (fun _ => ?_)
  · rw [Nat.pow_succ]
    generalize 128 ^ (gn (n / 128) + 1) = Q at a1 ⊢
    omega
  · by_cases h0 : gn (n / 128) = 0
    · rw [h0]; simpa using hn
    · have := gn_ge (n / 128) h' (by omega)
      rw [Nat.pow_succ]
      generalize 128 ^ gn (n / 128) = Q at this ⊢
      omega

theorem grp_snoc (n : Nat) : ∀ k, grp n (k + 1) = grp (n / 128) k ++ [n / 128 % 128 + 128]
  | 0 => by simp [grp]
  | k + 1 => by
    rw [grp, grp_snoc n k, grp, div_pow_succ]; rfl
theorem vary_big (n : Nat) (h : n < 2 ^ 64) (hn : 128 ≤ n) : vary n = grp (n / 128) (gn (n / 128)) ++ [n / 128 % 128 + 128] ++ [n % 128] := by
  unfold vary; rw [gn_big n h hn, grp_snoc]
theorem vary_small (n : Nat) (h : n < 128) : vary n = [n] := by
  unfold vary; rw [gn_small n h]; simp [grp, Nat.mod_eq_of_lt h]

/-- What the bytes from a place on are: the number, the place behind, the error's number. -/
def tv (first : Bool) (acc k : Nat) : List Nat → Nat × Nat × Nat
  | [] => (0, 0, 3)
  | x :: r => if (first = true ∧ x = 128) ∨ 144115188075855872 ≤ acc then (0, 0, 4)
    else if x < 128 then (acc * 128 + x, k + 1, 0) else tv false (acc * 128 + x % 128) (k + 1) r

theorem acc_step (n k : Nat) : n / 128 ^ (k + 1) * 128 + n / 128 ^ k % 128 = n / 128 ^ k := by
  rw [div_pow_succ']; omega
theorem div_lt57 (n k : Nat) (h : n < 2 ^ 64) : n / 128 ^ (k + 1) < 144115188075855872 := by
  rw [div_pow_succ]
  exact Nat.lt_of_le_of_lt (Nat.div_le_self _ _) (by omega)
theorem tv_grp (n : Nat) (h : n < 2 ^ 64) (rest : List Nat) : ∀ (j : Nat) (f : Bool) (k : Nat), (f = true → 0 < j → n / 128 ^ j % 128 ≠ 0) →
    tv f (n / 128 ^ (j + 1)) k (grp n j ++ [n % 128] ++ rest) = (n, k + (j + 1), 0)
  | 0, f, k, _ => by
    have h1 := div_lt57 n 0 h
    have h2 : n % 128 < 128 := Nat.mod_lt _ (by omega)
    simp only [grp, List.nil_append, List.cons_append, tv]
    rw [if_neg (by rintro (⟨_, e⟩ | e) <;> omega), if_pos h2]
    have : n / 128 ^ (0 + 1) * 128 + n % 128 = n := by simp; omega
    rw [this]
  | j + 1, f, k, hf => by
    have h1 := div_lt57 n (j + 1) h
    have h2 : n / 128 ^ (j + 1) % 128 < 128 := Nat.mod_lt _ (by omega)
    simp only [grp, List.cons_append, tv]
    rw [if_neg (by
      rintro (⟨e1, e⟩ | e)
      · exact hf e1 (by omega) (by omega)
      · omega), if_neg (by omega)]
    have e : (n / 128 ^ (j + 1) % 128 + 128) % 128 = n / 128 ^ (j + 1) % 128 := by omega
    rw [e, acc_step, tv_grp n h rest j false (k + 1) (by intro e; cases e)]
    simp; omega
theorem tv_vary (n : Nat) (h : n < 2 ^ 64) (k : Nat) (rest : List Nat) : tv true 0 k (vary n ++ rest) = (n, k + (vary n).length, 0) := by
  have h0 : n / 128 ^ (gn n + 1) = 0 := Nat.div_eq_of_lt (gn_lt n h)
  have := tv_grp n h rest (gn n) true k (fun _ hp => by
    have h1 := gn_ge n h hp
    have h2 := gn_lt n h
    have h3 : n / 128 ^ gn n < 128 := (Nat.div_lt_iff_lt_mul (by exact Nat.pow_pos (by omega))).2 (by rw [Nat.mul_comm, ← Nat.pow_succ]; exact h2)
    have h4 : 0 < n / 128 ^ gn n := Nat.div_pos h1 (Nat.pow_pos (by omega))
    rw [Nat.mod_eq_of_lt h3]; omega)
  rw [h0] at this
  rw [vary_len]
  exact this

/-- What is read of bytes is a number with those bytes. -/
theorem tv_again : ∀ (l : List Nat) (f : Bool) (acc k n p : Nat), Oct l → acc < 2 ^ 64 → tv f acc k l = (n, p, 0) →
    ∃ j, p = k + (j + 1) ∧ j < l.length ∧ n < 2 ^ 64 ∧ acc = n / 128 ^ (j + 1) ∧ l.take (j + 1) = grp n j ++ [n % 128] ∧ (f = true → 0 < j → n / 128 ^ j % 128 ≠ 0)
  | [], f, acc, k, n, p, _, _, h => by simp [tv] at h
  | x :: r, f, acc, k, n, p, ho, ha, h => by
    simp only [tv] at h
    have hx : x < 256 := ho x (List.mem_cons_self ..)
    split at h
    · simp at h
    · rename_i hc
      have hc1 : acc < 144115188075855872 := by apply Nat.lt_of_not_le; intro e; exact hc (Or.inr e)
      have hc2 : f = true → x ≠ 128 := fun e e' => hc (Or.inl ⟨e, e'⟩)
      split at h
      · rename_i hlt
        obtain ⟨rfl, rfl, -⟩ : acc * 128 + x = n ∧ k + 1 = p ∧ True := by simpa using h
        refine ⟨0, rfl, by simp, by omega, by simp; omega, ?_, by omega⟩
        simp [grp]; omega
      · rename_i hge
        obtain ⟨j, rfl, hj, hn, hacc, htake, -⟩ := tv_again r false (acc * 128 + x % 128) (k + 1) n p (fun y hy => ho y (List.mem_cons_of_mem _ hy)) (by omega) h
        have e1 : n / 128 ^ (j + 1) % 128 = x % 128 := by rw [← hacc]; omega
        have e2 : acc = n / 128 ^ (j + 1 + 1) := by rw [div_pow_succ', ← hacc]; omega
        refine ⟨j + 1, by omega, by simp; omega, hn, e2, ?_, fun hf _ => ?_⟩
        · rw [List.take_succ_cons, htake]
          simp only [grp, List.cons_append, e1]
          congr 1; omega
        · have := hc2 hf; rw [e1]; omega
theorem tv_back (l : List Nat) (k n p : Nat) (ho : Oct l) (h : tv true 0 k l = (n, p, 0)) :
    n < 2 ^ 64 ∧ p = k + (vary n).length ∧ (vary n).length ≤ l.length ∧ l.take (vary n).length = vary n := by
  obtain ⟨j, rfl, hj, hn, hacc, htake, hf⟩ := tv_again l true 0 k n p ho (by decide) h
  have hg : gn n = j := by
    refine gn_eq n j hn ?_ (fun hp => ?_)
    · apply Nat.lt_of_not_le; intro hle
      have := Nat.div_pos hle (Nat.pow_pos (by omega)); omega
    · apply Nat.le_of_not_lt; intro hlt
      have := hf rfl hp
      rw [Nat.div_eq_of_lt hlt] at this
      simp at this
  subst hg
  rw [vary_len]
  exact ⟨hn, rfl, by omega, htake⟩
/-- What is there, or is wrong, stays so with bytes behind. -/
theorem tv_more : ∀ (l r : List Nat) (f : Bool) (acc k : Nat), (tv f acc k l).2.2 ≠ 3 → tv f acc k (l ++ r) = tv f acc k l
  | [], r, f, acc, k, h => by simp [tv] at h
  | x :: l, r, f, acc, k, h => by
    simp only [List.cons_append, tv] at h ⊢
    split
    · rfl
    · rename_i hc
      rw [if_neg hc] at h
      split
      · rfl
      · rename_i hx
        rw [if_neg hx] at h
        exact tv_more l r _ _ _ h
theorem tv_err : ∀ (l : List Nat) (f : Bool) (acc k : Nat), (tv f acc k l).2.2 ≠ 0 → (tv f acc k l = (0, 0, 3) ∨ tv f acc k l = (0, 0, 4))
  | [], f, acc, k, h => by simp [tv]
  | x :: l, f, acc, k, h => by
    simp only [tv] at h ⊢
    split
    · simp
    · rename_i hc
      rw [if_neg hc] at h
      split
      · rename_i hx; rw [if_pos hx] at h; simp at h
      · rename_i hx
        rw [if_neg hx] at h
        exact tv_err l _ _ _ h

/-- No number's bytes are another one's beginning. -/
theorem vary_apart (a b : Nat) (ha : a < 2 ^ 64) (hb : b < 2 ^ 64) (h : vary a = (vary b).take (vary a).length) : a = b := by
  have h1 := tv_vary b hb 0 []
  rw [List.append_nil] at h1
  have h2 := tv_vary a ha 0 ((vary b).drop (vary a).length)
  have e := List.take_append_drop (vary a).length (vary b)
  rw [← h] at e
  rw [e, h1] at h2
  exact ((Prod.mk.inj h2).1).symm

/-- The order of bytes, octet by octet. -/
def less : List Nat → List Nat → Bool
  | _, [] => false
  | [], _ :: _ => true
  | a :: x, b :: y => decide (a < b) || (decide (a = b) && less x y)

theorem less_fixb (a b : Nat) : ∀ k, less (fixb a k) (fixb b k) = decide (a % 256 ^ k < b % 256 ^ k)
  | 0 => by simp [fixb, less, Nat.mod_one]
  | k + 1 => by
    have hp : 0 < 256 ^ k := Nat.pow_pos (by omega)
    have ea : a % 256 ^ (k + 1) = a / 256 ^ k % 256 * 256 ^ k + a % 256 ^ k := by rw [Nat.pow_succ, Nat.mod_mul, Nat.mul_comm, Nat.add_comm]
    have eb : b % 256 ^ (k + 1) = b / 256 ^ k % 256 * 256 ^ k + b % 256 ^ k := by rw [Nat.pow_succ, Nat.mod_mul, Nat.mul_comm, Nat.add_comm]
    have la := Nat.mod_lt a hp
    have lb := Nat.mod_lt b hp
    simp only [fixb, less, less_fixb a b k, ea, eb]
    generalize 256 ^ k = Q at *
    generalize a / Q % 256 = x
    generalize b / Q % 256 = y
    generalize a % Q = r at *
    generalize b % Q = s at *
    rcases Nat.lt_trichotomy x y with h | h | h
    · have : x * Q + r < y * Q + s := by
        have : (x + 1) * Q ≤ y * Q := Nat.mul_le_mul_right _ h
        rw [Nat.add_mul] at this; omega
      simp [h, this]
    · subst h; simp
    · have : ¬ (x * Q + r < y * Q + s) := by
        have : (y + 1) * Q ≤ x * Q := Nat.mul_le_mul_right _ h
        rw [Nat.add_mul] at this; omega
      have h1 : ¬ x < y := by omega
      have h2 : ¬ x = y := by omega
      simp [h1, h2, this]
theorem less_grp (a b : Nat) : ∀ k, less (grp a k ++ [a % 128]) (grp b k ++ [b % 128]) = decide (a % 128 ^ (k + 1) < b % 128 ^ (k + 1))
  | 0 => by simp [grp, less]
  | k + 1 => by
    have hp : 0 < 128 ^ (k + 1) := Nat.pow_pos (by omega)
    have ea : a % 128 ^ (k + 1 + 1) = a / 128 ^ (k + 1) % 128 * 128 ^ (k + 1) + a % 128 ^ (k + 1) := by rw [Nat.pow_succ, Nat.mod_mul, Nat.mul_comm, Nat.add_comm]
    have eb : b % 128 ^ (k + 1 + 1) = b / 128 ^ (k + 1) % 128 * 128 ^ (k + 1) + b % 128 ^ (k + 1) := by rw [Nat.pow_succ, Nat.mod_mul, Nat.mul_comm, Nat.add_comm]
    have la := Nat.mod_lt a hp
    have lb := Nat.mod_lt b hp
    simp only [grp, List.cons_append, less, less_grp a b k, ea, eb]
    generalize 128 ^ (k + 1) = Q at *
    generalize a / Q % 128 = x
    generalize b / Q % 128 = y
    generalize a % Q = r at *
    generalize b % Q = s at *
    rcases Nat.lt_trichotomy x y with h | h | h
    · have : x * Q + r < y * Q + s := by
        have : (x + 1) * Q ≤ y * Q := Nat.mul_le_mul_right _ h
        rw [Nat.add_mul] at this; omega
      simp [h, this]
    · subst h; simp
    · have : ¬ (x * Q + r < y * Q + s) := by
        have : (y + 1) * Q ≤ x * Q := Nat.mul_le_mul_right _ h
        rw [Nat.add_mul] at this; omega
      have h1 : ¬ x < y := by omega
      have h2 : ¬ x = y := by omega
      simp [h1, h2, this]
theorem less_vary (a b : Nat) (ha : a < 2 ^ 64) (hb : b < 2 ^ 64) (h : (vary a).length = (vary b).length) : less (vary a) (vary b) = decide (a < b) := by
  rw [vary_len, vary_len] at h
  have h' : gn a = gn b := by omega
  have la := gn_lt a ha
  have lb := gn_lt b hb
  unfold vary
  rw [h', less_grp, Nat.mod_eq_of_lt (by rw [h'] at la; exact la), Nat.mod_eq_of_lt lb]
theorem less_fix8 (a b : Nat) (ha : a < 2 ^ 64) (hb : b < 2 ^ 64) : less (fixb a 8) (fixb b 8) = decide (a < b) := by
  rw [less_fixb, Nat.mod_eq_of_lt (by simpa using ha), Nat.mod_eq_of_lt (by simpa using hb)]

def fxv (a : Nat) (l : List Nat) : Nat := l.foldl (fun n x => n * 256 + x) a
theorem fxv_lt (l : List Nat) (ho : Oct l) : fxv 0 l < 256 ^ l.length := by
  have : ∀ (l : List Nat) (a : Nat), Oct l → fxv a l < (a + 1) * 256 ^ l.length := by
    intro l
    induction l with
    | nil => intro a _; simp [fxv]
    | cons x l ih =>
      intro a ho
      have h1 := ih (a * 256 + x) (fun y hy => ho y (List.mem_cons_of_mem _ hy))
      have h2 := ho x (List.mem_cons_self ..)
      have h3 : (a * 256 + x + 1) * 256 ^ l.length ≤ (a + 1) * 256 * 256 ^ l.length := Nat.mul_le_mul_right _ (by omega)
      simp only [fxv, List.foldl_cons, List.length_cons, Nat.pow_succ] at h1 ⊢
      rw [Nat.mul_comm (256 ^ l.length) 256, ← Nat.mul_assoc]
      omega
  simpa using this l 0 ho
theorem fxv_snoc (l : List Nat) (x : Nat) : fxv 0 (l ++ [x]) = fxv 0 l * 256 + x := by simp [fxv]
theorem fxv_fixb (x : Nat) : ∀ (k a : Nat), a = x / 256 ^ k → fxv a (fixb x k) = x
  | 0, a, h => by simp [fixb, fxv, h]
  | k + 1, a, h => by
    simp only [fixb, fxv, List.foldl_cons]
    refine fxv_fixb x k _ ?_
    rw [h, Nat.pow_succ, ← Nat.div_div_eq_div_mul]
    omega
end Go.Proofs.Ytldegdhpblkhhaa
