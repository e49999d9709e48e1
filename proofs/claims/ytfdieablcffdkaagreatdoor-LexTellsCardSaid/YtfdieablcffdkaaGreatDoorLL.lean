/-
  Plain words of what plays no part in a text: places, what stands ahead of it (spaces, lines), a line's end and a remark behind it. No model's run; no condition.
-/
import Derived.Test.YtfdieablcffdkaaGreatDoorLJ
namespace Go.Proofs.YtfdieablcffdkaaGreatDoor
open Go

theorem dec_app (c : UInt8) (r m : List UInt8) : dec ((c :: r) ++ 10 :: m) = dec (c :: r) := by
  match r with
  | [] => simp [dec, Lib.decodeN, gb]
  | [a] => simp [dec, Lib.decodeN, gb]
  | [a, b] => simp [dec, Lib.decodeN, gb]
  | a :: b :: d :: r' => simp [dec, Lib.decodeN, gb]
theorem brok_app (c : UInt8) (r m : List UInt8) : brok ((c :: r) ++ 10 :: m) = brok (c :: r) := by
  unfold brok
  rw [dec_app]
  congr 2
  match r with
  | [] => simp [List.isPrefixOf]
  | [a] => simp [List.isPrefixOf]
  | a :: b :: r' => simp [List.isPrefixOf]
theorem takeWhile_app (a m : List UInt8) : (a ++ 10 :: m).takeWhile ldB = a.takeWhile ldB := by
  induction a with
  | nil => rfl
  | cons d a ih =>
    by_cases h : ldB d = true
    · rw [List.cons_append, List.takeWhile_cons_of_pos h, List.takeWhile_cons_of_pos h, ih]
    · rw [List.cons_append, List.takeWhile_cons_of_neg h, List.takeWhile_cons_of_neg h]
theorem piece_app (c : UInt8) (r m : List UInt8) : pieceF ((c :: r) ++ 10 :: m) = pieceF (c :: r) := by
  have h1 := dec_app c r m
  have h2 := dec_le c r
  rw [List.cons_append] at h1 ⊢
  rw [pieceF_cons, pieceF_cons, h1]
  rw [← List.cons_append, List.take_append_of_le_length (by simpa using h2), List.drop_append_of_le_length (by simpa using h2), takeWhile_app]

/-- The tokens, and what is wrong, without places. -/
def tks (X : List (Tk × Pl) × Option (Pl × Nat)) : List Tk × Option Nat := (X.1.map (·.1), X.2.map (·.2))

theorem tks_place : ∀ (n : Nat) (l : List UInt8) (rem : Bool) (p q : Pl), l.length ≤ n → tks (cutL l rem p) = tks (cutL l rem q) := by
  intro n
  induction n with
  | zero =>
    intro l rem p q h
    have : l = [] := List.eq_nil_of_length_eq_zero (by omega)
    subst this
    rw [cutL, cutL]
  | succ n ih =>
    intro l rem p q h
    match l with
    | [] => rw [cutL, cutL]
    | c :: r =>
      have hr : r.length ≤ n := by simpa using h
      have hd : ∀ k, (r.drop k).length ≤ n := fun k => by rw [List.length_drop]; omega
      rw [cutL, cutL]
      split
      · rfl
      split
      · exact ih _ _ _ _ (hd _)
      split
      · exact ih _ _ _ _ (hd _)
      split
      · exact ih _ _ _ _ (hd _)
      cases tokF (pieceF (c :: r)) with
      | error e => rfl
      | ok t =>
        have := ih (r.drop ((pieceF (c :: r)).length - 1)) false ⟨p.line, p.col + (pieceF (c :: r)).length⟩ ⟨q.line, q.col + (pieceF (c :: r)).length⟩ (hd _)
        simp only [tks, Prod.mk.injEq] at this ⊢
        rw [List.map_cons, List.map_cons, this.1, this.2]
        exact ⟨rfl, rfl⟩
theorem tks_free (l : List UInt8) (rem : Bool) (p q : Pl) : tks (cutL l rem p) = tks (cutL l rem q) := tks_place l.length l rem p q (Nat.le_refl _)

/-- A line's end behind a text, and what is cut into nothing. -/
theorem tks_behind (m : List UInt8) (hm : ∀ q, cutL m false q = ([], none)) : ∀ (n : Nat) (l : List UInt8) (rem : Bool) (p : Pl), l.length ≤ n → tks (cutL (l ++ 10 :: m) rem p) = tks (cutL l rem p) := by
  have hnil : ∀ rem p, tks (cutL ([] ++ 10 :: m) rem p) = tks (cutL [] rem p) := by
    intro rem p
    have hb : brok (10 :: m) = false := by unfold brok; rw [dec_ascii 10 m (by decide)]; rfl
    have e1 : cutL (10 :: m) rem p = ([], none) := by
      rw [cutL, if_neg (by rw [hb]; decide), dec_ascii 10 m (by decide), if_pos (by decide)]
      exact hm _
    have e2 : cutL [] rem p = ([], none) := by rw [cutL]
    rw [List.nil_append, e1, e2]
  intro n
  induction n with
  | zero =>
    intro l rem p h
    have : l = [] := List.eq_nil_of_length_eq_zero (by omega)
    subst this
    exact hnil rem p
  | succ n ih =>
    intro l rem p h
    match l with
    | [] => exact hnil rem p
    | c :: r =>
      have hr : r.length ≤ n := by simpa using h
      have hd : ∀ k, (r.drop k).length ≤ n := fun k => by rw [List.length_drop]; omega
      have e1 := dec_app c r m
      have e2 := brok_app c r m
      have e3 := piece_app c r m
      have h2 := dec_le c r
      have h3 := (piece_len (c :: r)).1
      have h1 := dec_pos (c :: r)
      have h4 := (piece_len (c :: r)).2 (by simp)
      have ed : ∀ k, k ≤ r.length → (r ++ 10 :: m).drop k = r.drop k ++ 10 :: m := fun k hk => List.drop_append_of_le_length hk
      rw [List.cons_append] at e1 e2 e3 ⊢
      rw [cutL, cutL, e1, e2, e3, ed _ (by omega), ed _ (by simp at h3; omega)]
      split
      · rfl
      split
      · exact ih _ _ _ (hd _)
      split
      · exact ih _ _ _ (hd _)
      split
      · exact ih _ _ _ (hd _)
      cases tokF (pieceF (c :: r)) with
      | error e => rfl
      | ok t =>
        have := ih (r.drop ((pieceF (c :: r)).length - 1)) false ⟨p.line, p.col + (pieceF (c :: r)).length⟩ (hd _)
        simp only [tks, Prod.mk.injEq] at this ⊢
        rw [List.map_cons, List.map_cons, this.1, this.2]
        exact ⟨rfl, rfl⟩
/-- Spaces and lines ahead of a text. -/
theorem tks_ahead (l : List UInt8) : ∀ (pre : List UInt8) (p q : Pl), (∀ c ∈ pre, c = 10 ∨ c = 9 ∨ c = 32) → tks (cutL (pre ++ l) false p) = tks (cutL l false q)
  | [], p, q, _ => tks_free l false p q
  | c :: pre, p, q, h => by
    have hc := h c (List.mem_cons_self ..)
    have ih := fun p => tks_ahead l pre p q fun d hd => h d (List.mem_cons_of_mem _ hd)
    have hlt : c.toNat < 128 := by rcases hc with rfl | rfl | rfl <;> decide
    have hb : brok (c :: (pre ++ l)) = false := by
      unfold brok
      rw [dec_ascii _ _ hlt]
      rcases hc with rfl | rfl | rfl <;> rfl
    rw [List.cons_append, cutL, if_neg (by rw [hb]; decide), dec_ascii _ _ hlt]
    rcases hc with rfl | rfl | rfl
    · rw [if_pos (by decide)]; exact ih _
    · rw [if_neg (by decide), if_pos (by decide)]; exact ih _
    · rw [if_neg (by decide), if_pos (by decide)]; exact ih _

/-- No line's end, and no broken byte. -/
def cleanB : List UInt8 → Bool
  | [] => true
  | c :: r => decide ((dec (c :: r)).1 ≠ 10) && (decide ((dec (c :: r)).1 ≠ 65533) && cleanB (r.drop ((dec (c :: r)).2 - 1)))
termination_by l => l.length
decreasing_by (simp only [List.length_drop, List.length_cons]; omega)
theorem clean_cut : ∀ (n : Nat) (l : List UInt8) (p : Pl), l.length ≤ n → cleanB l = true → cutL l true p = ([], none) := by
  intro n
  induction n with
  | zero =>
    intro l p h _
    have : l = [] := List.eq_nil_of_length_eq_zero (by omega)
    subst this
    rw [cutL]
  | succ n ih =>
    intro l p h hc
    match l with
    | [] => rw [cutL]
    | c :: r =>
      have hr : r.length ≤ n := by simpa using h
      rw [cleanB] at hc
      simp only [Bool.and_eq_true, decide_eq_true_eq] at hc
      have hb : brok (c :: r) = false := by
        unfold brok
        rw [beq_eq_false_iff_ne.2 hc.2.1]; rfl
      rw [cutL, if_neg (by rw [hb]; decide), if_neg hc.1, if_pos (.inl rfl)]
      exact ih _ _ (by rw [List.length_drop]; omega) hc.2.2
theorem remark_cut (t : List UInt8) (p : Pl) (h : cleanB t = true) : cutL (35 :: t) false p = ([], none) := by
  have hb : brok (35 :: t) = false := by unfold brok; rw [dec_ascii _ _ (by decide)]; rfl
  rw [cutL, if_neg (by rw [hb]; decide), dec_ascii _ _ (by decide), if_neg (by decide), if_neg (by decide), if_pos (by decide)]
  exact clean_cut t.length t _ (Nat.le_refl _) h
theorem remark_cut2 (t : List UInt8) (p : Pl) (h : cleanB t = true) : cutL (35 :: 32 :: t) false p = ([], none) := by
  refine remark_cut (32 :: t) p ?_
  rw [cleanB, dec_ascii _ _ (by decide)]
  simpa using h
theorem remarks_plain (pre s t : List UInt8) (hp : ∀ c ∈ pre, c = 10 ∨ c = 9 ∨ c = 32) (ht : cleanB t = true) : tks (cutL (((pre ++ s) ++ [10, 35]) ++ t) false firstP) = tks (cutL s false firstP) := by
  have e : ((pre ++ s) ++ [10, 35]) ++ t = pre ++ (s ++ 10 :: (35 :: t)) := by simp
  rw [e, tks_ahead _ pre firstP firstP hp]
  exact tks_behind (35 :: t) (fun q => remark_cut t q ht) s.length s false firstP (Nat.le_refl _)
end Go.Proofs.YtfdieablcffdkaaGreatDoor
