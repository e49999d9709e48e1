/-
  Plain words: a piece that is followed by what is no letter or digit; what numbers' and times' texts are cut into. No model's run; no condition.
-/
import Derived.Test.YtfdieablcffdkaaGreatDoorLT
namespace Go.Proofs.YtfdieablcffdkaaGreatDoor
open Go

theorem piece_of (c : UInt8) (r rest : List UInt8) (h1 : c.toNat < 128) (h2 : sgB c = false) (h3 : r.all ldB = true) (h4 : rest = [] ∨ ∃ d e, rest = d :: e ∧ ldB d = false) : pieceF ((c :: r) ++ rest) = c :: r := by
  rw [List.cons_append, pieceF_cons, if_neg (by rw [h2]; decide), dec_ascii _ _ h1]
  show [c] ++ (r ++ rest).takeWhile ldB = _
  rw [takeWhile_stop ldB r rest h3 h4]
  rfl
theorem piece_sg (c : UInt8) (rest : List UInt8) (h2 : sgB c = true) : pieceF (c :: rest) = [c] := by
  rw [pieceF_cons, if_pos h2]

/-- What no space, line's end, or remark begins with. -/
def plainB (c : UInt8) : Bool := decide (c.toNat < 128) && !(c == 10 || c == 32 || c == 9 || c == 35)
theorem cut_one (c : UInt8) (r rest : List UInt8) (p : Pl) (t : Tk) (h1 : plainB c = true) (hp : pieceF ((c :: r) ++ rest) = c :: r) (ht : tokF (c :: r) = .ok t) :
    cutL ((c :: r) ++ rest) false p = ((t, p) :: (cutL rest false ⟨p.line, p.col + (r.length + 1)⟩).1, (cutL rest false ⟨p.line, p.col + (r.length + 1)⟩).2) := by
  have h1' : c.toNat < 128 ∧ c ≠ 10 ∧ c ≠ 32 ∧ c ≠ 9 ∧ c ≠ 35 := by
    simp only [plainB, Bool.and_eq_true, decide_eq_true_eq, Bool.not_eq_true', Bool.or_eq_false_iff, beq_eq_false_iff_ne] at h1
    exact ⟨h1.1, h1.2.1.1.1, h1.2.1.1.2, h1.2.1.2, h1.2.2⟩
  obtain ⟨a0, a1, a2, a3, a4⟩ := h1'
  have ne : ∀ d : UInt8, c ≠ d → c.toNat ≠ d.toNat := fun d hd h => hd (UInt8.toNat_inj.1 h)
  have b1 : c.toNat ≠ 10 := ne 10 a1
  have b2 : c.toNat ≠ 32 := ne 32 a2
  have b3 : c.toNat ≠ 9 := ne 9 a3
  have b4 : c.toNat ≠ 35 := ne 35 a4
  have hb : brok ((c :: r) ++ rest) = false := by
    rw [List.cons_append]
    unfold brok
    rw [dec_ascii _ _ a0, beq_eq_false_iff_ne.2 (show c.toNat ≠ 65533 by omega)]; rfl
  have hd : dec ((c :: r) ++ rest) = (c.toNat, 1) := dec_ascii _ _ a0
  have hl : (c :: r).length = r.length + 1 := rfl
  have hdr : (r ++ rest).drop ((c :: r).length - 1) = rest := by
    rw [hl, Nat.add_sub_cancel]; exact List.drop_left
  rw [List.cons_append] at hb hd hp ⊢
  rw [cutL, if_neg (by rw [hb]; decide), hd, if_neg b1, if_neg (by simp [b2, b3]), if_neg b4, hp, ht]
  simp only
  rw [hdr, hl]
theorem cut_space (l : List UInt8) (p : Pl) : cutL (32 :: l) false p = cutL l false ⟨p.line, p.col + 1⟩ := by
  have hb : brok (32 :: l) = false := by unfold brok; rw [dec_ascii _ _ (by decide)]; rfl
  rw [cutL, if_neg (by rw [hb]; decide), dec_ascii _ _ (by decide), if_neg (by decide), if_pos (.inr (.inl rfl))]
  rfl

theorem nDigits_le : ∀ (k u : Nat), u < 10 ^ k → 1 ≤ k → Lib.nDigits u ≤ k
  | 0, _, _, h => by omega
  | k + 1, u, h, _ => by
    by_cases hu : u < 10
    · rw [Lib.nDigits_small hu]; omega
    · rw [Lib.nDigits_big hu]
      have hk : 1 ≤ k := by
        rcases Nat.eq_zero_or_pos k with h0 | h0
        · subst h0; simp at h; omega
        · exact h0
      have := nDigits_le k (u / 10) (by rw [Nat.pow_succ] at h; omega) hk
      omega
theorem dig_all (l : List UInt8) (h : isDigits l) : l.all digB = true := List.all_eq_true.2 fun c hc => by have := h c hc; simp [digB, this]
theorem dropWhile_stop (f : UInt8 → Bool) (a b : List UInt8) (ha : a.all f = true) (hb : b = [] ∨ ∃ c r, b = c :: r ∧ f c = false) : (a ++ b).dropWhile f = b := by
  induction a with
  | nil =>
    rcases hb with rfl | ⟨c, r, rfl, h⟩
    · rfl
    · rw [List.nil_append, List.dropWhile_cons_of_neg (by rw [h]; decide)]
  | cons d a ih =>
    rw [List.all_cons, Bool.and_eq_true] at ha
    rw [List.cons_append, List.dropWhile_cons_of_pos ha.1, ih ha.2]
theorem let_dig {c : UInt8} (h : letB c = true) : digB c = false := by
  simp only [letB, digB, Bool.and_eq_true, decide_eq_true_eq, Bool.and_eq_false_iff, decide_eq_false_iff_not] at h ⊢; omega
theorem dig_let {c : UInt8} (h : digB c = true) : letB c = false := by
  simp only [letB, digB, Bool.and_eq_true, decide_eq_true_eq, Bool.and_eq_false_iff, decide_eq_false_iff_not] at h ⊢; omega
theorem unit_head (u : List UInt8) (h : u = [] ∨ unitF u ≠ none) : u = [] ∨ ∃ c r, u = c :: r ∧ digB c = false := by
  rcases h with rfl | h
  · exact .inl rfl
  · obtain ⟨ps, hps⟩ := Option.ne_none_iff_exists'.1 h
    obtain ⟨h1, h2, _⟩ := unit_all u ps hps
    match u, h2 with
    | c :: r, _ =>
      rw [List.all_cons, Bool.and_eq_true] at h1
      exact .inr ⟨c, r, rfl, let_dig h1.1⟩

/-- A number's text: a sign, perhaps, and digits. -/
theorem itoa_form (n : Int) : ∃ ds, isDigits ds ∧ ds ≠ [] ∧ decV ds = n.natAbs ∧ ds.length = Lib.nDigits n.natAbs ∧ ((n < 0 ∧ Lib.itoa n = 45 :: ds) ∨ (0 ≤ n ∧ Lib.itoa n = ds)) := by
  obtain ⟨d1, d2, d3⟩ := digits_dec n.natAbs
  refine ⟨Lib.decDigits n.natAbs, d1, d3, d2, Lib.decDigits_length _, ?_⟩
  by_cases h : n < 0
  · exact .inl ⟨h, by unfold Lib.itoa; rw [if_pos h]⟩
  · exact .inr ⟨by omega, by unfold Lib.itoa; rw [if_neg h, show n.toNat = n.natAbs by omega]⟩
theorem size_itoa (n : Int) (u : List UInt8) : ∃ ds, isDigits ds ∧ ds ≠ [] ∧ decV ds = n.natAbs ∧ ds.length = Lib.nDigits n.natAbs ∧ sizeF (Lib.itoa n ++ u) = ds ++ u ∧ minusB (Lib.itoa n ++ u) = decide (n < 0) ∧ ∃ c r, Lib.itoa n = c :: r ∧ (c = 45 ∨ digB c = true) ∧ r.all digB = true := by
  obtain ⟨ds, h1, h2, h3, h4, h5⟩ := itoa_form n
  refine ⟨ds, h1, h2, h3, h4, ?_⟩
  match ds, h2 with
  | d :: e, _ =>
    have hall := dig_all _ h1
    rw [List.all_cons, Bool.and_eq_true] at hall
    have hd := h1 d (List.mem_cons_self ..)
    rcases h5 with ⟨h5, h6⟩ | ⟨h5, h6⟩
    · rw [h6]
      refine ⟨rfl, by rw [decide_eq_true h5]; rfl, 45, d :: e, rfl, .inl rfl, by rw [List.all_cons, hall.1, hall.2]; rfl⟩
    · rw [h6]
      have hne : d ≠ 45 := by rintro rfl; exact absurd hd.1 (by decide)
      refine ⟨by rw [List.cons_append, sizeF_cons, if_neg hne], ?_, d, e, rfl, .inr hall.1, hall.2⟩
      rw [decide_eq_false (by omega)]
      exact beq_eq_false_iff_ne.2 hne
theorem val_itoa (n : Int) (u : List UInt8) (hu : u = [] ∨ unitF u ≠ none) : valF (Lib.itoa n ++ u) = n := by
  obtain ⟨ds, h1, h2, h3, h4, h5, h6, _⟩ := size_itoa n u
  unfold valF
  rw [h5, h6, takeWhile_stop digB ds u (dig_all _ h1) (unit_head u hu), h3]
  by_cases h : n < 0
  · rw [decide_eq_true h, if_pos rfl]; omega
  · rw [decide_eq_false h, if_neg (by decide)]; omega
theorem tok_itoa (n : Int) (u : List UInt8) (hn : n.natAbs < 1000000000000000000) (hu : u = [] ∨ unitF u ≠ none) (hs : ∀ ps, unitF u = some ps → -1000000000000000000 < n * ps ∧ n * ps < 1000000000000000000) :
    tokF (Lib.itoa n ++ u) = .ok (match unitF u with | some ps => ⟨2, Lib.itoa n ++ u, n * ps, true⟩ | none => ⟨2, Lib.itoa n ++ u, n, false⟩) := by
  have hv := val_itoa n u hu
  obtain ⟨ds, h1, h2, h3, h4, h5, h6, c, r, h7, h8, h9⟩ := size_itoa n u
  have htw := takeWhile_stop digB ds u (dig_all _ h1) (unit_head u hu)
  have hdw := dropWhile_stop digB ds u (dig_all _ h1) (unit_head u hu)
  have hlen : ds.length ≤ 18 := by rw [h4]; exact nDigits_le 18 _ hn (by omega)
  have hnum : numF (Lib.itoa n ++ u) = .ok (match unitF u with | some ps => ⟨2, Lib.itoa n ++ u, n * ps, true⟩ | none => ⟨2, Lib.itoa n ++ u, n, false⟩) := by
    unfold numF
    rw [h5, htw, hdw, hv, if_neg (by rintro (h | h); exact h2 h; rcases hu with rfl | hu; exact h.1 rfl; exact hu h.2), if_neg (by omega)]
    cases hps : unitF u with
    | none => rfl
    | some ps => simp only; rw [if_pos (hs ps hps)]
  rw [h7, List.cons_append] at hnum ⊢
  have hsg : sgB c = false := by
    rcases h8 with rfl | h8
    · decide
    · simp only [digB, Bool.and_eq_true, decide_eq_true_eq] at h8
      cases hc : sgB c with
      | false => rfl
      | true =>
        simp only [sgB, Bool.or_eq_true, beq_iff_eq] at hc
        rcases hc with (rfl | rfl) | rfl <;> exact absurd h8 (by decide)
  have hlt : letB c = false := by
    rcases h8 with rfl | h8
    · decide
    · exact dig_let h8
  unfold tokF
  simp only
  rw [if_neg (by rintro ⟨_, h⟩; rw [hsg] at h; cases h), if_neg (by simp [wordB, hlt]), if_neg (by rw [hlt]; decide), hnum]
/-- What is cut of a number's text, and what stands behind it. -/
theorem cut_num (n : Int) (u rest : List UInt8) (p : Pl) (t : Tk) (hu : u = [] ∨ unitF u ≠ none) (ht : tokF (Lib.itoa n ++ u) = .ok t) (hr : rest = [] ∨ ∃ d e, rest = d :: e ∧ ldB d = false) :
    cutL ((Lib.itoa n ++ u) ++ rest) false p = ((t, p) :: (cutL rest false ⟨p.line, p.col + (Lib.itoa n ++ u).length⟩).1, (cutL rest false ⟨p.line, p.col + (Lib.itoa n ++ u).length⟩).2) := by
  obtain ⟨ds, h1, h2, h3, h4, h5, h6, c, r, h7, h8, h9⟩ := size_itoa n u
  have hua : u.all ldB = true := by
    rcases hu with rfl | hu
    · rfl
    · obtain ⟨ps, hps⟩ := Option.ne_none_iff_exists'.1 hu
      exact List.all_eq_true.2 fun d hd => by simp [ldB, List.all_eq_true.1 (unit_all u ps hps).1 d hd]
  have hra : (r ++ u).all ldB = true := by
    rw [List.all_append, hua, Bool.and_true]
    exact List.all_eq_true.2 fun d hd => by simp [ldB, List.all_eq_true.1 h9 d hd]
  have hpl : plainB c = true ∧ sgB c = false := by
    rcases h8 with rfl | h8
    · decide
    · simp only [digB, Bool.and_eq_true, decide_eq_true_eq] at h8
      have hx : ∀ d : UInt8, d.toNat < 48 ∨ 57 < d.toNat → (c == d) = false := fun d hd => beq_eq_false_iff_ne.2 (by rintro rfl; omega)
      refine ⟨?_, ?_⟩
      · unfold plainB
        rw [decide_eq_true (by omega : c.toNat < 128), hx 10 (by decide), hx 32 (by decide), hx 9 (by decide), hx 35 (by decide)]; rfl
      · unfold sgB
        rw [hx 59 (by decide), hx 123 (by decide), hx 125 (by decide)]; rfl
  have hc1 : c.toNat < 128 := by have := hpl.1; simp only [plainB, Bool.and_eq_true, decide_eq_true_eq] at this; exact this.1
  rw [h7, List.cons_append] at ht ⊢
  have hp := piece_of c (r ++ u) rest hc1 hpl.2 hra hr
  exact cut_one c (r ++ u) rest p t hpl.1 hp ht
end Go.Proofs.YtfdieablcffdkaaGreatDoor
