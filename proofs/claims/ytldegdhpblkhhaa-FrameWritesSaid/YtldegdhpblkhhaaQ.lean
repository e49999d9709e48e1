/-
  Plain arithmetic of layer 3, bursts: what some turned bits beside one another do to the two registers (no program). No condition but what each head says.
-/
import Derived.Test.YtldegdhpblkhhaaP
namespace Go.Proofs.Ytldegdhpblkhhaa

/-- A text with bit q turned; each byte's highest comes first. -/
def turned (bs : List Nat) (q : Nat) : List Nat := bs.set (q / 8) (bs.getD (q / 8) 0 ^^^ 128 / 2 ^ (q % 8))
theorem turned_len (bs : List Nat) (q : Nat) : (turned bs q).length = bs.length := by simp [turned]
theorem bit_pow (m : Nat) (h : m < 8) : 128 / 2 ^ m = 2 ^ (7 - m) := by
  rcases m with _ | _ | _ | _ | _ | _ | _ | _ | m <;> first | rfl | omega
theorem bit_lt (q : Nat) : 128 / 2 ^ (q % 8) < 256 := Nat.lt_of_le_of_lt (Nat.div_le_self _ _) (by decide)
theorem turned_oct {bs : List Nat} (h : Oct bs) (q : Nat) : Oct (turned bs q) := by
  intro x hx
  rcases List.mem_or_eq_of_mem_set hx with hx | rfl
  · exact h x hx
  · refine Nat.xor_lt_two_pow (n := 8) ?_ (bit_lt q)
    rw [List.getD_eq_getElem?_getD]
    by_cases hl : q / 8 < bs.length
    · rw [List.getElem?_eq_getElem hl]; exact h _ (List.getElem_mem hl)
    · rw [List.getElem?_eq_none (by omega)]; decide
theorem turned_eq (bs : List Nat) (q : Nat) (h : q / 8 < bs.length) : turned bs q = bs.set (q / 8) (bs[q / 8] ^^^ 128 / 2 ^ (q % 8)) := by
  unfold turned; rw [List.getD_eq_getElem?_getD, List.getElem?_eq_getElem h]; rfl
/-- Twice is as it was; once is not. -/
theorem turned_twice (bs : List Nat) (q : Nat) (h : q / 8 < bs.length) : turned (turned bs q) q = bs := by
  rw [turned_eq (turned bs q) q (by rw [turned_len]; exact h)]
  simp only [turned_eq bs q h, List.getElem_set_self, List.set_set]
  rw [Nat.xor_assoc, Nat.xor_self, Nat.xor_zero, List.set_getElem_self]
theorem turned_ne (bs : List Nat) (q : Nat) (h : q / 8 < bs.length) : turned bs q ≠ bs := by
  intro e
  have h1 : (turned bs q)[q / 8]? = bs[q / 8]? := by rw [e]
  rw [turned_eq bs q h, List.getElem?_set_self h, List.getElem?_eq_getElem h] at h1
  have h2 := Option.some.inj h1
  have h3 : 128 / 2 ^ (q % 8) = 0 := by
    have := congrArg (fun x => bs[q / 8] ^^^ x) h2
    simp only [xor_cancel, Nat.xor_self] at this
    exact this
  rw [bit_pow _ (by omega)] at h3
  have := Nat.two_pow_pos (7 - q % 8)
  omega

theorem pow_split {a b c : Nat} (h : a + b = c) : 2 ^ a * 2 ^ b = 2 ^ c := by rw [← Nat.pow_add, h]
theorem turn24 (bs : List Nat) (q : Nat) (h : q < 8 * bs.length) (ho : Oct bs) : sum24 (turned bs q) = sum24 bs ^^^ it st24 (8 * bs.length - q) (2 ^ 23) := by
  have hj : q / 8 < bs.length := by omega
  have hm : q % 8 < 8 := by omega
  unfold sum24
  rw [turned_eq bs q hj, reg_set reg24 ent24 bs (q / 8) _ _ hj (by decide) (bit_lt q) ho, bit_pow _ hm]
  congr 1
  have e1 : e24 (2 ^ (7 - q % 8)) = 2 ^ (23 - q % 8) := by
    unfold e24; rw [show (65536 : Nat) = 2 ^ 16 by decide]; exact pow_split (by omega)
  have e2 : it st24 (q % 8) (2 ^ (23 - q % 8)) = 2 ^ 23 := by
    have e3 : 2 ^ (23 - q % 8) * 2 ^ (q % 8) = 2 ^ 23 := pow_split (by omega)
    rw [st24_free _ _ (by rw [e3]; decide), e3]
  rw [e1, ← e2, ← it_add]
  congr 1; omega
theorem burst24 (L k i : Nat) (hi : i ≤ 23) (h : k + i ≤ L) : it st24 (L - (k + i)) (2 ^ 23) = it st24 (L - k) (2 ^ (23 - i)) := by
  have e3 : 2 ^ (23 - i) * 2 ^ i = 2 ^ 23 := pow_split (by omega)
  have e2 : it st24 i (2 ^ (23 - i)) = 2 ^ 23 := by rw [st24_free _ _ (by rw [e3]; decide), e3]
  rw [← e2, ← it_add]
  congr 1; omega
theorem turn32 (bs : List Nat) (q k : Nat) (hk : k ≤ q / 8) (h : q < 8 * bs.length) (ho : Oct bs) :
    reg st32 e32 4294967295 (turned bs q) = reg st32 e32 4294967295 bs ^^^ it st32 (8 * (bs.length - k)) (2 ^ (8 * (q / 8 - k) + (7 - q % 8))) := by
  have hj : q / 8 < bs.length := by omega
  have hm : q % 8 < 8 := by omega
  rw [turned_eq bs q hj, reg_set reg32 ent32 bs (q / 8) _ _ hj (by decide) (bit_lt q) ho, bit_pow _ hm]
  congr 1
  have e2 : it st32 (8 * (q / 8 - k)) (2 ^ (8 * (q / 8 - k) + (7 - q % 8))) = 2 ^ (7 - q % 8) := by
    rw [← pow_split (show 7 - q % 8 + 8 * (q / 8 - k) = 8 * (q / 8 - k) + (7 - q % 8) by omega)]
    exact st32_free _ _
  show it st32 _ (2 ^ (7 - q % 8)) = _
  rw [show 8 * (bs.length - k) = 8 * (q / 8 - k) + 8 * (bs.length - q / 8) by omega, it_add st32 (8 * (q / 8 - k)), e2]

/-- Where bit k of a burst from 'from' on stands in the register of 32. -/
def p32 (o k : Nat) : Nat := 8 * ((o + k) / 8 - o / 8) + (7 - (o + k) % 8)
theorem p32_lt (o k : Nat) (h : k < 24) : p32 o k < 32 := by unfold p32; omega
theorem p32_inj (o i k : Nat) (h : p32 o i = p32 o k) : i = k := by unfold p32 at h; omega

/-- What is known of two sealed texts of which some of i bits from o on were turned. -/
def Burst (L o : Nat) (s t : List Nat) (i : Nat) (met : Bool) : Prop :=
  s.length = L ∧ t.length = L + 1 ∧ Oct s ∧ Oct t ∧
  ∃ P Q, P < 16777216 ∧ Q < 4294967296 ∧ sum24 s = it st24 (8 * L - o) P ∧ reg st32 e32 4294967295 t = k32 ^^^ it st32 (8 * (L + 1 - o / 8)) Q ∧
    (∀ k, i ≤ k → k < 24 → P.testBit (23 - k) = false) ∧ (∀ k, i ≤ k → k < 24 → Q.testBit (p32 o k) = false) ∧ met = decide (P ≠ 0) ∧ met = decide (Q ≠ 0)
theorem Burst.start {L o : Nat} {s t : List Nat} (hs : s.length = L) (ht : t.length = L + 1) (os : Oct s) (ot : Oct t) (h1 : sum24 s = 0) (h2 : reg st32 e32 4294967295 t = k32) : Burst L o s t 0 false :=
  ⟨hs, ht, os, ot, 0, 0, by decide, by decide, by rw [h1, (reg24.it _).zero], by rw [h2, (reg32.it _).zero, Nat.xor_zero], fun k _ _ => Nat.zero_testBit _, fun k _ _ => Nat.zero_testBit _, rfl, rfl⟩
theorem Burst.skip {L o : Nat} {s t : List Nat} {i : Nat} {met : Bool} (h : Burst L o s t i met) : Burst L o s t (i + 1) met := by
  obtain ⟨h1, h2, h3, h4, P, Q, h5, h6, h7, h8, h9, h10, h11⟩ := h
  exact ⟨h1, h2, h3, h4, P, Q, h5, h6, h7, h8, fun k hk => h9 k (by omega), fun k hk => h10 k (by omega), h11⟩
theorem bit_new {P k : Nat} (h : P.testBit k = false) : P ^^^ 2 ^ k ≠ 0 := by
  intro e
  have := congrArg (fun x => x.testBit k) e
  simp only [Nat.testBit_xor, Nat.testBit_two_pow, h, Nat.zero_testBit] at this
  simp at this
theorem Burst.turn {L o : Nat} {s t : List Nat} {i : Nat} {met : Bool} (h : Burst L o s t i met) (hi : i < 24) (hp : o + i < 8 * L) : Burst L o (turned s (o + i)) (turned t (o + i)) (i + 1) true := by
  obtain ⟨h1, h2, h3, h4, P, Q, h5, h6, h7, h8, h9, h10, _, _⟩ := h
  have hP : 2 ^ (23 - i) < 2 ^ 24 := Nat.pow_lt_pow_right (by decide) (by omega)
  have hQ : 2 ^ p32 o i < 2 ^ 32 := Nat.pow_lt_pow_right (by decide) (p32_lt o i hi)
  refine ⟨by rw [turned_len, h1], by rw [turned_len, h2], turned_oct h3 _, turned_oct h4 _, P ^^^ 2 ^ (23 - i), Q ^^^ 2 ^ p32 o i, Nat.xor_lt_two_pow (n := 24) h5 hP, Nat.xor_lt_two_pow (n := 32) h6 hQ, ?_, ?_, ?_, ?_, ?_, ?_⟩
  · rw [turn24 s _ (by omega) h3, h7, h1, burst24 (8 * L) o i (by omega) (by omega), (reg24.it _).xor _ _ h5 hP]
  · rw [turn32 t (o + i) (o / 8) (by omega) (by omega) h4, h8, h2, (reg32.it _).xor _ _ h6 hQ, Nat.xor_assoc]; rfl
  · intro k hk hk2
    rw [Nat.testBit_xor, h9 k (by omega) hk2, Nat.testBit_two_pow, decide_eq_false (by omega)]; rfl
  · intro k hk hk2
    rw [Nat.testBit_xor, h10 k (by omega) hk2, Nat.testBit_two_pow, decide_eq_false (fun e => by have := p32_inj o i k e; omega)]; rfl
  · exact (decide_eq_true (bit_new (h9 i (Nat.le_refl _) hi))).symm
  · exact (decide_eq_true (bit_new (h10 i (Nat.le_refl _) hi))).symm
theorem Burst.done {L o : Nat} {s t : List Nat} {i : Nat} {met : Bool} (h : Burst L o s t i met) : (sum24 s = 0 ↔ met = false) ∧ (reg st32 e32 4294967295 t = k32 ↔ met = false) := by
  obtain ⟨h1, h2, h3, h4, P, Q, h5, h6, h7, h8, h9, h10, h11, h12⟩ := h
  constructor
  · rw [h7, h11, decide_eq_false_iff_not, Decidable.not_not]
    constructor
    · exact (reg24.it _).inj _ h5
    · intro e; rw [e, (reg24.it _).zero]
  · rw [h8, h12, decide_eq_false_iff_not, Decidable.not_not]
    constructor
    · intro e
      refine (reg32.it (8 * (L + 1 - o / 8))).inj _ h6 ?_
      have := congrArg (fun x => k32 ^^^ x) e
      simp only [xor_cancel, Nat.xor_self] at this
      exact this
    · intro e; rw [e, (reg32.it _).zero, Nat.xor_zero]
end Go.Proofs.Ytldegdhpblkhhaa
