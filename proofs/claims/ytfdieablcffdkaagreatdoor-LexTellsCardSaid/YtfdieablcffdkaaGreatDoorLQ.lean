/-
  Plain words: where the tokens of a cut text stand, and that their places tell it. No model's run; no condition.
-/
import Derived.Test.YtfdieablcffdkaaGreatDoorLG
import Derived.Test.YtfdieablcffdkaaGreatDoorLL
namespace Go.Proofs.YtfdieablcffdkaaGreatDoor
open Go

def ltP (p q : Pl) : Prop := p.line < q.line ∨ (p.line = q.line ∧ p.col < q.col)
theorem ltP_trans {p q r : Pl} (h1 : ltP p q) (h2 : ltP q r) : ltP p r := by unfold ltP at *; omega
theorem ltP_ne {p q : Pl} (h : ltP p q) : p ≠ q := by rintro rfl; unfold ltP at h; omega
theorem ltP_behind (p : Pl) (r : Nat) : ltP p (behindP p r) := by
  unfold behindP ltP
  split
  · exact .inl (Nat.lt_succ_self _)
  · exact .inr ⟨rfl, Nat.lt_succ_self _⟩

/-- a place, and the byte at which it is reached -/
def AtP (l : List UInt8) (pos : Nat) (here : Pl) : Prop := (∀ a, plAt l firstP (pos + a) = plAt (l.drop pos) here a) ∧ ∀ b, b < pos → ltP (plAt l firstP b) here
theorem AtP.zero (l : List UInt8) : AtP l 0 firstP := ⟨fun a => by rw [Nat.zero_add]; rfl, fun b hb => absurd hb (by omega)⟩
theorem AtP.step {l : List UInt8} {pos : Nat} {here : Pl} (h : AtP l pos here) {c : UInt8} {r : List UInt8} (hd : l.drop pos = c :: r) : AtP l (pos + (dec (c :: r)).2) (behindP here (dec (c :: r)).1) := by
  have hpl := fun b => plAt_step l pos c r hd here b
  refine ⟨fun a => ?_, fun b hb => ?_⟩
  · rw [Nat.add_assoc, h.1, hpl, if_neg (by omega), Nat.add_sub_cancel_left]
  · by_cases hb2 : b < pos
    · exact ltP_trans (h.2 b hb2) (ltP_behind _ _)
    · obtain ⟨a, rfl⟩ : ∃ a, b = pos + a := ⟨b - pos, by omega⟩
      rw [h.1, hpl, if_pos (by omega)]
      exact ltP_behind _ _
theorem AtP.here {l : List UInt8} {pos : Nat} {here : Pl} (h : AtP l pos here) {c : UInt8} {r : List UInt8} (hd : l.drop pos = c :: r) : plAt l firstP pos = here := by
  have h0 := h.1 0
  rw [Nat.add_zero] at h0
  rw [h0, hd, plAt, if_pos (Nat.lt_of_lt_of_le Nat.zero_lt_one (dec_pos _))]
theorem AtP.run {l : List UInt8} : ∀ (m pos : Nat) (here : Pl), AtP l pos here → m ≤ (l.drop pos).length → (∀ c ∈ (l.drop pos).take m, c.toNat < 128 ∧ c.toNat ≠ 10) → AtP l (pos + m) ⟨here.line, here.col + m⟩
  | 0, pos, here, h, _, _ => h
  | m + 1, pos, here, h, hl, ha => by
    match hd : l.drop pos with
    | [] => rw [hd] at hl; simp at hl
    | c :: r =>
      rw [hd] at hl ha
      have hc := ha c (by simp)
      have h2 := h.step hd
      rw [dec_ascii c r hc.1, show behindP here c.toNat = ⟨here.line, here.col + 1⟩ from if_neg hc.2] at h2
      have hd2 : l.drop (pos + 1) = r := by rw [← List.drop_drop, hd]; rfl
      have h3 := AtP.run m (pos + 1) _ h2 (by rw [hd2]; simpa using hl) (by rw [hd2]; intro d hdm; exact ha d (by rw [List.take_succ_cons]; exact List.mem_cons_of_mem _ hdm))
      rw [show pos + 1 + m = pos + (m + 1) by omega, show here.col + 1 + m = here.col + (m + 1) by omega] at h3
      exact h3

/-- each token stands at its place's byte, and no byte before has that place -/
def Seat (l : List UInt8) : Nat → List (Tk × Pl) → Prop
  | _, [] => True
  | pos, tp :: rest => ∃ o, pos ≤ o ∧ o + tp.1.s.length ≤ l.length ∧ tp.1.s ≠ [] ∧ (l.drop o).take tp.1.s.length = tp.1.s ∧ plAt l firstP o = tp.2 ∧ (∀ b, b < o → plAt l firstP b ≠ tp.2) ∧ Seat l (o + tp.1.s.length) rest
theorem Seat.le {l : List UInt8} {pos pos2 : Nat} {L : List (Tk × Pl)} (h : Seat l pos L) (hle : pos2 ≤ pos) : Seat l pos2 L := by
  cases L with
  | nil => exact True.intro
  | cons tp L =>
    obtain ⟨o, h1, h2⟩ := h
    exact ⟨o, by omega, h2⟩
theorem seat_cut {l : List UInt8} : ∀ (n pos : Nat) (here : Pl) (rem : Bool) (L : List (Tk × Pl)), (l.drop pos).length ≤ n → AtP l pos here → cutL (l.drop pos) rem here = (L, none) → Seat l pos L := by
  intro n
  induction n with
  | zero =>
    intro pos here rem L hn ha h
    have : l.drop pos = [] := List.eq_nil_of_length_eq_zero (by omega)
    rw [this, cutL] at h
    cases h
    exact True.intro
  | succ n ih =>
    intro pos here rem L hn ha h
    match hd : l.drop pos with
    | [] =>
      rw [hd, cutL] at h
      cases h
      exact True.intro
    | c :: r =>
      have hpos := dec_pos (c :: r)
      have hlen : (l.drop pos).length = r.length + 1 := by rw [hd]; rfl
      have hdr : ∀ k, 1 ≤ k → r.drop (k - 1) = l.drop (pos + k) := fun k hk => by rw [tail_drop c r k hk, ← hd, List.drop_drop]
      have hln : ∀ k, 1 ≤ k → (l.drop (pos + k)).length ≤ n := fun k hk => by
        rw [List.length_drop] at hn ⊢
        omega
      have hs := ha.step hd
      rw [hd, cutL] at h
      split at h
      · cases h
      split at h
      · rename_i h10
        rw [hdr _ hpos] at h
        rw [h10] at hs
        exact (ih _ _ _ _ (hln _ hpos) hs h).le (by omega)
      split at h
      · rw [hdr _ hpos] at h
        exact (ih _ _ _ _ (hln _ hpos) hs h).le (by omega)
      split at h
      · rw [hdr _ hpos] at h
        exact (ih _ _ _ _ (hln _ hpos) hs h).le (by omega)
      split at h
      · cases h
      · rename_i t ht
        obtain ⟨h1, h2, h3⟩ := tok_ascii _ _ ht
        have hp := piece_take (c :: r)
        have hpl := piece_len (c :: r)
        have hp1 := hpl.2 (by simp)
        rw [hdr _ hp1] at h
        obtain ⟨hL, hnone⟩ := Prod.mk.inj h
        subst hL
        rw [← hd] at hp hpl ht h1 h2 h3 hp1 hnone ⊢
        refine ⟨pos, Nat.le_refl _, ?_, by rw [h1]; exact h2, by rw [h1]; exact hp.symm, ha.here hd, fun b hb => ltP_ne (ha.2 b hb), ?_⟩
        · show pos + t.s.length ≤ _
          rw [h1]
          have h4 := hpl.1
          rw [List.length_drop] at h4 hlen
          omega
        · show Seat l (pos + t.s.length) _
          rw [h1]
          refine ih _ ⟨here.line, here.col + (pieceF (l.drop pos)).length⟩ false _ (hln _ hp1) (AtP.run _ _ _ ha hpl.1 (by rw [← hp]; exact h3)) ?_
          exact Prod.ext rfl hnone
/-- the same of a whole text -/
theorem seats_of {l : List UInt8} {L : List (Tk × Pl)} (h : cutL l false firstP = (L, none)) : Seat l 0 L := seat_cut l.length 0 firstP false L (by simp) (AtP.zero l) h
end Go.Proofs.YtfdieablcffdkaaGreatDoor
