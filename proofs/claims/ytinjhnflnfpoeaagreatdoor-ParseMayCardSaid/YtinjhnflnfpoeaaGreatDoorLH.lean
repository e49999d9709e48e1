/-
  Plain words of lex.Cut's loop: where it has come to (CI), and what each of its ways does to it. No model's run; no condition.
-/
import Derived.Test.YtinjhnflnfpoeaaGreatDoorLF
namespace Go.Proofs.YtinjhnflnfpoeaaGreatDoor
open Go

/-- So far cut: at byte pos, the last token's end, in a remark or not, here, what was found. -/
def CI (l : List UInt8) (pos en : Nat) (rem : Bool) (here : Pl) (acc : List (Tk × Pl)) : Prop :=
  en ≤ l.length ∧ (∀ j c, pos ≤ j → j < en → l[j]? = some c → c.toNat < 128 ∧ c.toNat ≠ 10) ∧ (pos < en → rem = false) ∧ here.line ≤ pos + 1 ∧ here.col ≤ pos + 1 ∧
  acc ++ (cutL (l.drop (max pos en)) rem ⟨here.line, here.col + (en - pos)⟩).1 = (cutL l false firstP).1 ∧ (cutL (l.drop (max pos en)) rem ⟨here.line, here.col + (en - pos)⟩).2 = (cutL l false firstP).2

theorem ci_start (l : List UInt8) : CI l 0 0 false firstP [] := ⟨Nat.zero_le _, fun j c _ h => by omega, fun h => absurd h (Nat.lt_irrefl _), by decide, by decide, rfl, rfl⟩

theorem behind_bound (p : Pl) (x pos n : Nat) (h1 : p.line ≤ pos + 1) (h2 : p.col ≤ pos + 1) (hn : 1 ≤ n) : (behindP p x).line ≤ pos + n + 1 ∧ (behindP p x).col ≤ pos + n + 1 := by
  unfold behindP
  split <;> simp <;> omega

section
variable {l : List UInt8} {pos en : Nat} {rem : Bool} {here : Pl} {acc : List (Tk × Pl)} {c : UInt8} {r : List UInt8}
theorem at_pos (hd : l.drop pos = c :: r) : l[pos]? = some c := by
  have := List.getElem?_drop (xs := l) (i := pos) (j := 0)
  rw [hd] at this
  simpa using this.symm
/-- A rune of the last token. -/
theorem ci_skip (h : CI l pos en rem here acc) (hd : l.drop pos = c :: r) (hlt : pos < en) : (dec (c :: r)).2 = 1 ∧ CI l (pos + 1) en rem (behindP here (dec (c :: r)).1) acc := by
  obtain ⟨h1, h2, h3, h4, h5, h6, h7⟩ := h
  have hc := h2 pos c (Nat.le_refl _) hlt (at_pos hd)
  rw [dec_ascii c r hc.1]
  have e : behindP here c.toNat = ⟨here.line, here.col + 1⟩ := by unfold behindP; rw [if_neg hc.2]
  refine ⟨rfl, h1, fun j d hj hj2 hjd => h2 j d (by omega) hj2 hjd, fun _ => h3 hlt, ?_⟩
  show (behindP here c.toNat).line ≤ _ ∧ (behindP here c.toNat).col ≤ _ ∧ _
  rw [e]
  have e1 : max (pos + 1) en = max pos en := by omega
  have e2 : here.col + 1 + (en - (pos + 1)) = here.col + (en - pos) := by omega
  rw [e1, e2]
  exact ⟨by show here.line ≤ _; omega, by show here.col + 1 ≤ _; omega, h6, h7⟩
theorem ci_here (h : CI l pos en rem here acc) (hge : en ≤ pos) (hd : l.drop pos = c :: r) : acc ++ (cutL (c :: r) rem here).1 = (cutL l false firstP).1 ∧ (cutL (c :: r) rem here).2 = (cutL l false firstP).2 := by
  obtain ⟨h1, h2, h3, h4, h5, h6, h7⟩ := h
  have e1 : max pos en = pos := by omega
  have e2 : here.col + (en - pos) = here.col := by omega
  rw [e1, e2, hd] at h6 h7
  exact ⟨h6, h7⟩
theorem ci_broken (h : CI l pos en rem here acc) (hge : en ≤ pos) (hd : l.drop pos = c :: r) (hb : brok (c :: r) = true) : (cutL l false firstP).2 = some (here, 4) := by
  have := (ci_here h hge hd).2
  rw [cutL, if_pos hb] at this
  exact this.symm
/-- On to the next rune. -/
theorem ci_next (h : CI l pos en rem here acc) (hge : en ≤ pos) (hd : l.drop pos = c :: r) (rem2 : Bool) (he : cutL (c :: r) rem here = cutL (r.drop ((dec (c :: r)).2 - 1)) rem2 (behindP here (dec (c :: r)).1)) :
    CI l (pos + (dec (c :: r)).2) en rem2 (behindP here (dec (c :: r)).1) acc := by
  have hh := ci_here h hge hd
  obtain ⟨h1, h2, h3, h4, h5, h6, h7⟩ := h
  have hp := dec_pos (c :: r)
  have hb := behind_bound here (dec (c :: r)).1 pos (dec (c :: r)).2 h4 h5 hp
  rw [he, tail_drop c r _ hp, ← hd, List.drop_drop, hd] at hh
  generalize (dec (c :: r)).2 = n at *
  generalize behindP here (dec (c :: r)).1 = b at *
  refine ⟨h1, fun j d hj hj2 => by omega, fun hx => by omega, hb.1, hb.2, ?_⟩
  have e1 : max (pos + n) en = pos + n := by omega
  have e2 : b.col + (en - (pos + n)) = b.col := by omega
  rw [e1, e2]
  exact hh
theorem cut_line (hb : brok (c :: r) = false) (h10 : (dec (c :: r)).1 = 10) : cutL (c :: r) rem here = cutL (r.drop ((dec (c :: r)).2 - 1)) false (behindP here (dec (c :: r)).1) := by
  rw [cutL, if_neg (by rw [hb]; decide), if_pos h10, h10]
theorem cut_pass (hb : brok (c :: r) = false) (h10 : (dec (c :: r)).1 ≠ 10) (hs : rem = true ∨ (dec (c :: r)).1 = 32 ∨ (dec (c :: r)).1 = 9) : cutL (c :: r) rem here = cutL (r.drop ((dec (c :: r)).2 - 1)) rem (behindP here (dec (c :: r)).1) := by
  rw [cutL, if_neg (by rw [hb]; decide), if_neg h10, if_pos hs]
theorem cut_remark (hb : brok (c :: r) = false) (h10 : (dec (c :: r)).1 ≠ 10) (hs : ¬ (rem = true ∨ (dec (c :: r)).1 = 32 ∨ (dec (c :: r)).1 = 9)) (h35 : (dec (c :: r)).1 = 35) : cutL (c :: r) rem here = cutL (r.drop ((dec (c :: r)).2 - 1)) true (behindP here (dec (c :: r)).1) := by
  rw [cutL, if_neg (by rw [hb]; decide), if_neg h10, if_neg hs, if_pos h35]
theorem cut_bad {e : Nat} (hb : brok (c :: r) = false) (h10 : (dec (c :: r)).1 ≠ 10) (hs : ¬ (rem = true ∨ (dec (c :: r)).1 = 32 ∨ (dec (c :: r)).1 = 9)) (h35 : (dec (c :: r)).1 ≠ 35) (ht : tokF (pieceF (c :: r)) = .error e) : cutL (c :: r) rem here = ([], some (here, e)) := by
  rw [cutL, if_neg (by rw [hb]; decide), if_neg h10, if_neg hs, if_neg h35, ht]
theorem cut_tok {t : Tk} (hb : brok (c :: r) = false) (h10 : (dec (c :: r)).1 ≠ 10) (hs : ¬ (rem = true ∨ (dec (c :: r)).1 = 32 ∨ (dec (c :: r)).1 = 9)) (h35 : (dec (c :: r)).1 ≠ 35) (ht : tokF (pieceF (c :: r)) = .ok t) :
    (cutL (c :: r) rem here).1 = (t, here) :: (cutL ((c :: r).drop (pieceF (c :: r)).length) false ⟨here.line, here.col + (pieceF (c :: r)).length⟩).1 ∧ (cutL (c :: r) rem here).2 = (cutL ((c :: r).drop (pieceF (c :: r)).length) false ⟨here.line, here.col + (pieceF (c :: r)).length⟩).2 := by
  have hp := (piece_len (c :: r)).2 (by simp)
  rw [cutL, if_neg (by rw [hb]; decide), if_neg h10, if_neg hs, if_neg h35, ht]
  simp only
  rw [tail_drop c r _ hp]
  exact ⟨rfl, rfl⟩
theorem ci_bad {e : Nat} (h : CI l pos en rem here acc) (hge : en ≤ pos) (hd : l.drop pos = c :: r) (he : cutL (c :: r) rem here = ([], some (here, e))) : (cutL l false firstP).2 = some (here, e) := by
  have := (ci_here h hge hd).2
  rw [he] at this
  exact this.symm
/-- A token. -/
theorem ci_tok {t : Tk} (h : CI l pos en rem here acc) (hge : en ≤ pos) (hd : l.drop pos = c :: r) (hb : brok (c :: r) = false) (h10 : (dec (c :: r)).1 ≠ 10) (hs : ¬ (rem = true ∨ (dec (c :: r)).1 = 32 ∨ (dec (c :: r)).1 = 9)) (h35 : (dec (c :: r)).1 ≠ 35) (ht : tokF (pieceF (c :: r)) = .ok t) :
    (dec (c :: r)).2 = 1 ∧ 1 ≤ t.s.length ∧ pos + t.s.length ≤ l.length ∧ CI l (pos + 1) (pos + t.s.length) rem (behindP here (dec (c :: r)).1) (acc ++ [(t, here)]) := by
  have hh := ci_here h hge hd
  have hcut := cut_tok (here := here) hb h10 hs h35 ht
  obtain ⟨ts, tne, tasc⟩ := tok_ascii _ _ ht
  have hpl := piece_len (c :: r)
  have hpt := piece_take (c :: r)
  have hp1 := hpl.2 (by simp)
  have hlen : l.length = pos + (c :: r).length := by
    have := congrArg List.length hd
    rw [List.length_drop] at this
    have : pos < l.length := by
      rcases Nat.lt_or_ge pos l.length with h | h
      · exact h
      · rw [List.drop_of_length_le h] at hd; cases hd
    omega
  have hc : c.toNat < 128 ∧ c.toNat ≠ 10 := tasc c (by
    rw [hpt]
    obtain ⟨k, hk⟩ : ∃ k, (pieceF (c :: r)).length = k + 1 := ⟨(pieceF (c :: r)).length - 1, by omega⟩
    rw [hk, List.take_succ_cons]
    exact List.mem_cons_self ..)
  have hrem : rem = false := by
    cases rem with
    | false => rfl
    | true => exact absurd (.inl rfl) hs
  obtain ⟨h1, h2, h3, h4, h5, h6, h7⟩ := h
  rw [ts]
  rw [hcut.1, hcut.2, ← hd, List.drop_drop, hd] at hh
  rw [dec_ascii c r hc.1]
  have e : behindP here c.toNat = ⟨here.line, here.col + 1⟩ := by unfold behindP; rw [if_neg hc.2]
  refine ⟨rfl, hp1, by omega, by omega, ?_, fun _ => hrem, ?_⟩
  · intro j d hj hj2 hjd
    refine tasc d ?_
    rw [hpt]
    have hj' : (c :: r)[j - pos]? = some d := by
      rw [← hd, List.getElem?_drop, show pos + (j - pos) = j by omega]; exact hjd
    refine List.mem_of_getElem? (i := j - pos) ?_
    rw [List.getElem?_take, if_pos (by omega)]
    exact hj'
  · show (behindP here c.toNat).line ≤ _ ∧ (behindP here c.toNat).col ≤ _ ∧ _
    rw [e]
    generalize (pieceF (c :: r)).length = m at *
    have e1 : max (pos + 1) (pos + m) = pos + m := by omega
    have e2 : here.col + 1 + (pos + m - (pos + 1)) = here.col + m := by omega
    rw [e1, e2, hrem, List.append_assoc]
    exact ⟨by show here.line ≤ _; omega, by show here.col + 1 ≤ _; omega, hh.1, hh.2⟩
theorem ci_end (h : CI l pos en rem here acc) (hp : l.length ≤ pos) : (cutL l false firstP).1 = acc ∧ (cutL l false firstP).2 = none := by
  obtain ⟨h1, h2, h3, h4, h5, h6, h7⟩ := h
  rw [List.drop_of_length_le (by omega), cutL] at h6 h7
  rw [List.append_nil] at h6
  exact ⟨h6.symm, h7.symm⟩
end
end Go.Proofs.YtinjhnflnfpoeaaGreatDoor
