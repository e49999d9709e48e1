/-
  Plain words: the tokens' texts, joined, are cut into the tokens again. No model's run; no condition.
-/
import Derived.Test.YtfdieablcffdkaaGreatDoorLR
import Derived.Test.YtfdieablcffdkaaGreatDoorLS
namespace Go.Proofs.YtfdieablcffdkaaGreatDoor
open Go

def EndB (rest : List UInt8) : Prop := rest = [] ∨ ∃ d e, rest = d :: e ∧ ldB d = false
def CutsAs (l : List UInt8) (t : Tk) : Prop := ∀ rest p, EndB rest → cutL (l ++ rest) false p = ((t, p) :: (cutL rest false ⟨p.line, p.col + l.length⟩).1, (cutL rest false ⟨p.line, p.col + l.length⟩).2)
/-- the token that a token's text is cut into -/
def tokOf (t : Tk) : Tk := if t.kind = 2 then ⟨2, txt t, t.n, t.time⟩ else t

theorem unit_of (t : Int) : unitF (unitOf t).1 = some (unitOf t).2 := by
  unfold unitOf
  repeat' split
  all_goals decide
theorem num_cuts (n : Int) (time : Bool) (h : smallI n = true) : CutsAs (numT n time) ⟨2, numT n time, n, time⟩ := by
  have h' : -1000000000000000000 < n ∧ n < 1000000000000000000 := by simpa [smallI] using h
  intro rest p hr
  cases time with
  | false =>
    have ht := tok_itoa n [] (by omega) (.inl rfl) (by intro ps h; cases h)
    have hc := cut_num n [] rest p _ (.inl rfl) ht hr
    rw [List.append_nil] at hc
    exact hc
  | true =>
    have hu := unit_of n
    have hg := (greatest_of n).2.1
    have hm : (n.tdiv (unitOf n).2).natAbs ≤ n.natAbs := by rw [Int.natAbs_tdiv]; exact Nat.div_le_self _ _
    have ht := tok_itoa (n.tdiv (unitOf n).2) (unitOf n).1 (by omega) (.inr (by rw [hu]; simp)) (by
      intro ps hp
      rw [hu] at hp
      cases hp
      rw [hg]; exact h')
    rw [hu] at ht
    simp only [hg] at ht
    exact cut_num (n.tdiv (unitOf n).2) (unitOf n).1 rest p _ (.inr (by rw [hu]; simp)) ht hr
theorem let_plain {c : UInt8} (h : letB c = true) : plainB c = true ∧ sgB c = false := by
  simp only [letB, Bool.and_eq_true, decide_eq_true_eq] at h
  have hx : ∀ d : UInt8, d.toNat < 97 ∨ 122 < d.toNat → (c == d) = false := fun d hd => beq_eq_false_iff_ne.2 (by rintro rfl; omega)
  refine ⟨?_, ?_⟩
  · unfold plainB
    rw [decide_eq_true (by omega : c.toNat < 128), hx 10 (by decide), hx 32 (by decide), hx 9 (by decide), hx 35 (by decide)]; rfl
  · unfold sgB
    rw [hx 59 (by decide), hx 123 (by decide), hx 125 (by decide)]; rfl
theorem word_cuts (s : List UInt8) (h : wordB s = true) : CutsAs s ⟨1, s, 0, false⟩ := by
  match s, h with
  | c :: r, h =>
    have h' := h
    simp only [wordB, Bool.and_eq_true, decide_eq_true_eq] at h'
    have hp := let_plain h'.1.1
    have h128 : c.toNat < 128 := by have := hp.1; simp only [plainB, Bool.and_eq_true, decide_eq_true_eq] at this; exact this.1
    have ht : tokF (c :: r) = .ok ⟨1, c :: r, 0, false⟩ := by
      unfold tokF
      simp only
      rw [if_neg (by rintro ⟨_, h⟩; rw [hp.2] at h; cases h), if_pos h]
    intro rest p hr
    exact cut_one c r rest p _ hp.1 (piece_of c r rest h128 hp.2 h'.1.2 hr) ht
theorem sign_cuts (s : List UInt8) (h : signL s = true) : CutsAs s ⟨3, s, 0, false⟩ := by
  obtain ⟨c, rfl, hc⟩ : ∃ c, s = [c] ∧ sgB c = true := by
    match s, h with
    | [c], h => exact ⟨c, rfl, h⟩
  have hp : plainB c = true := by
    have h3 := hc
    simp only [sgB, Bool.or_eq_true, beq_iff_eq] at h3
    rcases h3 with (rfl | rfl) | rfl <;> decide
  have ht : tokF [c] = .ok ⟨3, [c], 0, false⟩ := by
    unfold tokF
    simp only
    rw [if_pos ⟨trivial, hc⟩]
  intro rest p hr
  exact cut_one c [] rest p _ hp (piece_sg c rest hc) ht
theorem tok_cuts (t : Tk) (l : List UInt8) (h : textF t = some l) : CutsAs l (tokOf t) ∧ textF (tokOf t) = some l ∧ bareT (tokOf t) = bareT t ∧ (tokOf t).s.length ≤ t.s.length + 22 := by
  have hx : txt t = l := by unfold txt; rw [h]; rfl
  have hlen := txt_len t
  obtain ⟨k, s, n, tm⟩ := t
  unfold tokOf
  rw [hx]
  rw [hx] at hlen
  unfold textF at h
  simp only at h hlen ⊢
  by_cases h2 : k = 2
  · subst h2
    rw [if_pos rfl]
    split at h
    · rename_i hs
      cases h
      refine ⟨num_cuts n tm hs.2, ?_, ?_, hlen⟩
      · unfold textF; rw [if_pos ⟨rfl, hs.2⟩]
      · rfl
    · split at h
      · cases h
      · split at h
        · rename_i hk; exact absurd hk.1 (by decide)
        · split at h
          · rename_i hk; exact absurd hk.1 (by decide)
          · cases h
  · rw [if_neg h2]
    rw [if_neg (fun hk => h2 hk.1)] at h
    split at h
    · cases h
    · rename_i hnt
      obtain ⟨rfl, rfl⟩ : n = 0 ∧ tm = false := by
        refine ⟨Classical.byContradiction fun hn => hnt (.inl hn), ?_⟩
        cases tm
        · rfl
        · exact absurd (.inr rfl) hnt
      split at h
      · rename_i hk
        cases h
        obtain ⟨rfl, hw⟩ := hk
        refine ⟨word_cuts _ hw, ?_, rfl, by simp⟩
        unfold textF; rw [if_neg (fun h => h2 h.1), if_neg (by simp), if_pos ⟨rfl, hw⟩]
      · split at h
        · rename_i hk
          cases h
          obtain ⟨rfl, hw⟩ := hk
          refine ⟨sign_cuts _ hw, ?_, rfl, by simp⟩
          unfold textF; rw [if_neg (fun h => h2 h.1), if_neg (by simp), if_neg (fun h => by have : (3 : Int) = 1 := h.1; omega), if_pos ⟨rfl, hw⟩]
        · cases h

theorem tail_end (r : List (List UInt8)) : EndB (Lib.joinTail [32] r) := by
  cases r with
  | nil => exact .inl rfl
  | cons x r => exact .inr ⟨32, x ++ Lib.joinTail [32] r, by simp [Lib.joinTail], by decide⟩
theorem tail_cut : ∀ (ts : List Tk) (p : Pl), allT ts = true → ∃ L, cutL (Lib.joinTail [32] (ts.map txt)) false p = (L, none) ∧ L.map (·.1) = ts.map tokOf
  | [], p, _ => ⟨[], by simp [Lib.joinTail, cutL], rfl⟩
  | t :: ts, p, h => by
    unfold allT at h
    rw [List.all_cons, Bool.and_eq_true] at h
    obtain ⟨l, hl⟩ := Option.isSome_iff_exists.1 h.1
    have hx : txt t = l := by unfold txt; rw [hl]; rfl
    obtain ⟨L, h1, h2⟩ := tail_cut ts ⟨p.line, p.col + 1 + l.length⟩ h.2
    have e : Lib.joinTail [32] ((t :: ts).map txt) = 32 :: (l ++ Lib.joinTail [32] (ts.map txt)) := by simp [Lib.joinTail, hx]
    rw [e, cut_space, (tok_cuts t l hl).1 _ _ (tail_end _)]
    simp only [h1]
    exact ⟨_, rfl, by rw [List.map_cons, h2]; rfl⟩
theorem join_cut (ts : List Tk) (h : allT ts = true) : ∃ L, cutL (joinT ts) false firstP = (L, none) ∧ L.map (·.1) = ts.map tokOf := by
  cases ts with
  | nil => exact ⟨[], by simp [joinT, Lib.join, List.intercalate, cutL], rfl⟩
  | cons t ts =>
    unfold allT at h
    rw [List.all_cons, Bool.and_eq_true] at h
    obtain ⟨l, hl⟩ := Option.isSome_iff_exists.1 h.1
    have hx : txt t = l := by unfold txt; rw [hl]; rfl
    obtain ⟨L, h1, h2⟩ := tail_cut ts ⟨1, 1 + l.length⟩ h.2
    unfold joinT
    rw [List.map_cons, Lib.join_cons, hx, (tok_cuts t l hl).1 _ _ (tail_end _)]
    show ∃ L, ((_, _) :: (cutL _ false ⟨1, 1 + l.length⟩).1, (cutL _ false ⟨1, 1 + l.length⟩).2) = (L, none) ∧ _
    simp only [h1]
    exact ⟨_, rfl, by rw [List.map_cons, h2]; rfl⟩
theorem all_some {ts : List Tk} (h : allT ts = true) : ∀ t ∈ ts, ∃ l, textF t = some l := fun t ht => Option.isSome_iff_exists.1 (List.all_eq_true.1 h t ht)
theorem bare_back {ts : List Tk} (h : allT ts = true) : (ts.map tokOf).map bareT = ts.map bareT := by
  rw [List.map_map]
  refine List.map_congr_left fun t ht => ?_
  obtain ⟨l, hl⟩ := all_some h t ht
  exact (tok_cuts t l hl).2.2.1
theorem all_back {ts : List Tk} (h : allT ts = true) : allT (ts.map tokOf) = true := by
  unfold allT
  rw [List.all_map]
  refine List.all_eq_true.2 fun t ht => ?_
  obtain ⟨l, hl⟩ := all_some h t ht
  show (textF (tokOf t)).isSome = true
  rw [(tok_cuts t l hl).2.1]; rfl
theorem join_back {ts : List Tk} (h : allT ts = true) : joinT (ts.map tokOf) = joinT ts := by
  unfold joinT
  rw [List.map_map]
  refine congrArg (Lib.join · [32]) (List.map_congr_left fun t ht => ?_)
  obtain ⟨l, hl⟩ := all_some h t ht
  show txt (tokOf t) = txt t
  unfold txt
  rw [(tok_cuts t l hl).2.1, hl]
theorem len_back {ts : List Tk} (h : allT ts = true) (m : Nat) (hm : ∀ t ∈ ts, t.s.length ≤ m) : ∀ t ∈ ts.map tokOf, t.s.length ≤ m + 22 := by
  intro u hu
  obtain ⟨t, ht, rfl⟩ := List.mem_map.1 hu
  obtain ⟨l, hl⟩ := all_some h t ht
  have := (tok_cuts t l hl).2.2.2
  have := hm t ht
  omega
end Go.Proofs.YtfdieablcffdkaaGreatDoor
