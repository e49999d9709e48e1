/-
  Plain words for ParseMay's loop: where it stands among the words and numbers; a forest's statement at its place in memory. No condition but what each head says.
-/
import Derived.Test.YtinjhnflnfpoeaaGreatDoorQK
import Derived.Test.YtinjhnflnfpoeaaGreatDoorRE
namespace Go.Proofs.YtinjhnflnfpoeaaGreatDoor
open Go Go.RowKit Go.Joins

abbrev Prs := List (List UInt8 × List (Int × Bool))
theorem sigL_inl {L : Prs} {s : List UInt8} {rem : Sig} (h : sigL L = .inl s :: rem) : ∃ p, L[0]? = some p ∧ p.1 = s ∧ rem = p.2.map .inr ++ sigL (L.drop 1) := by
  cases L with
  | nil => cases h
  | cons p L => rw [sigL_cons, List.cons.injEq] at h; exact ⟨p, rfl, by simpa using h.1, h.2.symm⟩
theorem sigL_inr {L : Prs} {x : Int × Bool} {rem : Sig} (h : sigL L = .inr x :: rem) : False := by
  cases L with
  | nil => cases h
  | cons p L => rw [sigL_cons] at h; cases h
theorem sigL_nil {L : Prs} (h : sigL L = []) : L = [] := by
  cases L with
  | nil => rfl
  | cons p L => rw [sigL_cons] at h; cases h
/-- Where it stands: at statement a (none yet: -1), behind n of its numbers; rem is still to come. -/
def MayS (L : Prs) (rem : Sig) (a : Int) (n : Nat) : Prop :=
  (a = -1 ∧ n = 0 ∧ rem = sigL L) ∨ ∃ (q : Nat) (p : List UInt8 × List (Int × Bool)), a = q ∧ L[q]? = some p ∧ n ≤ p.2.length ∧ rem = (p.2.drop n).map .inr ++ sigL (L.drop (q + 1))
theorem MayS.word {L : Prs} {s : List UInt8} {rem : Sig} {a : Int} {n : Nat} (h : MayS L (.inl s :: rem) a n) :
    (a = -1 ∧ n = 0 ∧ ∃ p, L[0]? = some p ∧ p.1 = s ∧ MayS L rem 0 0) ∨
    ∃ (q : Nat) (p p2 : List UInt8 × List (Int × Bool)), a = q ∧ L[q]? = some p ∧ n = p.2.length ∧ L[q + 1]? = some p2 ∧ p2.1 = s ∧ MayS L rem ((q + 1 : Nat) : Int) 0 := by
  rcases h with ⟨ha, hn, h⟩ | ⟨q, p, ha, hp, hn, h⟩
  · obtain ⟨p, h1, h2, h3⟩ := sigL_inl h.symm
    exact .inl ⟨ha, hn, p, h1, h2, .inr ⟨0, p, rfl, h1, Nat.zero_le _, h3⟩⟩
  · cases hd : p.2.drop n with
    | cons x r => rw [hd] at h; cases h
    | nil =>
      rw [hd] at h
      obtain ⟨p2, h1, h2, h3⟩ := sigL_inl h.symm
      rw [List.getElem?_drop, Nat.add_zero] at h1
      rw [List.drop_drop] at h3
      have hl := List.drop_eq_nil_iff.1 hd
      exact .inr ⟨q, p, p2, ha, hp, by omega, h1, h2, .inr ⟨q + 1, p2, rfl, h1, Nat.zero_le _, h3⟩⟩
theorem MayS.num {L : Prs} {x : Int × Bool} {rem : Sig} {a : Int} {n : Nat} (h : MayS L (.inr x :: rem) a n) :
    ∃ (q : Nat) (p : List UInt8 × List (Int × Bool)), a = q ∧ L[q]? = some p ∧ n < p.2.length ∧ p.2[n]? = some x ∧ MayS L rem q (n + 1) := by
  rcases h with ⟨ha, hn, h⟩ | ⟨q, p, ha, hp, hn, h⟩
  · exact (sigL_inr h.symm).elim
  · cases hd : p.2.drop n with
    | nil => rw [hd] at h; exact (sigL_inr h.symm).elim
    | cons y r =>
      rw [hd, List.map_cons, List.cons_append, List.cons.injEq] at h
      have hl : n < p.2.length := by
        rcases Nat.lt_or_ge n p.2.length with h9 | h9
        · exact h9
        · rw [List.drop_eq_nil_iff.2 h9] at hd; cases hd
      have h0 : p.2[n]? = some y := by have := congrArg (fun l => l[0]?) hd; simpa using this
      have h1 : r = p.2.drop (n + 1) := by have := congrArg List.tail hd; simpa using this.symm
      have hy : x = y := by have := h.1; cases this; rfl
      exact ⟨q, p, ha, hp, hl, by rw [h0, hy], .inr ⟨q, p, rfl, hp, hl, by rw [h.2, h1]⟩⟩
theorem MayS.done {L : Prs} {a : Int} {n : Nat} (h : MayS L [] a n) :
    (a = -1 ∧ n = 0 ∧ L.length = 0) ∨ ∃ (q : Nat) (p : List UInt8 × List (Int × Bool)), a = q ∧ L[q]? = some p ∧ n = p.2.length ∧ q + 1 = L.length := by
  rcases h with ⟨ha, hn, h⟩ | ⟨q, p, ha, hp, hn, h⟩
  · exact .inl ⟨ha, hn, by rw [sigL_nil h.symm]; rfl⟩
  · obtain ⟨h1, h2⟩ := List.append_eq_nil_iff.1 h.symm
    have h1 := List.drop_eq_nil_iff.1 (List.map_eq_nil_iff.1 h1)
    have h2 := List.drop_eq_nil_iff.1 (sigL_nil h2)
    have h3 := (List.getElem?_eq_some_iff.1 hp).1
    exact .inr ⟨q, p, ha, hp, by omega, by omega⟩
/-- A statement at its place. -/
theorem Tr.at_ {w : World} {K : Nat → Prop} {xs : List Sm} : ∀ (k j : Nat) {r : Fo} (_ : Tr w K r (xs.drop j)) {p : List UInt8 × List (Int × Bool)} (_ : r.prs[k]? = some p),
    j + k < xs.length ∧ (smS.nth xs (j + k)).word = p.1 ∧ RwP nmS w K (smS.nth xs (j + k)).nA (smS.nth xs (j + k)).nn p.2
  | k, j, r, h, p, hp => by
    by_cases hj : j < xs.length
    · obtain ⟨wd, ns, bl, y, nx, rfl, e1, e2, hns, hy, hnx⟩ := h.step hj
      cases k with
      | zero => rw [Fo.prs] at hp; cases hp; exact ⟨hj, e1, hns⟩
      | succ k =>
        rw [Fo.prs, List.getElem?_cons_succ] at hp
        have := Tr.at_ k (j + 1) hnx hp
        rwa [show j + 1 + k = j + (k + 1) by omega] at this
    · rw [h.done (by omega)] at hp; cases hp
def AnyB (e : Ending) : Prop := ∃ b, e = .returned (.bool b)
set_option maxRecDepth 100000 in
theorem few_any (s : ByteArray) (w : World) : Calls Tryz.prog 8 #[.string s] w fun e w' => AnyB e ∧ Below w.heap.size w w' := by
  by_cases h1 : (s.size : Int) ≤ 20000
  · go_enter Tryz.func8, Tryz.ntmps8
    go_wp2
    go_ret
    exact ⟨⟨_, rfl⟩, Below.refl _ _⟩
  · by_cases h2 : (65536 : Int) < s.size
    · by_cases h3 : (s.size : Int) < 131072
      · go_enter Tryz.func8, Tryz.ntmps8
        go_wp2
        go_ret
        exact ⟨⟨_, rfl⟩, Below.refl _ _⟩
      · go_enter Tryz.func8, Tryz.ntmps8
        go_wp2
        go_ret
        exact ⟨⟨_, rfl⟩, Below.refl _ _⟩
    · go_enter Tryz.func8, Tryz.ntmps8
      go_wp2
      go_ret
      exact ⟨⟨_, rfl⟩, Below.refl _ _⟩
end Go.Proofs.YtinjhnflnfpoeaaGreatDoor
