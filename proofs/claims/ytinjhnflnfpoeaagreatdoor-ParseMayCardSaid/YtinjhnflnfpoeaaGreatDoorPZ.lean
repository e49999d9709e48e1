/-
  The contract of Parse at every text, and of the law functions' live; under: the tables hold what the program lays (LaidW).
-/
import Derived.Test.YtinjhnflnfpoeaaGreatDoorPY
namespace Go.Proofs.YtinjhnflnfpoeaaGreatDoor
open Go Go.RowKit Go.Joins

theorem allF_short (ts : List Tk) : Short ts (allF ts) := by
  unfold allF
  have h := lst_short ts.length 1 0 ts
  generalize lstF ts.length 1 0 ts = x at h
  match x with
  | .bad e r => exact h
  | .ok f m [] => exact h
  | .ok f m (c :: r) => exact h
theorem parse_any (s : ByteArray) (w : World) (hL : LaidW w) (hs : s.size ≤ 9223372036854775807) : Calls Tryz.prog 9 #[.string s] w (PPost (parF s.data.toList) w) := by
  have hlen : s.data.toList.length = s.size := rfl
  have hc := fun w1 (hb : Below w.heap.size w w1) => lcut_any s w1 (hL.below hb) hs
  by_cases h1 : 65536 < s.size
  · have e : parF s.data.toList = .bad firstP 6 := by unfold parF; rw [if_pos (by omega)]
    rw [e]
    refine parse_cut (by decide) fun w1 hb => (hc w1 hb).mono ?_
    rintro e w' ⟨hb', ⟨_, rfl⟩ | ⟨h2, _⟩ | ⟨h2, _⟩⟩
    · exact ⟨hb', rfl⟩
    · omega
    · omega
  cases h2 : (cutL s.data.toList false firstP).2 with
  | some pf =>
    obtain ⟨p, f⟩ := pf
    have e : parF s.data.toList = .bad p f := by unfold parF; rw [if_neg (by omega), h2]
    rw [e]
    refine parse_cut ((cutK _ _ false firstP (Nat.le_refl _)).1 p f h2) fun w1 hb => (hc w1 hb).mono ?_
    rintro e w' ⟨hb', ⟨h3, _⟩ | ⟨_, p', f', h3, rfl⟩ | ⟨_, h3, _⟩⟩
    · omega
    · rw [h2] at h3; cases h3; exact ⟨hb', rfl⟩
    · rw [h2] at h3; cases h3
  | none =>
    have hg : ∀ w1, Below w.heap.size w w1 → Calls Tryz.prog 22 #[.string s] w1 (CutGood s (toksF s.data.toList) (placesF s.data.toList) w1) := fun w1 hb => (hc w1 hb).mono (by
      rintro e w' ⟨hb', ⟨h3, _⟩ | ⟨_, p', f', h3, _⟩ | ⟨_, _, n, A, c, A2, c2, hn, hn2, rfl, ht, hp⟩⟩
      · omega
      · rw [h2] at h3; cases h3
      · exact ⟨hb', n, A, c, A2, c2, by rw [toksF, List.length_map]; exact hn, hn2, rfl, ht, hp⟩)
    cases h3 : allF (toksF s.data.toList) with
    | ok f m r =>
      have e : parF s.data.toList = .ok f := by unfold parF; rw [if_neg (by omega), h2]; simp only [h3]
      rw [e]
      exact parse_good s w _ _ (by omega) (tok_kinds _) hg f m r h3
    | bad er r =>
      have e : parF s.data.toList = .bad (plS.nth (placesF s.data.toList ++ [plAt s.data.toList firstP s.data.toList.length]) ((toksF s.data.toList).length - r.length)) er := by unfold parF; rw [if_neg (by omega), h2]; simp only [h3]
      rw [e]
      exact parse_fail s w _ _ (by omega) (tok_kinds _) hg hL (by rw [placesF, toksF, List.length_map, List.length_map]) er r h3
end Go.Proofs.YtinjhnflnfpoeaaGreatDoor
