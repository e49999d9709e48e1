/-
  What a text is parsed as that has another one behind it, with a line's end between; what Parse and Cut tell, in one form. Plain, but for the last two, which are under: the tables hold what the program lays (LaidW).
-/
import Derived.Test.YtinjhnflnfpoeaaGreatDoorQC
import Derived.Test.YtinjhnflnfpoeaaGreatDoorQE
import Derived.Test.YtinjhnflnfpoeaaGreatDoorQG
namespace Go.Proofs.YtinjhnflnfpoeaaGreatDoor
open Go Go.RowKit Go.Joins

theorem cut_any_place {l : List UInt8} (h : (cutL l false firstP).2 = none) (q : Pl) : (cutL l false q).2 = none ∧ (cutL l false q).1.map (·.1) = toksF l := by
  have h1 := tks_free l false q firstP
  simp only [tks, Prod.mk.injEq] at h1
  refine ⟨?_, h1.1⟩
  have h2 := h1.2
  rw [h] at h2
  simpa using h2
theorem nth_left {a b : List Pl} {i : Nat} (h : i < a.length) : plS.nth (a ++ b) i = plS.nth a i := by
  unfold Sh.nth
  rw [List.getD_eq_getElem?_getD, List.getD_eq_getElem?_getD, List.getElem?_append_left h]
theorem par_bad {l m : List UInt8} {p : Pl} {e : Nat} (hl : l.length ≤ 20000) (hm : m.length ≤ 20000) (h : parF l = .bad p e) (he : e ≠ 3) (hc : (cutL m false firstP).2 = none) : parF (l ++ 10 :: m) = .bad p e := by
  have hj := cut_join m l.length l false firstP (Nat.le_refl _)
  have hlen : ¬ 65536 < (l ++ 10 :: m).length := by simp; omega
  unfold parF at h ⊢
  rw [if_neg (by omega)] at h
  rw [if_neg hlen]
  cases hx : (cutL l false firstP).2 with
  | some pf =>
    rw [hj.1 _ hx, hx]
    rw [hx] at h
    exact h
  | none =>
    obtain ⟨q, hq⟩ := hj.2 hx
    obtain ⟨h1, h2⟩ := cut_any_place hc q
    rw [hx] at h
    have ht : toksF (l ++ 10 :: m) = toksF l ++ toksF m := by unfold toksF; rw [hq, List.map_append, h2]; rfl
    have hp : placesF (l ++ 10 :: m) = placesF l ++ (cutL m false q).1.map (·.2) := by unfold placesF; rw [hq, List.map_append]
    rw [hq, h1]
    simp only at h ⊢
    cases ha : allF (toksF l) with
    | ok f m2 r => rw [ha] at h; cases h
    | bad er r =>
      rw [ha] at h
      simp only at h
      injection h with hpl her
      subst her
      obtain ⟨h3, h4⟩ := all_bad (us := toksF m) ha he
      have hsh := allF_short (toksF l)
      rw [ha] at hsh
      obtain ⟨pp, hpp⟩ := hsh
      have hr : 0 < r.length := by cases r with | nil => exact absurd rfl h3 | cons _ _ => simp
      have hll := congrArg List.length hpp
      rw [List.length_append] at hll
      have hpl2 : (placesF l).length = (toksF l).length := by unfold placesF toksF; rw [List.length_map, List.length_map]
      rw [ht, h4, hp, ← hpl]
      simp only
      congr 1
      have e1 : (toksF l ++ toksF m).length - (r ++ toksF m).length = (toksF l).length - r.length := by simp only [List.length_append]; omega
      rw [e1, List.append_assoc, nth_left (by omega), nth_left (by omega)]
theorem par_ok {l m : List UInt8} {f g : Fo} (hl : l.length ≤ 20000) (hm : m.length ≤ 20000) (h : parF l = .ok f) (h2 : parF m = .ok g) (hc : f.count + g.count ≤ 2000) : parF (l ++ 10 :: m) = .ok (f.app g) := by
  have hj := cut_join m l.length l false firstP (Nat.le_refl _)
  have hlen : ¬ 65536 < (l ++ 10 :: m).length := by simp; omega
  unfold parF at h h2 ⊢
  rw [if_neg (by omega)] at h h2
  rw [if_neg hlen]
  cases hx : (cutL l false firstP).2 with
  | some pf => rw [hx] at h; cases h
  | none =>
    cases hy : (cutL m false firstP).2 with
    | some pf => rw [hy] at h2; cases h2
    | none =>
      obtain ⟨q, hq⟩ := hj.2 hx
      obtain ⟨h3, h4⟩ := cut_any_place hy q
      rw [hx] at h
      rw [hy] at h2
      have ht : toksF (l ++ 10 :: m) = toksF l ++ toksF m := by unfold toksF; rw [hq, List.map_append, h4]; rfl
      rw [hq, h3, ht]
      simp only at h h2 ⊢
      cases ha : allF (toksF l) with
      | bad er r => rw [ha] at h; cases h
      | ok f2 m2 r =>
        cases hb : allF (toksF m) with
        | bad er r => rw [hb] at h2; cases h2
        | ok g2 k2 r2 =>
          rw [ha] at h
          rw [hb] at h2
          cases h
          cases h2
          rw [all_join ha hb hc]
theorem par_count {l : List UInt8} {f : Fo} (h : parF l = .ok f) : f.count ≤ 2000 := by
  unfold parF at h
  split at h
  · cases h
  split at h
  · cases h
  cases ha : allF (toksF l) with
  | bad er r => rw [ha] at h; cases h
  | ok f2 m2 r =>
    rw [ha] at h
    cases h
    obtain ⟨_, h1, h2⟩ := all_ok ha
    omega

/-! ### The numbers of statements that are parsed -/
def OkR : Res → Prop
  | .ok f _ _ => f.okN
  | .bad _ _ => True
theorem okN_app {f g : Fo} (h : f.okN) (h2 : g.okN) : (f.app g).okN := by
  induction f with
  | nil => exact h2
  | cons w ns b y n _ ih => exact ⟨h.1, h.2.1, ih h.2.2⟩
theorem end_okN {L : Nat → Nat → List Tk → Res} (hL : ∀ d m ts, OkR (L d m ts)) (wd : List UInt8) (ns : List (Int × Bool)) (hn : ns.length ≤ 8) (d m : Nat) (ts : List Tk) : OkR (endF L wd ns d m ts) := by
  unfold endF
  match ts with
  | [] => trivial
  | s :: r2 =>
    simp only
    split
    · trivial
    split
    · exact ⟨by omega, trivial, trivial⟩
    split
    · split
      · trivial
      · have hb : OkR (blkF L (d + 1) m r2) := by
          unfold blkF
          have := hL (d + 1) m r2
          generalize L (d + 1) m r2 = X at *
          match X with
          | .bad e r => trivial
          | .ok f m r =>
            match r with
            | [] => trivial
            | c :: r3 =>
              simp only
              split
              · exact this
              · trivial
        generalize blkF L (d + 1) m r2 = X at *
        match X with
        | .bad e r => trivial
        | .ok f m r => exact ⟨by omega, hb, trivial⟩
    · trivial
theorem lst_okN : ∀ (n d m : Nat) (ts : List Tk), OkR (lstF n d m ts)
  | 0, _, _, _ => trivial
  | n + 1, d, m, [] => trivial
  | n + 1, d, m, t :: r => by
    by_cases h1 : t.kind = 1
    · rw [lst_word n d m t r h1]
      have hs : OkR (stmX (lstF n) d m t r) := by
        unfold stmX
        split
        · trivial
        · unfold stmF
          split
          · rename_i hf
            exact end_okN (lst_okN n) _ _ (by unfold numsF; rw [List.length_map]; simpa [fewN] using hf) _ _ _
          · trivial
      generalize stmX (lstF n) d m t r = X at *
      match X with
      | .bad e r => trivial
      | .ok x m2 r2 =>
        simp only
        have := lst_okN n d m2 r2
        generalize lstF n d m2 r2 = Y at *
        match Y with
        | .bad e r => trivial
        | .ok f m r => exact okN_app hs this
    · rw [lstF, if_neg h1]; trivial
theorem par_okN {l : List UInt8} {f : Fo} (h : parF l = .ok f) : f.okN := by
  unfold parF at h
  split at h
  · cases h
  split at h
  · cases h
  cases ha : allF (toksF l) with
  | bad er r => rw [ha] at h; cases h
  | ok f2 m2 r =>
    rw [ha] at h
    cases h
    have := lst_okN (toksF l).length 1 0 (toksF l)
    rw [show lstF (toksF l).length 1 0 (toksF l) = lst 1 0 (toksF l) from rfl, (all_ok ha).1] at this
    exact this

/-- What Parse tells, in one form. -/
def Told (x : PRes) (w : World) (e : Ending) (w' : World) : Prop := Below w.heap.size w w' ∧ ∃ A n c p er F, e = .returned (.tuple #[.slice A n c, plV p, .int .i64 (er : Nat)]) ∧ TrS w' (fun k => w.heap.size ≤ k ∧ k < w'.heap.size) A n F ∧
  ((er = 0 ∧ x = .ok F) ∨ (er ≠ 0 ∧ x = .bad p er))
theorem parse_told (s : ByteArray) (w : World) (hL : LaidW w) (hs : s.size ≤ 9223372036854775807) : Calls Tryz.prog 9 #[.string s] w (Told (parF s.data.toList) w) := by
  refine (parse_any s w hL hs).mono ?_
  rintro e w' ⟨hb, h⟩
  refine ⟨hb, ?_⟩
  generalize parF s.data.toList = x at *
  match x with
  | .ok f => obtain ⟨A, n, c, rfl, ht⟩ := h; exact ⟨A, n, c, ⟨0, 0⟩, 0, f, rfl, ht, .inl ⟨rfl, rfl⟩⟩
  | .bad p er => obtain ⟨h1, rfl⟩ := h; exact ⟨none, 0, 0, p, er, .nil, rfl, TrS.nil, .inr ⟨by omega, rfl⟩⟩
end Go.Proofs.YtinjhnflnfpoeaaGreatDoor
