/-
  Plain words: what is parsed has the tokens of its text, but for how numbers looked; when parse.Check answers OK. No model's run; no condition.
-/
import Derived.Test.YtkfnkieljcipnaaGreatDoorZWA
namespace Go.Proofs.YtkfnkieljcipnaaGreatDoor
open Go

/-- A token, its text apart if it is a number's. -/
def bareN (t : Tk) : Tk := if t.kind = 2 then ⟨2, [], t.n, t.time⟩ else t
def plainT (t : Tk) : Prop := (t.kind = 1 ∨ t.kind = 2 ∨ t.kind = 3) ∧ (¬ t.kind = 2 → t.n = 0 ∧ t.time = false)
def PlainTs (ts : List Tk) : Prop := ∀ t ∈ ts, plainT t
theorem plain_app {a b : List Tk} (h : PlainTs (a ++ b)) : PlainTs b := fun t ht => h t (List.mem_append_right _ ht)
theorem plain_tail {t : Tk} {r : List Tk} (h : PlainTs (t :: r)) : PlainTs r := fun x hx => h x (List.mem_cons_of_mem _ hx)
theorem bare_nums {ts : List Tk} (h : ∀ t ∈ ts, isN t = true) : ((ts.map numT).map nTk).map bareN = ts.map bareN := by
  rw [List.map_map, List.map_map]
  refine List.map_congr_left fun t ht => ?_
  have h2 : t.kind = 2 := by simpa [isN] using h t ht
  simp only [Function.comp, bareN, nTk, numT]
  rw [if_pos trivial, if_pos h2]
theorem Fo.toks_app (f g : Fo) : (f.app g).toks = f.toks ++ g.toks := by
  induction f with
  | nil => rfl
  | cons wd ns bl y n _ ih => simp only [Fo.app, Fo.toks, ih, List.append_assoc, List.cons_append]
def TokR (ts : List Tk) : Res → Prop
  | .ok f _ r => ts.map bareN = (f.toks ++ r).map bareN ∧ PlainTs r
  | .bad _ _ => True
theorem end_toks {L : Nat → Nat → List Tk → Res} (hL : ∀ d m ts, PlainTs ts → TokR ts (L d m ts)) (wd : List UInt8) (ns : List (Int × Bool)) (d m : Nat) (ts : List Tk) (hp : PlainTs ts) (hh : ∀ s r, ts = s :: r → isN s = false) :
    TokR (⟨1, wd, 0, false⟩ :: (ns.map nTk ++ ts)) (endF L wd ns d m ts) := by
  unfold endF
  match ts, hp, hh with
  | [], _, _ => trivial
  | s :: r2, hp, hh =>
    have h2 : ¬ s.kind = 2 := by simpa [isN] using hh s r2 rfl
    have h0 := hp s (List.mem_cons_self ..)
    simp only
    split
    · trivial
    rename_i h1
    have h3 : s.kind = 3 := by rcases h0.1 with h | h | h; exact absurd h h1; exact absurd h h2; exact h
    have hs : ∀ c, s.s = [c] → s = sgT c := by
      obtain ⟨k, l, n, tm⟩ := s
      obtain ⟨e1, e2⟩ := h0.2 h2
      intro c hc
      simp only at h3 hc e1 e2
      subst h3 hc e1 e2
      rfl
    split
    · rename_i hc
      rw [hs _ hc]
      refine ⟨?_, plain_tail hp⟩
      simp [Fo.toks]
    split
    · rename_i hc
      rw [hs _ hc]
      split
      · trivial
      · have hb : match blkF L (d + 1) m r2 with
            | .ok f _ r => r2.map bareN = (f.toks ++ (sgT 125 :: r)).map bareN ∧ PlainTs r
            | .bad _ _ => True := by
          unfold blkF
          have := hL (d + 1) m r2 (plain_tail hp)
          generalize L (d + 1) m r2 = X at *
          match X with
          | .bad e r => trivial
          | .ok f m r =>
            match r with
            | [] => trivial
            | c :: r3 =>
              simp only
              split
              · rename_i heq
                split at heq
                · rename_i hc
                  cases heq
                  have hc0 := this.2 c (List.mem_cons_self ..)
                  have ec : c = sgT 125 := by
                    obtain ⟨k, l, n, tm⟩ := c
                    obtain ⟨e1, e2⟩ := hc0.2 (by rw [hc.1]; decide)
                    simp only at hc e1 e2
                    obtain ⟨rfl, rfl⟩ := hc
                    subst e1 e2
                    rfl
                  rw [← ec]
                  exact ⟨this.1, plain_tail this.2⟩
                · cases heq
              · trivial
        generalize blkF L (d + 1) m r2 = X at *
        match X with
        | .bad e r => trivial
        | .ok f m r =>
          refine ⟨?_, hb.2⟩
          have := hb.1
          simp only [Fo.toks, List.map_cons, List.map_append, if_true, List.append_assoc, List.cons_append, List.append_nil] at this ⊢
          rw [this]
          simp
    · trivial
theorem lst_toksR : ∀ (n d m : Nat) (ts : List Tk), PlainTs ts → TokR ts (lstF n d m ts)
  | 0, _, _, _, hp => ⟨rfl, hp⟩
  | n + 1, d, m, [], hp => ⟨rfl, hp⟩
  | n + 1, d, m, t :: r, hp => by
    by_cases h1 : t.kind = 1
    · rw [lst_word n d m t r h1]
      have hs : TokR (t :: r) (stmX (lstF n) d m t r) := by
        unfold stmX
        split
        · trivial
        · unfold stmF
          split
          · have hpr : PlainTs (restF r) := fun x hx => hp x (List.mem_cons_of_mem _ ((List.dropWhile_suffix isN).subset hx))
            have := end_toks (lst_toksR n) t.s (numsF r) d (m + 1) (restF r) hpr (fun s q e => by
              have := List.head?_dropWhile_not isN r
              rw [show r.dropWhile isN = s :: q from e] at this
              simpa using this)
            have et : t = ⟨1, t.s, 0, false⟩ := by
              have h0 := (hp t (List.mem_cons_self ..)).2 (by rw [h1]; decide)
              obtain ⟨k, l, nn, tm⟩ := t
              simp only at h1 h0
              obtain ⟨rfl, rfl⟩ := h0
              subst h1
              rfl
            have hr : r.map bareN = ((numsF r).map nTk ++ restF r).map bareN := by
              conv => lhs; rw [← List.takeWhile_append_dropWhile (p := isN) (l := r), List.map_append]
              rw [List.map_append]
              unfold numsF restF
              rw [bare_nums (fun x hx => (List.all_eq_true.1 (List.all_takeWhile (l := r) (p := isN))) x hx)]
            generalize endF (lstF n) t.s (numsF r) d (m + 1) (restF r) = X at *
            match X with
            | .bad e r => trivial
            | .ok x m2 r2 =>
              refine ⟨?_, this.2⟩
              rw [← this.1, List.map_cons, List.map_cons, hr, ← et]
          · trivial
      generalize stmX (lstF n) d m t r = X at *
      match X with
      | .bad e r => trivial
      | .ok x m2 r2 =>
        simp only
        have := lst_toksR n d m2 r2 hs.2
        generalize lstF n d m2 r2 = Y at *
        match Y with
        | .bad e r => trivial
        | .ok f m r => exact ⟨by rw [hs.1, Fo.toks_app, List.append_assoc, List.map_append, List.map_append, this.1], this.2⟩
    · rw [lstF, if_neg h1]; exact ⟨rfl, hp⟩
theorem tok_plain (p : List UInt8) (t : Tk) (h : tokF p = .ok t) : plainT t := by
  have hn : ∀ p t, numF p = .ok t → plainT t := by
    intro p t h
    unfold numF at h
    split at h
    · cases h
    split at h
    · cases h
    split at h
    · split at h
      · cases h; exact ⟨.inr (.inl rfl), fun h => absurd rfl h⟩
      · cases h
    · cases h; exact ⟨.inr (.inl rfl), fun h => absurd rfl h⟩
  match p with
  | [] => cases h
  | c :: r =>
    unfold tokF at h
    simp only at h
    split at h
    · cases h; exact ⟨.inr (.inr rfl), fun _ => ⟨rfl, rfl⟩⟩
    split at h
    · cases h; exact ⟨.inl rfl, fun _ => ⟨rfl, rfl⟩⟩
    split at h
    · cases h
    · exact hn _ _ h
theorem cut_plain : ∀ (n : Nat) (l : List UInt8) (rem : Bool) (p : Pl), l.length ≤ n → ∀ x ∈ (cutL l rem p).1, plainT x.1 := by
  intro n
  induction n with
  | zero =>
    intro l rem p h
    have : l = [] := List.eq_nil_of_length_eq_zero (by omega)
    subst this
    rw [cutL]
    exact fun _ h => (by cases h)
  | succ n ih =>
    intro l rem p h
    match l with
    | [] =>
      rw [cutL]
      exact fun _ h => (by cases h)
    | c :: r =>
      have hr : r.length ≤ n := by simpa using h
      have hd : ∀ k, (r.drop k).length ≤ n := fun k => by rw [List.length_drop]; omega
      rw [cutL]
      split
      · exact fun _ h => (by cases h)
      split
      · exact ih _ _ _ (hd _)
      split
      · exact ih _ _ _ (hd _)
      split
      · exact ih _ _ _ (hd _)
      split
      · exact fun _ h => (by cases h)
      · rename_i t hte
        have h1 := tok_plain _ _ hte
        have h2 := ih (r.drop ((pieceF (c :: r)).length - 1)) false ⟨p.line, p.col + (pieceF (c :: r)).length⟩ (hd _)
        intro x hx
        rcases List.mem_cons.1 hx with rfl | hx
        · exact h1
        · exact h2 x hx
theorem toks_plain (l : List UInt8) : PlainTs (toksF l) := by
  intro t ht
  obtain ⟨x, hx, rfl⟩ := List.mem_map.1 ht
  exact cut_plain _ l false firstP (Nat.le_refl _) x hx
/-- What is parsed has its text's tokens, but for how numbers looked. -/
theorem par_toks {l : List UInt8} {f : Fo} (h : parF l = .ok f) : (toksF l).map bareN = f.toks.map bareN := by
  unfold parF at h
  split at h
  · cases h
  split at h
  · cases h
  cases ha : allF (toksF l) with
  | bad er r => rw [ha] at h; cases h
  | ok f2 m2 r =>
    rw [ha] at h
    cases h
    have h4 := lst_toksR (toksF l).length 1 0 (toksF l) (toks_plain l)
    rw [show lstF (toksF l).length 1 0 (toksF l) = lst 1 0 (toksF l) from rfl, (all_ok ha).1] at h4
    rw [h4.1, List.append_nil]

/-! ### When Check answers OK -/
theorem roomF_okA : ∀ (f : Fo) (m k : Int), 1 ≤ k → 0 ≤ f.roomF m k → 0 ≤ m → f.okA k ∧ (f.nest : Int) ≤ m ∧ f.roomF m k = m - f.nest := by
  intro f
  induction f with
  | nil => intro m k _ h hm; exact ⟨trivial, by simp [Fo.nest]; omega, by simp [Fo.roomF, Fo.nest]⟩
  | cons wd ns bl y n ih1 ih2 =>
    intro m k hk h hm
    rw [Fo.roomF] at h ⊢
    split at h
    · omega
    rename_i hc
    rw [if_neg hc]
    have hfit : fitB wd ns bl y.len = true := by
      cases hf : fitB wd ns bl y.len with
      | true => rfl
      | false => exact absurd (.inr (.inl hf)) hc
    have hbk : bl = true → 1 < k := fun hb => by
      have : ¬ k = 1 := fun h => hc (.inr (.inr ⟨hb, h⟩))
      omega
    have hyr : 0 ≤ y.roomF (m - y.len) (k - 1) := by
      cases n with
      | nil => exact h
      | cons _ _ _ _ _ =>
        rw [Fo.roomF] at h
        split at h
        · omega
        · rename_i h2; exact Int.not_lt.1 fun h3 => h2 (.inl h3)
    have hlen : 0 ≤ m - y.len := by
      rcases Int.lt_or_le (m - y.len) 0 with hlt | hle
      · exfalso
        cases y with
        | nil => simp only [Fo.len] at hlt; omega
        | cons _ _ _ _ _ => rw [Fo.roomF, if_pos (.inl hlt)] at hyr; omega
      · exact hle
    have hy : y.okA (k - 1) ∧ (y.nest : Int) ≤ m - y.len ∧ y.roomF (m - y.len) (k - 1) = m - y.len - y.nest := by
      cases bl with
      | true => exact ih1 _ _ (by have := hbk rfl; omega) hyr hlen
      | false =>
        have := (fit_of hfit).2.2.2 rfl
        match y, this with
        | .nil, _ => exact ⟨trivial, by simp [Fo.nest]; omega, by simp [Fo.roomF, Fo.nest]⟩
    have hcn := y.count_nest
    rw [hy.2.2] at h ⊢
    have hn := ih2 _ k hk h (by omega)
    refine ⟨⟨hfit, hbk, hy.1, hn.1⟩, ?_, ?_⟩
    · simp only [Fo.nest]; omega
    · rw [hn.2.2]; simp only [Fo.nest]; omega
theorem chk_ok {f : Fo} (h : chkE f = 0) : f.okA 6 ∧ f.count ≤ 2000 := by
  unfold chkE at h
  split at h
  · cases h
  rename_i h0
  have h1 := f.count_nest
  have hl : 0 ≤ (2000 : Int) - f.len := by
    rcases Int.lt_or_le ((2000 : Int) - f.len) 0 with hlt | hle
    · exfalso
      cases f with
      | nil => simp only [Fo.len] at hlt; omega
      | cons _ _ _ _ _ => rw [Fo.roomF, if_pos (.inl hlt)] at h0; omega
    · exact hle
  have h2 := roomF_okA f (2000 - f.len) 6 (by omega) (by omega) hl
  exact ⟨h2.1, by omega⟩
theorem ok_chk {f : Fo} (h : f.okA 6) (hc : f.count ≤ 2000) : chkE f = 0 := by
  have hn := f.count_nest
  unfold chkE
  rw [roomF_ok f _ _ h (by omega), if_neg (by omega)]
end Go.Proofs.YtkfnkieljcipnaaGreatDoor
