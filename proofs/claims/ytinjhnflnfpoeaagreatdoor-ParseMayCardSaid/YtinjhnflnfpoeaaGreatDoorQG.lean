/-
  Plain words: what a text is cut into, and parsed as, that has another one behind it, with a line's end between. No model's run; no condition.
-/
import Derived.Test.YtinjhnflnfpoeaaGreatDoorQA
namespace Go.Proofs.YtinjhnflnfpoeaaGreatDoor
open Go

theorem dec_app (c : UInt8) (r m : List UInt8) : dec ((c :: r) ++ 10 :: m) = dec (c :: r) := by
  match r with
  | [] => simp [dec, Lib.decodeN, gb]
  | [a] => simp [dec, Lib.decodeN, gb]
  | [a, b] => simp [dec, Lib.decodeN, gb]
  | a :: b :: d :: r' => simp [dec, Lib.decodeN, gb]
theorem brok_app (c : UInt8) (r m : List UInt8) : brok ((c :: r) ++ 10 :: m) = brok (c :: r) := by
  unfold brok
  rw [dec_app]
  congr 2
  match r with
  | [] => simp [List.isPrefixOf]
  | [a] => simp [List.isPrefixOf]
  | a :: b :: r' => simp [List.isPrefixOf]
theorem takeWhile_app (a m : List UInt8) : (a ++ 10 :: m).takeWhile ldB = a.takeWhile ldB := by
  induction a with
  | nil => rfl
  | cons d a ih =>
    by_cases h : ldB d = true
    · rw [List.cons_append, List.takeWhile_cons_of_pos h, List.takeWhile_cons_of_pos h, ih]
    · rw [List.cons_append, List.takeWhile_cons_of_neg h, List.takeWhile_cons_of_neg h]
theorem piece_app (c : UInt8) (r m : List UInt8) : pieceF ((c :: r) ++ 10 :: m) = pieceF (c :: r) := by
  have h1 := dec_app c r m
  have h2 := dec_le c r
  rw [List.cons_append] at h1 ⊢
  rw [pieceF_cons, pieceF_cons, h1]
  rw [← List.cons_append, List.take_append_of_le_length (by simpa using h2), List.drop_append_of_le_length (by simpa using h2), takeWhile_app]

/-- The tokens, and what is wrong, without places. -/
def tks (X : List (Tk × Pl) × Option (Pl × Nat)) : List Tk × Option Nat := (X.1.map (·.1), X.2.map (·.2))

theorem tks_place : ∀ (n : Nat) (l : List UInt8) (rem : Bool) (p q : Pl), l.length ≤ n → tks (cutL l rem p) = tks (cutL l rem q) := by
  intro n
  induction n with
  | zero =>
    intro l rem p q h
    have : l = [] := List.eq_nil_of_length_eq_zero (by omega)
    subst this
    rw [cutL, cutL]
  | succ n ih =>
    intro l rem p q h
    match l with
    | [] => rw [cutL, cutL]
    | c :: r =>
      have hr : r.length ≤ n := by simpa using h
      have hd : ∀ k, (r.drop k).length ≤ n := fun k => by rw [List.length_drop]; omega
      rw [cutL, cutL]
      split
      · rfl
      split
      · exact ih _ _ _ _ (hd _)
      split
      · exact ih _ _ _ _ (hd _)
      split
      · exact ih _ _ _ _ (hd _)
      cases tokF (pieceF (c :: r)) with
      | error e => rfl
      | ok t =>
        have := ih (r.drop ((pieceF (c :: r)).length - 1)) false ⟨p.line, p.col + (pieceF (c :: r)).length⟩ ⟨q.line, q.col + (pieceF (c :: r)).length⟩ (hd _)
        simp only [tks, Prod.mk.injEq] at this ⊢
        rw [List.map_cons, List.map_cons, this.1, this.2]
        exact ⟨rfl, rfl⟩
theorem tks_free (l : List UInt8) (rem : Bool) (p q : Pl) : tks (cutL l rem p) = tks (cutL l rem q) := tks_place l.length l rem p q (Nat.le_refl _)

/-- A line's end behind a text, and another text. -/
def CutJ (m : List UInt8) (X Y : List (Tk × Pl) × Option (Pl × Nat)) : Prop :=
  (∀ e, X.2 = some e → Y = X) ∧ (X.2 = none → ∃ q, Y = (X.1 ++ (cutL m false q).1, (cutL m false q).2))
theorem cutj_cons {m : List UInt8} {X Y : List (Tk × Pl) × Option (Pl × Nat)} (h : CutJ m X Y) (t : Tk × Pl) : CutJ m (t :: X.1, X.2) (t :: Y.1, Y.2) := by
  refine ⟨fun e he => ?_, fun he => ?_⟩
  · rw [h.1 e he]
  · obtain ⟨q, hq⟩ := h.2 he
    exact ⟨q, by rw [hq]; rfl⟩
theorem cut_join (m : List UInt8) : ∀ (n : Nat) (l : List UInt8) (rem : Bool) (p : Pl), l.length ≤ n → CutJ m (cutL l rem p) (cutL (l ++ 10 :: m) rem p) := by
  have hnil : ∀ rem p, CutJ m (cutL [] rem p) (cutL ([] ++ 10 :: m) rem p) := by
    intro rem p
    have hb : brok (10 :: m) = false := by unfold brok; rw [dec_ascii 10 m (by decide)]; rfl
    have e2 : cutL [] rem p = ([], none) := by rw [cutL]
    rw [e2]
    refine ⟨fun e he => (by cases he), fun _ => ⟨behindP p 10, ?_⟩⟩
    rw [List.nil_append, cutL, if_neg (by rw [hb]; decide), dec_ascii 10 m (by decide), if_pos (by decide)]
    rfl
  intro n
  induction n with
  | zero =>
    intro l rem p h
    have : l = [] := List.eq_nil_of_length_eq_zero (by omega)
    subst this
    exact hnil rem p
  | succ n ih =>
    intro l rem p h
    match l with
    | [] => exact hnil rem p
    | c :: r =>
      have hr : r.length ≤ n := by simpa using h
      have hd : ∀ k, (r.drop k).length ≤ n := fun k => by rw [List.length_drop]; omega
      have e1 := dec_app c r m
      have e2 := brok_app c r m
      have e3 := piece_app c r m
      have h2 := dec_le c r
      have h3 := (piece_len (c :: r)).1
      have h1 := dec_pos (c :: r)
      have h4 := (piece_len (c :: r)).2 (by simp)
      have ed : ∀ k, k ≤ r.length → (r ++ 10 :: m).drop k = r.drop k ++ 10 :: m := fun k hk => List.drop_append_of_le_length hk
      have bad : ∀ e : Pl × Nat, CutJ m ([], some e) ([], some e) := fun e => ⟨fun _ _ => rfl, fun h => (by cases h)⟩
      rw [List.cons_append] at e1 e2 e3 ⊢
      rw [cutL, cutL, e1, e2, e3, ed _ (by omega), ed _ (by simp at h3; omega)]
      split
      · exact bad _
      split
      · exact ih _ _ _ (hd _)
      split
      · exact ih _ _ _ (hd _)
      split
      · exact ih _ _ _ (hd _)
      cases tokF (pieceF (c :: r)) with
      | error e => exact bad _
      | ok t => exact cutj_cons (ih (r.drop ((pieceF (c :: r)).length - 1)) false ⟨p.line, p.col + (pieceF (c :: r)).length⟩ (hd _)) _

/-! ### Statements of tokens, without a bound on the steps -/
section
variable {L L' : Nat → Nat → List Tk → Res} {k : Nat}
theorem blk_congr (h : ∀ d m ts, ts.length ≤ k → L d m ts = L' d m ts) (d m : Nat) (ts : List Tk) (hk : ts.length ≤ k) : blkF L d m ts = blkF L' d m ts := by
  unfold blkF; rw [h d m ts hk]
theorem end_congr (h : ∀ d m ts, ts.length ≤ k → L d m ts = L' d m ts) (wd : List UInt8) (ns : List (Int × Bool)) (d m : Nat) (ts : List Tk) (hk : ts.length ≤ k + 1) : endF L wd ns d m ts = endF L' wd ns d m ts := by
  unfold endF
  match ts with
  | [] => rfl
  | s :: r2 => simp only; rw [blk_congr h (d + 1) m r2 (by simpa using hk)]
theorem stm_congr (h : ∀ d m ts, ts.length ≤ k → L d m ts = L' d m ts) (wd : List UInt8) (d m : Nat) (ts : List Tk) (hk : ts.length ≤ k + 1) : stmF L wd d m ts = stmF L' wd d m ts := by
  unfold stmF
  have hr : (restF ts).length ≤ k + 1 := Nat.le_trans (List.dropWhile_suffix isN).length_le hk
  rw [end_congr h wd _ d m _ hr]
end
theorem lst_fuel : ∀ (n k d m : Nat) (ts : List Tk), ts.length ≤ n → ts.length ≤ k → lstF n d m ts = lstF k d m ts := by
  intro n
  induction n using Nat.strongRecOn with
  | ind n ih =>
    intro k d m ts hn hk
    match ts with
    | [] => rw [lst_end, lst_end]
    | t :: r =>
      obtain ⟨n, rfl⟩ : ∃ j, n = j + 1 := ⟨n - 1, by simp at hn; omega⟩
      obtain ⟨k, rfl⟩ : ∃ j, k = j + 1 := ⟨k - 1, by simp at hk; omega⟩
      by_cases h1 : t.kind = 1
      · rw [lst_word n d m t r h1, lst_word k d m t r h1]
        have hr : r.length ≤ n := by simpa using hn
        have hr2 : r.length ≤ k := by simpa using hk
        have e : stmX (lstF n) d m t r = stmX (lstF k) d m t r := by
          unfold stmX
          rw [stm_congr (k := r.length) (fun d m ts hts => ih n (by omega) k d m ts (by omega) (by omega)) t.s d (m + 1) r (by omega)]
        rw [e]
        cases hx : stmX (lstF k) d m t r with
        | bad e r2 => rfl
        | ok x m2 r2 =>
          have := (stmX_one hx).2.2
          simp only
          rw [ih n (by omega) k d m2 r2 (by omega) (by omega)]
      · rw [lst_none _ _ _ _ _ h1 hn, lst_none _ _ _ _ _ h1 hk]
def lst (d m : Nat) (ts : List Tk) : Res := lstF ts.length d m ts
theorem lst_nil (d m : Nat) : lst d m [] = .ok .nil m [] := rfl
theorem lst_cons_no (d m : Nat) (t : Tk) (r : List Tk) (h : ¬ t.kind = 1) : lst d m (t :: r) = .ok .nil m (t :: r) := lst_none _ _ _ _ _ h (Nat.le_refl _)
theorem lst_cons (d m : Nat) (t : Tk) (r : List Tk) (h : t.kind = 1) : lst d m (t :: r) = match stmX lst d m t r with
    | .bad e r2 => .bad e r2
    | .ok x m2 r2 => preR x (lst d m2 r2) := by
  unfold lst
  rw [List.length_cons, lst_word r.length d m t r h]
  have e : stmX (lstF r.length) d m t r = stmX (fun d m ts => lstF ts.length d m ts) d m t r := by
    unfold stmX
    rw [stm_congr (k := r.length) (fun d m ts hts => lst_fuel r.length ts.length d m ts hts (Nat.le_refl _)) t.s d (m + 1) r (by omega)]
  rw [← e]
  cases hx : stmX (lstF r.length) d m t r with
  | bad e r2 => rfl
  | ok x m2 r2 =>
    have := (stmX_one hx).2.2
    simp only
    rw [lst_fuel r.length r2.length d m2 r2 this (Nat.le_refl _)]

/-! ### With more tokens behind -/
/-- What is told of a beginning holds of the whole, but where it ends too soon. -/
def Ext (us : List Tk) (X Y : Res) : Prop := match X with
  | .bad e r => e ≠ 3 → r ≠ [] ∧ Y = .bad e (r ++ us)
  | .ok f m r => r ≠ [] → Y = .ok f m (r ++ us)
section
variable {L : Nat → Nat → List Tk → Res} {us : List Tk} {k : Nat}
theorem blk_ext (h : ∀ d m ts, ts.length ≤ k → Ext us (L d m ts) (L d m (ts ++ us))) (d m : Nat) (ts : List Tk) (hk : ts.length ≤ k) : match blkF L d m ts with
    | .bad e r => e ≠ 3 → r ≠ [] ∧ blkF L d m (ts ++ us) = .bad e (r ++ us)
    | .ok f m2 r => blkF L d m (ts ++ us) = .ok f m2 (r ++ us) := by
  have h1 := h d m ts hk
  unfold blkF
  generalize L d m ts = X at *
  generalize L d m (ts ++ us) = Y at *
  match X with
  | .bad e r =>
    intro he
    obtain ⟨h2, rfl⟩ := h1 he
    exact ⟨h2, rfl⟩
  | .ok f m2 [] => exact fun h => absurd rfl h
  | .ok f m2 (c :: r) =>
    obtain rfl := h1 (by simp)
    by_cases hc : c.kind = 3 ∧ c.s = [125]
    · simp only [hc, and_self, if_true, List.cons_append]
    · simp only [hc, if_false, List.cons_append]
      exact fun _ => ⟨by simp, trivial⟩
theorem end_ext (h : ∀ d m ts, ts.length ≤ k → Ext us (L d m ts) (L d m (ts ++ us))) (wd : List UInt8) (ns : List (Int × Bool)) (d m : Nat) (ts : List Tk) (hk : ts.length ≤ k + 1) : match endF L wd ns d m ts with
    | .bad e r => e ≠ 3 → r ≠ [] ∧ endF L wd ns d m (ts ++ us) = .bad e (r ++ us)
    | .ok f m2 r => endF L wd ns d m (ts ++ us) = .ok f m2 (r ++ us) := by
  match ts with
  | [] => exact fun h => absurd rfl h
  | s :: r2 =>
    rw [List.cons_append]
    unfold endF
    simp only
    by_cases h1 : s.kind = 1
    · simp only [h1, if_true]; exact fun _ => ⟨by simp, rfl⟩
    simp only [h1, if_false]
    by_cases h2 : s.s = [59]
    · simp only [h2, if_true]
    simp only [h2, if_false]
    by_cases h3 : s.s = [123]
    · simp only [h3, if_true]
      by_cases h4 : 6 ≤ d
      · simp only [h4, if_true]; exact fun _ => ⟨by simp, rfl⟩
      simp only [h4, if_false]
      have hb := blk_ext h (d + 1) m r2 (by simpa using hk)
      generalize blkF L (d + 1) m r2 = X at *
      match X with
      | .bad e r =>
        intro he
        obtain ⟨h5, h6⟩ := hb he
        rw [h6]; exact ⟨h5, rfl⟩
      | .ok f m2 r => simp only at hb ⊢; rw [hb]
    · simp only [h3, if_false]; exact fun _ => ⟨by simp, rfl⟩
theorem takeWhile_ext (ts us : List Tk) (h : restF ts ≠ []) : (ts ++ us).takeWhile isN = ts.takeWhile isN ∧ restF (ts ++ us) = restF ts ++ us := by
  unfold restF at *
  induction ts with
  | nil => exact absurd rfl h
  | cons t ts ih =>
    by_cases ht : isN t = true
    · rw [List.dropWhile_cons_of_pos ht] at h
      rw [List.cons_append, List.takeWhile_cons_of_pos ht, List.takeWhile_cons_of_pos ht, List.dropWhile_cons_of_pos ht, List.dropWhile_cons_of_pos ht, (ih h).1, (ih h).2]
      exact ⟨rfl, rfl⟩
    · rw [List.cons_append, List.takeWhile_cons_of_neg ht, List.takeWhile_cons_of_neg ht, List.dropWhile_cons_of_neg ht, List.dropWhile_cons_of_neg ht]
      exact ⟨rfl, rfl⟩
theorem takeWhile_long (ts us : List Tk) : (ts.takeWhile isN).length ≤ ((ts ++ us).takeWhile isN).length := by
  induction ts with
  | nil => simp
  | cons t ts ih =>
    by_cases ht : isN t = true
    · rw [List.cons_append, List.takeWhile_cons_of_pos ht, List.takeWhile_cons_of_pos ht, List.length_cons, List.length_cons]; omega
    · rw [List.cons_append, List.takeWhile_cons_of_neg ht]; simp
theorem stm_ext (h : ∀ d m ts, ts.length ≤ k → Ext us (L d m ts) (L d m (ts ++ us))) (wd : List UInt8) (d m : Nat) (ts : List Tk) (hk : ts.length ≤ k + 1) : match stmF L wd d m ts with
    | .bad e r => e ≠ 3 → r ≠ [] ∧ stmF L wd d m (ts ++ us) = .bad e (r ++ us)
    | .ok f m2 r => stmF L wd d m (ts ++ us) = .ok f m2 (r ++ us) := by
  unfold stmF
  by_cases hf : fewN ts = true
  · rw [if_pos hf]
    by_cases hr : restF ts = []
    · rw [hr]; exact fun h => absurd rfl h
    · obtain ⟨e1, e2⟩ := takeWhile_ext ts us hr
      have hf2 : fewN (ts ++ us) = true := by unfold fewN at *; rw [e1]; exact hf
      have hn : numsF (ts ++ us) = numsF ts := by unfold numsF; rw [e1]
      rw [if_pos hf2, hn, e2]
      have hr3 : (restF ts).length ≤ k + 1 := Nat.le_trans (List.dropWhile_suffix isN).length_le hk
      exact end_ext h wd _ d m _ hr3
  · rw [if_neg hf]
    have hl : 8 < (ts.takeWhile isN).length := by unfold fewN at hf; simpa using hf
    have hl2 := takeWhile_long ts us
    have hf2 : ¬ fewN (ts ++ us) = true := by unfold fewN; simp; omega
    have h8 : 8 < ts.length := Nat.lt_of_lt_of_le hl (List.takeWhile_prefix isN).length_le
    rw [if_neg hf2]
    intro _
    refine ⟨fun h => ?_, by rw [List.drop_append_of_le_length (by omega)]⟩
    have := congrArg List.length h
    rw [List.length_drop] at this
    simp at this; omega
end
theorem lst_ext (us : List Tk) : ∀ (n d m : Nat) (ts : List Tk), ts.length ≤ n → Ext us (lst d m ts) (lst d m (ts ++ us)) := by
  intro n
  induction n with
  | zero =>
    intro d m ts h
    have : ts = [] := List.eq_nil_of_length_eq_zero (by omega)
    subst this
    exact fun h => absurd rfl h
  | succ n ih =>
    intro d m ts h
    match ts with
    | [] => exact fun h => absurd rfl h
    | t :: r =>
      have hr : r.length ≤ n := by simpa using h
      by_cases h1 : t.kind = 1
      · rw [List.cons_append, lst_cons d m t r h1, lst_cons d m t (r ++ us) h1]
        by_cases hm : m = 2000
        · unfold stmX; rw [if_pos hm, if_pos hm]
          exact fun _ => ⟨by simp, rfl⟩
        · have hs := stm_ext (L := lst) (us := us) (k := r.length) (fun d m ts hts => ih d m ts (by omega)) t.s d (m + 1) r (by omega)
          have e1 : stmX lst d m t r = stmF lst t.s d (m + 1) r := by unfold stmX; rw [if_neg hm]
          have e2 : stmX lst d m t (r ++ us) = stmF lst t.s d (m + 1) (r ++ us) := by unfold stmX; rw [if_neg hm]
          rw [e1, e2]
          have hsh := stm_short (L := lst) (fun d m ts => lst_short _ d m ts) t.s d (m + 1) r
          generalize stmF lst t.s d (m + 1) r = X at *
          match X with
          | .bad e r2 =>
            intro he
            obtain ⟨h2, h3⟩ := hs he
            rw [h3]; exact ⟨h2, rfl⟩
          | .ok x m2 r2 =>
            simp only at hs ⊢
            rw [hs]
            have hl : r2.length ≤ n := by obtain ⟨p, hp⟩ := hsh; have := congrArg List.length hp; simp at this; omega
            have h5 := ih d m2 r2 hl
            simp only
            generalize lst d m2 r2 = Z at *
            match Z with
            | .bad e r3 =>
              intro he
              obtain ⟨h6, h7⟩ := h5 he
              rw [h7]; exact ⟨h6, rfl⟩
            | .ok f m3 r3 =>
              intro hne
              rw [h5 hne]; rfl
      · rw [List.cons_append, lst_cons_no d m t r h1, lst_cons_no d m t (r ++ us) h1]
        exact fun _ => rfl
theorem lst_app (us : List Tk) : ∀ (n d m : Nat) (ts : List Tk) (f : Fo) (m2 : Nat), ts.length ≤ n → lst d m ts = .ok f m2 [] → lst d m (ts ++ us) = preR f (lst d m2 us) := by
  intro n
  induction n with
  | zero =>
    intro d m ts f m2 h he
    have : ts = [] := List.eq_nil_of_length_eq_zero (by omega)
    subst this
    rw [lst_nil] at he
    cases he
    rw [preR_nil]; rfl
  | succ n ih =>
    intro d m ts f m2 h he
    match ts with
    | [] => rw [lst_nil] at he; cases he; rw [preR_nil]; rfl
    | t :: r =>
      have hr : r.length ≤ n := by simpa using h
      by_cases h1 : t.kind = 1
      · rw [lst_cons d m t r h1] at he
        rw [List.cons_append, lst_cons d m t (r ++ us) h1]
        by_cases hm : m = 2000
        · unfold stmX at he; rw [if_pos hm] at he; cases he
        · have hs := stm_ext (L := lst) (us := us) (k := r.length) (fun d m ts hts => lst_ext us _ d m ts (Nat.le_refl _)) t.s d (m + 1) r (by omega)
          have e1 : stmX lst d m t r = stmF lst t.s d (m + 1) r := by unfold stmX; rw [if_neg hm]
          have e2 : stmX lst d m t (r ++ us) = stmF lst t.s d (m + 1) (r ++ us) := by unfold stmX; rw [if_neg hm]
          rw [e1] at he
          rw [e2]
          have hsh := stm_short (L := lst) (fun d m ts => lst_short _ d m ts) t.s d (m + 1) r
          generalize stmF lst t.s d (m + 1) r = X at *
          match X with
          | .bad e r2 => cases he
          | .ok x m3 r2 =>
            simp only at hs he ⊢
            rw [hs]
            have hl : r2.length ≤ n := by obtain ⟨p, hp⟩ := hsh; have := congrArg List.length hp; simp at this; omega
            simp only
            cases hz : lst d m3 r2 with
            | bad e r3 => rw [hz] at he; cases he
            | ok g m4 r3 =>
              rw [hz] at he
              cases he
              rw [ih d m3 r2 _ _ hl hz, preR_app]
      · rw [lst_cons_no d m t r h1] at he; cases he

/-! ### However many there are ahead -/
section
variable {L : Nat → Nat → List Tk → Res}
def Sh3 (L : Nat → Nat → List Tk → Res) (k : Nat) : Prop := ∀ (d a : Nat) (ts : List Tk) (f : Fo) (b : Nat) (r : List Tk), ts.length ≤ k → L d a ts = .ok f b r → ∀ c, c + f.count ≤ 2000 → L d c ts = .ok f (c + f.count) r
theorem blk_shift {k : Nat} (h : Sh3 L k) {d a : Nat} {ts : List Tk} {f : Fo} {b : Nat} {r : List Tk} (hk : ts.length ≤ k) (he : blkF L d a ts = .ok f b r) (c : Nat) (hc : c + f.count ≤ 2000) : blkF L d c ts = .ok f (c + f.count) r := by
  unfold blkF at he ⊢
  cases hx : L d a ts with
  | bad e r2 => rw [hx] at he; cases he
  | ok g m r2 =>
    rw [hx] at he
    match r2 with
    | [] => cases he
    | s :: r3 =>
      simp only at he
      split at he
      · rename_i hs
        cases he
        rw [h d a ts _ _ _ hk hx c hc]
        simp only
        rw [if_pos hs]
      · cases he
theorem end_shift {k : Nat} (h : Sh3 L k) {wd : List UInt8} {ns : List (Int × Bool)} {d a : Nat} {ts : List Tk} {f : Fo} {b : Nat} {r : List Tk} (hk : ts.length ≤ k + 1) (he : endF L wd ns d (a + 1) ts = .ok f b r) (c : Nat) (hc : c + f.count ≤ 2000) : endF L wd ns d (c + 1) ts = .ok f (c + f.count) r := by
  unfold endF at he ⊢
  match ts with
  | [] => cases he
  | s :: r2 =>
    simp only at he ⊢
    split at he
    · cases he
    rename_i h1
    rw [if_neg h1]
    split at he
    · rename_i h2
      rw [if_pos h2]
      cases he
      simp [Fo.count]
    rename_i h2
    rw [if_neg h2]
    split at he
    · rename_i h3
      rw [if_pos h3]
      split at he
      · cases he
      rename_i h4
      rw [if_neg h4]
      cases hx : blkF L (d + 1) (a + 1) r2 with
      | bad e r3 => rw [hx] at he; cases he
      | ok g m r3 =>
        rw [hx] at he
        cases he
        have := blk_shift h (by simpa using hk) hx (c + 1) (by simp only [Fo.count] at hc; omega)
        rw [this]
        simp only [Fo.count]
        congr 1; omega
    · cases he
theorem stm_shift {k : Nat} (h : Sh3 L k) {wd : List UInt8} {d a : Nat} {ts : List Tk} {f : Fo} {b : Nat} {r : List Tk} (hk : ts.length ≤ k + 1) (he : stmF L wd d (a + 1) ts = .ok f b r) (c : Nat) (hc : c + f.count ≤ 2000) : stmF L wd d (c + 1) ts = .ok f (c + f.count) r := by
  unfold stmF at he ⊢
  split at he
  · rename_i hf
    have hr : (restF ts).length ≤ k + 1 := Nat.le_trans (List.dropWhile_suffix isN).length_le hk
    rw [if_pos hf]
    exact end_shift h hr he c hc
  · cases he
end
theorem lst_shift : ∀ n, Sh3 lst n := by
  intro n
  induction n with
  | zero =>
    intro d a ts f b r h he c hc
    have : ts = [] := List.eq_nil_of_length_eq_zero (by omega)
    subst this
    rw [lst_nil] at he ⊢
    cases he
    rfl
  | succ n ih =>
    intro d a ts f b r h he c hc
    match ts with
    | [] => rw [lst_nil] at he ⊢; cases he; rfl
    | t :: q =>
      have hq : q.length ≤ n := by simpa using h
      by_cases h1 : t.kind = 1
      · rw [lst_cons d a t q h1] at he
        rw [lst_cons d c t q h1]
        by_cases hm : a = 2000
        · unfold stmX at he; rw [if_pos hm] at he; cases he
        · have e1 : stmX lst d a t q = stmF lst t.s d (a + 1) q := by unfold stmX; rw [if_neg hm]
          rw [e1] at he
          cases hx : stmF lst t.s d (a + 1) q with
          | bad e r2 => rw [hx] at he; cases he
          | ok x m2 r2 =>
            rw [hx] at he
            simp only at he
            have hone := stm_one (L := lst) (fun d m ts => lst_many _ d m ts) hx
            have hsh := stm_short (L := lst) (fun d m ts => lst_short _ d m ts) t.s d (a + 1) q
            rw [hx] at hsh
            have hl : r2.length ≤ n := by obtain ⟨p, hp⟩ := hsh; have := congrArg List.length hp; simp at this; omega
            cases hz : lst d m2 r2 with
            | bad e r3 => rw [hz] at he; cases he
            | ok g m3 r3 =>
              rw [hz] at he
              cases he
              rw [Fo.count_app] at hc
              have hx1 : 1 ≤ x.count := by have := x.len_le; omega
              have hcm : ¬ c = 2000 := by omega
              have e2 : stmX lst d c t q = stmF lst t.s d (c + 1) q := by unfold stmX; rw [if_neg hcm]
              rw [e2, stm_shift (k := n) ih (by omega) hx c (by omega)]
              simp only
              rw [ih d m2 r2 _ _ _ hl hz (c + x.count) (by omega), Fo.count_app]
              simp only [preR]
              congr 1; omega
      · rw [lst_cons_no d a t q h1] at he
        rw [lst_cons_no d c t q h1]
        cases he
        rfl

/-! ### All of a text's tokens, and more behind -/
theorem allF_lst (ts : List Tk) : allF ts = match lst 1 0 ts with
    | .bad e r => .bad e r
    | .ok f m r => match r with
      | [] => .ok f m []
      | c :: r2 => .bad 4 (c :: r2) := rfl
theorem all_bad {ts us : List Tk} {e : Nat} {r : List Tk} (h : allF ts = .bad e r) (he : e ≠ 3) : r ≠ [] ∧ allF (ts ++ us) = .bad e (r ++ us) := by
  rw [allF_lst] at h ⊢
  have hx := lst_ext us _ 1 0 ts (Nat.le_refl _)
  generalize lst 1 0 ts = X at *
  generalize lst 1 0 (ts ++ us) = Y at *
  match X with
  | .bad e2 r2 =>
    cases h
    obtain ⟨h1, rfl⟩ := hx he
    exact ⟨h1, rfl⟩
  | .ok f m [] => cases h
  | .ok f m (c :: r2) =>
    cases h
    obtain rfl := hx (by simp)
    exact ⟨by simp, rfl⟩
theorem all_ok {ts : List Tk} {f : Fo} {m : Nat} {r : List Tk} (h : allF ts = .ok f m r) : lst 1 0 ts = .ok f m [] ∧ m = f.count ∧ m ≤ 2000 := by
  rw [allF_lst] at h
  have hx := lst_many ts.length 1 0 ts
  have hx : Many 0 (lst 1 0 ts) := hx
  generalize lst 1 0 ts = X at *
  match X with
  | .bad e2 r2 => cases h
  | .ok f m [] => cases h; exact ⟨rfl, by have := hx.1; omega, hx.2 (by omega)⟩
  | .ok f m (c :: r2) => cases h
theorem all_join {ts us : List Tk} {f g : Fo} {m k : Nat} {r q : List Tk} (h : allF ts = .ok f m r) (h2 : allF us = .ok g k q) (hc : f.count + g.count ≤ 2000) : allF (ts ++ us) = .ok (f.app g) (f.count + g.count) [] := by
  obtain ⟨h3, h4, _⟩ := all_ok h
  obtain ⟨h5, h6, _⟩ := all_ok h2
  have h7 := lst_shift us.length 1 0 us g k [] (Nat.le_refl _) h5 m (by omega)
  rw [allF_lst, lst_app us _ 1 0 ts f m (Nat.le_refl _) h3, h7]
  simp only [preR]
  rw [h4]
end Go.Proofs.YtinjhnflnfpoeaaGreatDoor
