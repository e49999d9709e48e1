/-
  Plain words of the printer: statements' text, and their tokens; what a text that is printed is cut into and parsed as. No model's run; no condition.
-/
import Derived.Test.YtkfnkieljcipnaaGreatDoorK4
import Derived.Test.YtkfnkieljcipnaaGreatDoorK8
namespace Go.Proofs.YtkfnkieljcipnaaGreatDoor
open Go

def EndB (rest : List UInt8) : Prop := rest = [] ∨ ∃ d e, rest = d :: e ∧ ldB d = false
def CutsAs (l : List UInt8) (t : Tk) : Prop := ∀ rest p, EndB rest → cutL (l ++ rest) false p = ((t, p) :: (cutL rest false ⟨p.line, p.col + l.length⟩).1, (cutL rest false ⟨p.line, p.col + l.length⟩).2)
theorem unit_of (t : Int) : unitF (unitOf t).1 = some (unitOf t).2 := by
  unfold unitOf
  repeat' split
  all_goals decide
theorem num_cuts (n : Int) (time : Bool) (h : -1000000000000000000 < n ∧ n < 1000000000000000000) : CutsAs (numX n time) ⟨2, numX n time, n, time⟩ := by
  intro rest p hr
  cases time with
  | false =>
    have ht := tok_itoa n [] (by omega) (.inl rfl) (by intro ps h; cases h)
    have hc := cut_num n [] rest p _ (.inl rfl) ht hr
    rw [List.append_nil] at hc
    exact hc
  | true =>
    have hu := unit_of n
    have hg := (greatest_of n).2.1
    have hm : (n.tdiv (unitOf n).2).natAbs ≤ n.natAbs := by rw [Int.natAbs_tdiv]; exact Nat.div_le_self _ _
    have ht := tok_itoa (n.tdiv (unitOf n).2) (unitOf n).1 (by omega) (.inr (by rw [hu]; simp)) (by
      intro ps hp
      rw [hu] at hp
      cases hp
      rw [hg]; exact h)
    rw [hu] at ht
    simp only [hg] at ht
    exact cut_num (n.tdiv (unitOf n).2) (unitOf n).1 rest p _ (.inr (by rw [hu]; simp)) ht hr
theorem let_plain {c : UInt8} (h : letB c = true) : plainB c = true ∧ sgB c = false := by
  simp only [letB, Bool.and_eq_true, decide_eq_true_eq] at h
  have hx : ∀ d : UInt8, d.toNat < 97 ∨ 122 < d.toNat → (c == d) = false := fun d hd => beq_eq_false_iff_ne.2 (by rintro rfl; omega)
  refine ⟨?_, ?_⟩
  · unfold plainB
    rw [decide_eq_true (by omega : c.toNat < 128), hx 10 (by decide), hx 32 (by decide), hx 9 (by decide), hx 35 (by decide)]; rfl
  · unfold sgB
    rw [hx 59 (by decide), hx 123 (by decide), hx 125 (by decide)]; rfl
theorem word_cuts (s : List UInt8) (h : wordB s = true) : CutsAs s ⟨1, s, 0, false⟩ := by
  match s, h with
  | c :: r, h =>
    have h' := h
    simp only [wordB, Bool.and_eq_true, decide_eq_true_eq] at h'
    have hp := let_plain h'.1.1
    have h128 : c.toNat < 128 := by have := hp.1; simp only [plainB, Bool.and_eq_true, decide_eq_true_eq] at this; exact this.1
    have ht : tokF (c :: r) = .ok ⟨1, c :: r, 0, false⟩ := by
      unfold tokF
      simp only
      rw [if_neg (by rintro ⟨_, h⟩; rw [hp.2] at h; cases h), if_pos h]
    intro rest p hr
    exact cut_one c r rest p _ hp.1 (piece_of c r rest h128 hp.2 h'.1.2 hr) ht
theorem sign_cuts (c : UInt8) (hc : sgB c = true) : CutsAs [c] ⟨3, [c], 0, false⟩ := by
  have hp : plainB c = true := by
    have h3 := hc
    simp only [sgB, Bool.or_eq_true, beq_iff_eq] at h3
    rcases h3 with (rfl | rfl) | rfl <;> decide
  have ht : tokF [c] = .ok ⟨3, [c], 0, false⟩ := by
    unfold tokF
    simp only
    rw [if_pos ⟨trivial, hc⟩]
  intro rest p hr
  exact cut_one c [] rest p _ hp (piece_sg c rest hc) ht

/-! ### Without places -/
def cut (l : List UInt8) : List Tk × Option Nat := tks (cutL l false firstP)
def pre (ts : List Tk) (X : List Tk × Option Nat) : List Tk × Option Nat := (ts ++ X.1, X.2)
theorem pre_nil (X : List Tk × Option Nat) : pre [] X = X := rfl
theorem pre_pre (a b : List Tk) (X : List Tk × Option Nat) : pre a (pre b X) = pre (a ++ b) X := by simp [pre]
theorem cut_nil : cut [] = ([], none) := by unfold cut; rw [cutL]; rfl
theorem cut_as {l rest : List UInt8} {t : Tk} (h : CutsAs l t) (hr : EndB rest) : cut (l ++ rest) = pre [t] (cut rest) := by
  unfold cut
  rw [h rest firstP hr, tks_free rest false firstP ⟨firstP.line, firstP.col + l.length⟩]
  rfl
theorem cut_sp (l : List UInt8) : cut (32 :: l) = cut l := by
  unfold cut
  rw [cut_space]
  exact tks_free _ _ _ _
theorem cut_nl (l : List UInt8) : cut (10 :: l) = cut l := by
  have hb : brok (10 :: l) = false := by unfold brok; rw [dec_ascii _ _ (by decide)]; rfl
  unfold cut
  rw [cutL, if_neg (by rw [hb]; decide), dec_ascii _ _ (by decide), if_pos (by decide)]
  exact tks_free _ _ _ _
theorem cut_sps (sp : List UInt8) (h : ∀ c ∈ sp, c = 32) (l : List UInt8) : cut (sp ++ l) = cut l := by
  induction sp with
  | nil => rfl
  | cons c sp ih =>
    obtain rfl := h c (List.mem_cons_self ..)
    rw [List.cons_append, cut_sp, ih (fun d hd => h d (List.mem_cons_of_mem _ hd))]

/-! ### Statements' text -/
def numsL (ns : List (Int × Bool)) : List UInt8 := ns.flatMap fun x => 32 :: numX x.1 x.2
def tailL (bl : Bool) : List UInt8 := if bl then [32, 123] else [59]
def lineF (wd : List UInt8) (ns : List (Int × Bool)) (bl : Bool) : List UInt8 := wd ++ (numsL ns ++ tailL bl)
def Fo.text : Fo → List UInt8 → List UInt8
  | .nil, _ => []
  | .cons wd ns bl y n, sp => sp ++ (lineF wd ns bl ++ (10 :: ((if bl then y.text (sp ++ [32, 32]) ++ (sp ++ [125, 10]) else []) ++ n.text sp)))
def nTk (x : Int × Bool) : Tk := ⟨2, numX x.1 x.2, x.1, x.2⟩
def sgT (c : UInt8) : Tk := ⟨3, [c], 0, false⟩
def Fo.toks : Fo → List Tk
  | .nil => []
  | .cons wd ns bl y n => ⟨1, wd, 0, false⟩ :: (ns.map nTk ++ ((if bl then sgT 123 :: (y.toks ++ [sgT 125]) else [sgT 59]) ++ n.toks))
theorem Fo.text_app (f g : Fo) (sp : List UInt8) : (f.app g).text sp = f.text sp ++ g.text sp := by
  induction f with
  | nil => rfl
  | cons wd ns bl y n _ ih => simp only [Fo.app, Fo.text, ih, List.append_assoc, List.cons_append]

theorem far_of {ns : List (Int × Bool)} (h : ns.any farB = false) : ∀ x ∈ ns, -1000000000000000000 < x.1 ∧ x.1 < 1000000000000000000 := by
  intro x hx
  have := List.any_eq_false.1 h x hx
  simp only [farB, Bool.or_eq_true, decide_eq_true_eq] at this
  omega
theorem end_nums (ns : List (Int × Bool)) (bl : Bool) (r : List UInt8) : EndB (numsL ns ++ (tailL bl ++ r)) := by
  cases ns with
  | nil =>
    cases bl
    · exact .inr ⟨59, r, rfl, by decide⟩
    · exact .inr ⟨32, 123 :: r, rfl, by decide⟩
  | cons x ns => exact .inr ⟨32, _, rfl, by decide⟩
theorem cut_tail (bl : Bool) (r : List UInt8) : cut (tailL bl ++ (10 :: r)) = pre [sgT (if bl then 123 else 59)] (cut r) := by
  have he : EndB (10 :: r) := .inr ⟨10, r, rfl, by decide⟩
  cases bl
  · show cut ([59] ++ (10 :: r)) = _
    rw [cut_as (sign_cuts 59 (by decide)) he, cut_nl]; rfl
  · show cut (32 :: ([123] ++ (10 :: r))) = _
    rw [cut_sp, cut_as (sign_cuts 123 (by decide)) he, cut_nl]; rfl
theorem cut_nums (bl : Bool) (r : List UInt8) : ∀ ns : List (Int × Bool), (∀ x ∈ ns, -1000000000000000000 < x.1 ∧ x.1 < 1000000000000000000) → cut (numsL ns ++ (tailL bl ++ (10 :: r))) = pre (ns.map nTk ++ [sgT (if bl then 123 else 59)]) (cut r)
  | [], _ => cut_tail bl r
  | x :: ns, h => by
    have e : numsL (x :: ns) ++ (tailL bl ++ (10 :: r)) = 32 :: (numX x.1 x.2 ++ (numsL ns ++ (tailL bl ++ (10 :: r)))) := by simp [numsL]
    rw [e, cut_sp, cut_as (num_cuts x.1 x.2 (h x (List.mem_cons_self ..))) (end_nums ns bl _), cut_nums bl r ns (fun y hy => h y (List.mem_cons_of_mem _ hy)), pre_pre]
    rfl
theorem fit_of {wd : List UInt8} {ns : List (Int × Bool)} {bl : Bool} {k : Nat} (h : fitB wd ns bl k = true) : wordB wd = true ∧ ns.length ≤ 8 ∧ ns.any farB = false ∧ (bl = false → k = 0) := by
  simp only [fitB, Bool.and_eq_true, decide_eq_true_eq, Bool.not_eq_true', Bool.or_eq_true] at h
  exact ⟨h.1, h.2.1, h.2.2.1, fun hb => by rcases h.2.2.2 with h | h; rw [hb] at h; cases h; exact h⟩
theorem cut_ln {wd : List UInt8} {ns : List (Int × Bool)} {bl : Bool} {k : Nat} (h : fitB wd ns bl k = true) (r : List UInt8) : cut (lineF wd ns bl ++ (10 :: r)) = pre (⟨1, wd, 0, false⟩ :: (ns.map nTk ++ [sgT (if bl then 123 else 59)])) (cut r) := by
  obtain ⟨h1, _, h3, _⟩ := fit_of h
  rw [lineF, List.append_assoc, List.append_assoc, cut_as (word_cuts wd h1) (end_nums ns bl _), cut_nums bl r ns (far_of h3), pre_pre]
  rfl
theorem cut_text : ∀ (f : Fo) (k : Int) (sp : List UInt8) (r : List UInt8), f.okA k → (∀ c ∈ sp, c = 32) → cut (f.text sp ++ r) = pre f.toks (cut r)
  | .nil, _, _, _, _, _ => rfl
  | .cons wd ns bl y n, k, sp, r, h, hs => by
    obtain ⟨h1, h2, h3, h4⟩ := h
    have ih := cut_text n k sp r h4 hs
    cases bl with
    | false =>
      have e : (Fo.cons wd ns false y n).text sp ++ r = sp ++ (lineF wd ns false ++ (10 :: (n.text sp ++ r))) := by simp [Fo.text]
      rw [e, cut_sps sp hs, cut_ln h1, ih, pre_pre]
      congr 1
      simp [Fo.toks]
    | true =>
      have e : (Fo.cons wd ns true y n).text sp ++ r = sp ++ (lineF wd ns true ++ (10 :: (y.text (sp ++ [32, 32]) ++ (sp ++ ([125] ++ (10 :: (n.text sp ++ r))))))) := by simp [Fo.text]
      have hs2 : ∀ c ∈ sp ++ [32, 32], c = 32 := by
        intro c hc
        rcases List.mem_append.1 hc with hc | hc
        · exact hs c hc
        · simpa using hc
      rw [e, cut_sps sp hs, cut_ln h1, cut_text y (k - 1) _ _ h3 hs2, cut_sps sp hs, cut_as (sign_cuts 125 (by decide)) (.inr ⟨10, _, rfl, by decide⟩), cut_nl, ih, pre_pre, pre_pre, pre_pre]
      congr 1
      simp [Fo.toks, sgT]

/-! ### .. is parsed as it was -/
theorem nums_of {ns : List (Int × Bool)} {t : Tk} {r : List Tk} (ht : ¬ t.kind = 2) : numsF (ns.map nTk ++ t :: r) = ns ∧ restF (ns.map nTk ++ t :: r) = t :: r ∧ ((ns.map nTk ++ t :: r).takeWhile isN).length = ns.length := by
  have ht' : isN t = false := by simpa [isN] using ht
  have h1 : (ns.map nTk ++ t :: r).takeWhile isN = ns.map nTk := by
    induction ns with
    | nil => rw [List.map_nil, List.nil_append, List.takeWhile_cons_of_neg (by rw [ht']; decide)]
    | cons x ns ih => rw [List.map_cons, List.cons_append, List.takeWhile_cons_of_pos (by rfl), ih]
  have h2 : (ns.map nTk ++ t :: r).dropWhile isN = t :: r := by
    induction ns with
    | nil => rw [List.map_nil, List.nil_append, List.dropWhile_cons_of_neg (by rw [ht']; decide)]
    | cons x ns ih => rw [List.map_cons, List.cons_append, List.dropWhile_cons_of_pos (by rfl), ih (by rw [List.map_cons, List.cons_append, List.takeWhile_cons_of_pos (by rfl)] at h1; injection h1)]
  refine ⟨?_, h2, by rw [h1, List.length_map]⟩
  unfold numsF
  rw [h1, List.map_map]
  conv => rhs; rw [← List.map_id ns]
  rfl
def StopT (r : List Tk) : Prop := ∀ t q, r = t :: q → ¬ t.kind = 1
theorem lst_stop {d m : Nat} {r : List Tk} (h : StopT r) : lst d m r = .ok .nil m r := by
  match r, h with
  | [], _ => exact lst_nil d m
  | t :: q, h => exact lst_cons_no d m t q (h t q rfl)
theorem lst_toks : ∀ (f : Fo) (d m : Nat) (r : List Tk), f.okA (7 - d) → m + f.count ≤ 2000 → StopT r → lst d m (f.toks ++ r) = .ok f (m + f.count) r
  | .nil, d, m, r, _, _, hr => lst_stop hr
  | .cons wd ns bl y n, d, m, r, h, hc, hr => by
    obtain ⟨h1, h2, h3, h4⟩ := h
    obtain ⟨_, hn8, _, hbl⟩ := fit_of h1
    rw [Fo.count] at hc
    have ihn := fun m2 (hm : m2 + n.count ≤ 2000) => lst_toks n d m2 r h4 hm hr
    have hst : stmX lst d m ⟨1, wd, 0, false⟩ (ns.map nTk ++ ((if bl then sgT 123 :: (y.toks ++ [sgT 125]) else [sgT 59]) ++ (n.toks ++ r))) = .ok (.cons wd ns bl y .nil) (m + 1 + y.count) (n.toks ++ r) := by
      unfold stmX
      rw [if_neg (by omega)]
      unfold stmF
      cases bl with
      | false =>
        have hy : y = .nil := by
          match y, hbl rfl with
          | .nil, _ => rfl
        subst hy
        obtain ⟨e1, e2, e3⟩ := nums_of (ns := ns) (t := sgT 59) (r := n.toks ++ r) (by decide)
        have e0 : ns.map nTk ++ ((if false = true then sgT 123 :: (Fo.nil.toks ++ [sgT 125]) else [sgT 59]) ++ (n.toks ++ r)) = ns.map nTk ++ sgT 59 :: (n.toks ++ r) := by simp
        rw [e0, e1, e2, if_pos (by unfold fewN; rw [e3]; exact decide_eq_true hn8)]
        rfl
      | true =>
        obtain ⟨e1, e2, e3⟩ := nums_of (ns := ns) (t := sgT 123) (r := y.toks ++ (sgT 125 :: (n.toks ++ r))) (by decide)
        have e0 : ns.map nTk ++ ((if true = true then sgT 123 :: (y.toks ++ [sgT 125]) else [sgT 59]) ++ (n.toks ++ r)) = ns.map nTk ++ sgT 123 :: (y.toks ++ (sgT 125 :: (n.toks ++ r))) := by simp
        rw [e0, e1, e2, if_pos (by unfold fewN; rw [e3]; exact decide_eq_true hn8)]
        have hd := h2 rfl
        have ihy := lst_toks y (d + 1) (m + 1) (sgT 125 :: (n.toks ++ r)) (by rwa [show (7 : Int) - ((d + 1 : Nat) : Int) = 7 - (d : Int) - 1 by omega]) (by omega) (fun t q e => by cases e; decide)
        unfold endF
        simp only
        rw [if_neg (by decide), if_neg (by decide), if_pos (by decide), if_neg (by omega)]
        unfold blkF
        rw [ihy]
        simp only
        rw [if_pos ⟨rfl, rfl⟩]
    have e : (Fo.cons wd ns bl y n).toks ++ r = ⟨1, wd, 0, false⟩ :: (ns.map nTk ++ ((if bl then sgT 123 :: (y.toks ++ [sgT 125]) else [sgT 59]) ++ (n.toks ++ r))) := by simp [Fo.toks]
    rw [e, lst_cons d m _ _ rfl]
    show (match stmX lst d m ⟨1, wd, 0, false⟩ _ with | Res.bad e r2 => Res.bad e r2 | Res.ok x m2 r2 => preR x (lst d m2 r2)) = _
    rw [hst]
    simp only
    rw [ihn _ (by omega)]
    simp only [preR, Fo.app, Fo.count]
    congr 1
    omega
theorem cut_parts {l : List UInt8} {ts : List Tk} (h : cut l = (ts, none)) : toksF l = ts ∧ (cutL l false firstP).2 = none := by
  unfold cut tks at h
  simp only [Prod.mk.injEq, Option.map_eq_none_iff] at h
  exact h
theorem text_cut {f : Fo} (h : f.okA 6) : toksF (f.text []) = f.toks ∧ (cutL (f.text []) false firstP).2 = none := by
  refine cut_parts ?_
  have := cut_text f 6 [] [] h (fun _ h => by cases h)
  rw [List.append_nil] at this
  rw [this, cut_nil, pre, List.append_nil]
/-- What is printed is parsed as it was. -/
theorem text_par {f : Fo} (h : f.okA 6) (hc : f.count ≤ 2000) (hl : (f.text []).length ≤ 65536) : parF (f.text []) = .ok f := by
  obtain ⟨h1, h2⟩ := text_cut h
  have h3 := lst_toks f 1 0 [] (by simpa using h) (by omega) (fun t q e => by cases e)
  rw [List.append_nil] at h3
  unfold parF
  rw [if_neg (by omega), h2]
  simp only
  rw [h1, allF_lst, h3]
end Go.Proofs.YtkfnkieljcipnaaGreatDoor
