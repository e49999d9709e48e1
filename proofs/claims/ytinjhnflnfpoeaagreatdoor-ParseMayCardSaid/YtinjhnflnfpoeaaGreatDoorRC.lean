/-
  The contract of parse.Check at every forest of at most 2^61 statements; and what is parsed may be: Check answers OK.
-/
import Derived.Test.YtinjhnflnfpoeaaGreatDoorRB
import Derived.Test.YtinjhnflnfpoeaaGreatDoorQG
namespace Go.Proofs.YtinjhnflnfpoeaaGreatDoor
open Go Go.RowKit Go.Joins

def chkE (f : Fo) : Nat := if f.roomF (2000 - f.len) 6 < 0 then 1 else 0
set_option maxRecDepth 100000 in
theorem check_any (f : Fo) (w : World) (K : Nat → Prop) (A : Option Addr) (n c : Nat) (ht : TrS w K A n f) (hok : f.okS) (hc : f.count ≤ 2305843009213693000) :
    Calls Tryz.prog 16 #[.slice A n c] w fun e w' => e = .returned (.int .i64 (chkE f : Nat)) ∧ Below w.heap.size w w' := by
  have HR := hid (room_any f w K A n c 2000 6 ht hok (by omega) (by omega) (by omega) (by have := f.depth_le; omega) (by omega))
  clear ht hok hc
  unfold chkE
  generalize f.roomF (2000 - f.len) 6 = R at *
  by_cases hR : R < 0
  · rw [if_pos hR]
    go_enter Tryz.func16, Tryz.ntmps16
    go_wp2_with (first
      | (go_at_call 30; refine HR.out.mono ?_; rintro e w1 ⟨rfl, b1⟩; have B1 := hid b1; clear b1))
    go_ret
    exact ⟨rfl, B1.out⟩
  · rw [if_neg hR]
    go_enter Tryz.func16, Tryz.ntmps16
    go_wp2_with (first
      | (go_at_call 30; refine HR.out.mono ?_; rintro e w1 ⟨rfl, b1⟩; have B1 := hid b1; clear b1))
    go_ret
    exact ⟨rfl, B1.out⟩

/-! ### What is parsed may be -/
def Fo.okA : Fo → Int → Prop
  | nil, _ => True
  | cons wd ns bl y n, k => fitB wd ns bl y.len = true ∧ (bl = true → 1 < k) ∧ y.okA (k - 1) ∧ n.okA k
theorem roomF_ok : ∀ (f : Fo) (m k : Int), f.okA k → (f.nest : Int) ≤ m → f.roomF m k = m - f.nest := by
  intro f
  induction f with
  | nil => intro m k _ _; simp [Fo.roomF, Fo.nest]
  | cons wd ns bl y n ih1 ih2 =>
    intro m k h hm
    obtain ⟨h1, h2, h3, h4⟩ := h
    have hy := y.count_nest
    simp only [Fo.nest] at hm ⊢
    rw [Fo.roomF, if_neg (by
      rintro (h | h | h)
      · omega
      · rw [h1] at h; cases h
      · have := h2 h.1; omega), ih1 _ _ h3 (by omega), ih2 _ _ h4 (by omega)]
    omega
theorem okA_app {f g : Fo} {k : Int} (h : f.okA k) (h2 : g.okA k) : (f.app g).okA k := by
  induction f with
  | nil => exact h2
  | cons w ns b y n _ ih => exact ⟨h.1, h.2.1, h.2.2.1, ih h.2.2.2⟩
def goodT (t : Tk) : Prop := (t.kind = 1 → wordB t.s = true) ∧ (t.kind = 2 → -1000000000000000000 < t.n ∧ t.n < 1000000000000000000)
def Good (ts : List Tk) : Prop := ∀ t ∈ ts, goodT t
def OkB (d : Nat) : Res → Prop
  | .ok f _ r => f.okA (7 - d) ∧ Good r
  | .bad _ _ => True
theorem nums_fit {ts : List Tk} (h : Good ts) : (numsF ts).any farB = false := by
  rw [List.any_eq_false]
  intro x hx
  obtain ⟨t, ht, rfl⟩ := List.mem_map.1 hx
  have h1 : isN t = true := by
    have := List.all_eq_true.1 (show (ts.takeWhile isN).all isN = true from by
      clear hx ht h
      induction ts with
      | nil => rfl
      | cons u us ih =>
        by_cases hu : isN u = true
        · rw [List.takeWhile_cons_of_pos hu, List.all_cons, hu, ih]; rfl
        · rw [List.takeWhile_cons_of_neg hu]; rfl) t ht
    exact this
  have h2 := (h t ((List.takeWhile_prefix isN).subset ht)).2 (by simpa [isN] using h1)
  show ¬ (decide (t.n ≤ -1000000000000000000) || decide (1000000000000000000 ≤ t.n)) = true
  rw [Bool.or_eq_true, decide_eq_true_eq, decide_eq_true_eq]
  omega
theorem good_tail {t : Tk} {r : List Tk} (h : Good (t :: r)) : Good r := fun x hx => h x (List.mem_cons_of_mem _ hx)
theorem good_rest {ts : List Tk} (h : Good ts) : Good (restF ts) := fun x hx => h x ((List.dropWhile_suffix isN).subset hx)
section
variable {L : Nat → Nat → List Tk → Res}
theorem blk_okB (hL : ∀ d m ts, Good ts → OkB d (L d m ts)) (d m : Nat) (ts : List Tk) (hg : Good ts) : OkB d (blkF L d m ts) := by
  have h := hL d m ts hg
  unfold blkF
  generalize L d m ts = X at *
  match X with
  | .bad e r => trivial
  | .ok f m r =>
    match r with
    | [] => trivial
    | c :: r3 =>
      simp only
      split
      · exact ⟨h.1, good_tail h.2⟩
      · trivial
theorem end_okB (hL : ∀ d m ts, Good ts → OkB d (L d m ts)) (wd : List UInt8) (ns : List (Int × Bool)) (d m : Nat) (ts : List Tk) (hg : Good ts) (hw : wordB wd = true) (hn : ns.length ≤ 8) (hf : ns.any farB = false) : OkB d (endF L wd ns d m ts) := by
  unfold endF
  match ts with
  | [] => trivial
  | s :: r2 =>
    simp only
    split
    · trivial
    split
    · exact ⟨⟨by simp [fitB, hw, hn, hf, Fo.len], fun h => (by cases h), trivial, trivial⟩, good_tail hg⟩
    split
    · split
      · trivial
      · rename_i hd
        have hb := blk_okB hL (d + 1) m r2 (good_tail hg)
        generalize blkF L (d + 1) m r2 = X at *
        match X with
        | .bad e r => trivial
        | .ok f m r =>
          refine ⟨⟨by simp [fitB, hw, hn, hf], fun _ => by omega, ?_, trivial⟩, hb.2⟩
          have := hb.1
          rwa [show (7 : Int) - ((d + 1 : Nat) : Int) = 7 - (d : Int) - 1 by omega] at this
    · trivial
end
theorem lst_okB : ∀ (n d m : Nat) (ts : List Tk), Good ts → OkB d (lstF n d m ts)
  | 0, _, _, _, hg => ⟨trivial, hg⟩
  | n + 1, d, m, [], hg => ⟨trivial, hg⟩
  | n + 1, d, m, t :: r, hg => by
    by_cases h1 : t.kind = 1
    · rw [lst_word n d m t r h1]
      have hs : OkB d (stmX (lstF n) d m t r) := by
        unfold stmX
        split
        · trivial
        · unfold stmF
          split
          · rename_i hf
            exact end_okB (fun d m ts h => lst_okB n d m ts h) _ _ _ _ _ (good_rest (good_tail hg)) ((hg t (List.mem_cons_self ..)).1 h1) (by unfold numsF; rw [List.length_map]; simpa [fewN] using hf) (nums_fit (good_tail hg))
          · trivial
      generalize stmX (lstF n) d m t r = X at *
      match X with
      | .bad e r => trivial
      | .ok x m2 r2 =>
        simp only
        have := lst_okB n d m2 r2 hs.2
        generalize lstF n d m2 r2 = Y at *
        match Y with
        | .bad e r => trivial
        | .ok f m r => exact ⟨okA_app hs.1 this.1, this.2⟩
    · rw [lstF, if_neg h1]; exact ⟨trivial, hg⟩
theorem dig_is {l : List UInt8} (h : l.all digB = true) : isDigits l := fun c hc => by
  have := List.all_eq_true.1 h c hc
  simpa [digB] using this
theorem tok_good (p : List UInt8) (t : Tk) (h : tokF p = .ok t) : goodT t := by
  have hn : ∀ p t, numF p = .ok t → goodT t := by
    intro p t h
    unfold numF at h
    split at h
    · cases h
    split at h
    · cases h
    rename_i h18
    split at h
    · split at h
      · rename_i hb
        cases h
        exact ⟨fun h => absurd (show _ = _ from h) (by simp), fun _ => hb⟩
      · cases h
    · cases h
      refine ⟨fun h => absurd (show _ = _ from h) (by simp), fun _ => ?_⟩
      have := decV_18 _ (dig_is (all_takeWhile digB (sizeF p))) (by omega)
      unfold valF
      split <;> (constructor <;> (simp only; omega))
  match p with
  | [] => cases h
  | c :: r =>
    unfold tokF at h
    simp only at h
    split at h
    · cases h; exact ⟨fun h => absurd (show _ = _ from h) (by simp), fun h => absurd (show _ = _ from h) (by simp)⟩
    split at h
    · rename_i hw
      cases h; exact ⟨fun _ => hw, fun h => absurd (show _ = _ from h) (by simp)⟩
    split at h
    · cases h
    · exact hn _ _ h
theorem cut_good : ∀ (n : Nat) (l : List UInt8) (rem : Bool) (p : Pl), l.length ≤ n → ∀ x ∈ (cutL l rem p).1, goodT x.1 := by
  intro n
  induction n with
  | zero =>
    intro l rem p h
    have : l = [] := List.eq_nil_of_length_eq_zero (by omega)
    subst this
    rw [cutL]
    exact fun _ h => (by cases h)
  | succ n ih =>
    intro l rem p h
    match l with
    | [] =>
      rw [cutL]
      exact fun _ h => (by cases h)
    | c :: r =>
      have hr : r.length ≤ n := by simpa using h
      have hd : ∀ k, (r.drop k).length ≤ n := fun k => by rw [List.length_drop]; omega
      rw [cutL]
      split
      · exact fun _ h => (by cases h)
      split
      · exact ih _ _ _ (hd _)
      split
      · exact ih _ _ _ (hd _)
      split
      · exact ih _ _ _ (hd _)
      split
      · exact fun _ h => (by cases h)
      · rename_i t hte
        have h1 := tok_good _ _ hte
        have h2 := ih (r.drop ((pieceF (c :: r)).length - 1)) false ⟨p.line, p.col + (pieceF (c :: r)).length⟩ (hd _)
        intro x hx
        rcases List.mem_cons.1 hx with rfl | hx
        · exact h1
        · exact h2 x hx
theorem toks_good (l : List UInt8) : Good (toksF l) := by
  intro t ht
  obtain ⟨x, hx, rfl⟩ := List.mem_map.1 ht
  exact cut_good _ l false firstP (Nat.le_refl _) x hx
theorem par_okA {l : List UInt8} {f : Fo} (h : parF l = .ok f) : f.okA 6 ∧ f.count ≤ 2000 := by
  unfold parF at h
  split at h
  · cases h
  split at h
  · cases h
  cases ha : allF (toksF l) with
  | bad er r => rw [ha] at h; cases h
  | ok f2 m2 r =>
    rw [ha] at h
    cases h
    obtain ⟨h1, h2, h3⟩ := all_ok ha
    have h4 := lst_okB (toksF l).length 1 0 (toksF l) (toks_good l)
    rw [show lstF (toksF l).length 1 0 (toksF l) = lst 1 0 (toksF l) from rfl, h1] at h4
    exact ⟨h4.1, by omega⟩
theorem okA_okS : ∀ {f : Fo} {k : Int}, f.okA k → f.okS
  | .nil, _, _ => trivial
  | .cons wd ns bl y n, k, h => by
    obtain ⟨h1, _, h3, h4⟩ := h
    simp only [fitB, Bool.and_eq_true, decide_eq_true_eq] at h1
    refine ⟨?_, by omega, okA_okS h3, okA_okS h4⟩
    have hw := h1.1
    unfold wordB at hw
    match wd, hw with
    | c :: r, hw =>
      simp only [Bool.and_eq_true, decide_eq_true_eq] at hw
      simp only [List.length_cons]; omega
theorem par_check {l : List UInt8} {f : Fo} (h : parF l = .ok f) : chkE f = 0 := by
  obtain ⟨h1, h2⟩ := par_okA h
  have hn := f.count_nest
  unfold chkE
  rw [roomF_ok f _ _ h1 (by omega), if_neg (by omega)]
end Go.Proofs.YtinjhnflnfpoeaaGreatDoor
