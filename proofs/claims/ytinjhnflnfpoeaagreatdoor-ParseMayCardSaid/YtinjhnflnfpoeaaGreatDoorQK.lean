/-
  Plain words: the words and numbers of what is parsed are the tokens' in their order. No model's run; no condition.
-/
import Derived.Test.YtinjhnflnfpoeaaGreatDoorQH
namespace Go.Proofs.YtinjhnflnfpoeaaGreatDoor
open Go

abbrev Sig := List (List UInt8 ⊕ (Int × Bool))
/-- A text's words and numbers, in order. -/
def sigT (ts : List Tk) : Sig := ts.flatMap fun t => if t.kind = 1 then [.inl t.s] else if t.kind = 2 then [.inr (numT t)] else []
theorem sigT_cons (t : Tk) (r : List Tk) : sigT (t :: r) = (if t.kind = 1 then [.inl t.s] else if t.kind = 2 then [.inr (numT t)] else []) ++ sigT r := rfl
theorem sigT_app (a b : List Tk) : sigT (a ++ b) = sigT a ++ sigT b := List.flatMap_append
def Fo.sig : Fo → Sig
  | .nil => []
  | .cons w ns _ y n => .inl w :: (ns.map .inr ++ (y.sig ++ n.sig))
theorem Fo.sig_app (f g : Fo) : (f.app g).sig = f.sig ++ g.sig := by
  induction f with
  | nil => rfl
  | cons w ns b y n _ ih => rw [app, sig, ih, sig]; simp
def Fo.prs : Fo → List (List UInt8 × List (Int × Bool))
  | .nil => []
  | .cons w ns _ _ n => (w, ns) :: n.prs
theorem Fo.prs_app (f g : Fo) : (f.app g).prs = f.prs ++ g.prs := by
  induction f with
  | nil => rfl
  | cons w ns b y n _ ih => rw [app, prs, ih, prs]; rfl
theorem Fo.prs_len (f : Fo) : f.prs.length = f.len := by
  induction f with
  | nil => rfl
  | cons w ns b y n _ ih => rw [prs, len, List.length_cons, ih]
def sigL (L : List (List UInt8 × List (Int × Bool))) : Sig := L.flatMap fun x => .inl x.1 :: x.2.map .inr
theorem sigL_cons (x : List UInt8 × List (Int × Bool)) (L : List (List UInt8 × List (Int × Bool))) : sigL (x :: L) = .inl x.1 :: (x.2.map .inr ++ sigL L) := rfl
theorem Fo.sig_prs (f : Fo) : sigL f.flat.prs = f.sig := by
  induction f with
  | nil => rfl
  | cons w ns b y n ih1 ih2 => rw [flat, prs, prs_app, sigL_cons, show sigL (y.flat.prs ++ n.flat.prs) = sigL y.flat.prs ++ sigL n.flat.prs from List.flatMap_append, ih1, ih2, sig]
theorem sigT_nums (ts : List Tk) (h : ∀ t ∈ ts, isN t = true) : sigT ts = (ts.map numT).map .inr := by
  induction ts with
  | nil => rfl
  | cons t r ih =>
    have h2 : t.kind = 2 := by simpa [isN] using h t (List.mem_cons_self ..)
    rw [sigT_cons, if_neg (by omega), if_pos h2, ih fun x hx => h x (List.mem_cons_of_mem _ hx)]
    rfl

def SigR (x : Sig) : Res → Prop
  | .ok f _ r => x = f.sig ++ sigT r
  | .bad _ _ => True
theorem end_sig {L : Nat → Nat → List Tk → Res} (hL : ∀ d m ts, SigR (sigT ts) (L d m ts)) (wd : List UInt8) (ns : List (Int × Bool)) (d m : Nat) (ts : List Tk) (hh : ∀ s r, ts = s :: r → isN s = false) :
    SigR (.inl wd :: (ns.map .inr ++ sigT ts)) (endF L wd ns d m ts) := by
  unfold endF
  match ts, hh with
  | [], _ => trivial
  | s :: r2, hh =>
    have h2 : ¬ s.kind = 2 := by simpa [isN] using hh s r2 rfl
    simp only
    split
    · trivial
    rename_i h1
    have hs : sigT (s :: r2) = sigT r2 := by rw [sigT_cons, if_neg h1, if_neg h2]; rfl
    split
    · simp only [SigR, Fo.sig, hs, List.append_nil, List.cons_append]
    split
    · split
      · trivial
      · have hb : SigR (sigT r2) (blkF L (d + 1) m r2) := by
          unfold blkF
          have := hL (d + 1) m r2
          generalize L (d + 1) m r2 = X at *
          match X with
          | .bad e r => trivial
          | .ok f m r =>
            match r with
            | [] => trivial
            | c :: r3 =>
              simp only
              split
              · rename_i hc
                have e : sigT (c :: r3) = sigT r3 := by rw [sigT_cons, if_neg (by omega), if_neg (by omega)]; rfl
                show sigT r2 = _
                rw [show sigT r2 = f.sig ++ sigT (c :: r3) from this, e]
              · trivial
        generalize blkF L (d + 1) m r2 = X at *
        match X with
        | .bad e r => trivial
        | .ok f m r => simp only [SigR, Fo.sig, hs, List.append_nil, List.cons_append, List.append_assoc]; rw [show sigT r2 = f.sig ++ sigT r from hb]
    · trivial
theorem lst_sig : ∀ (n d m : Nat) (ts : List Tk), SigR (sigT ts) (lstF n d m ts)
  | 0, _, _, _ => rfl
  | n + 1, d, m, [] => rfl
  | n + 1, d, m, t :: r => by
    by_cases h1 : t.kind = 1
    · rw [lst_word n d m t r h1]
      have hs : SigR (sigT (t :: r)) (stmX (lstF n) d m t r) := by
        unfold stmX
        split
        · trivial
        · unfold stmF
          split
          · have := end_sig (lst_sig n) t.s (numsF r) d (m + 1) (restF r) (fun s q e => by
              have := List.head?_dropWhile_not isN r
              rw [show r.dropWhile isN = s :: q from e] at this
              simpa using this)
            have hr : sigT r = (numsF r).map .inr ++ sigT (restF r) := by
              conv => lhs; rw [← List.takeWhile_append_dropWhile (p := isN) (l := r), sigT_app]
              rw [sigT_nums _ (fun x hx => (List.all_eq_true.1 (List.all_takeWhile (l := r) (p := isN))) x hx)]; rfl
            generalize endF (lstF n) t.s (numsF r) d (m + 1) (restF r) = X at *
            match X with
            | .bad e r => trivial
            | .ok x m2 r2 => show sigT (t :: r) = _; rw [sigT_cons, if_pos h1, hr]; exact this
          · trivial
      generalize stmX (lstF n) d m t r = X at *
      match X with
      | .bad e r => trivial
      | .ok x m2 r2 =>
        simp only
        have := lst_sig n d m2 r2
        generalize lstF n d m2 r2 = Y at *
        match Y with
        | .bad e r => trivial
        | .ok f m r => show sigT (t :: _) = _; rw [Fo.sig_app, List.append_assoc, ← show sigT r2 = f.sig ++ sigT r from this]; exact hs
    · rw [lstF, if_neg h1]; rfl
theorem par_sig {l : List UInt8} {f : Fo} (h : parF l = .ok f) : sigT (toksF l) = sigL f.flat.prs := by
  unfold parF at h
  split at h
  · cases h
  split at h
  · cases h
  cases ha : allF (toksF l) with
  | bad er r => rw [ha] at h; cases h
  | ok f2 m2 r =>
    rw [ha] at h
    cases h
    have := lst_sig (toksF l).length 1 0 (toksF l)
    rw [show lstF (toksF l).length 1 0 (toksF l) = lst 1 0 (toksF l) from rfl, (all_ok ha).1] at this
    rw [Fo.sig_prs, show sigT (toksF l) = f.sig ++ sigT [] from this]; simp [sigT]
end Go.Proofs.YtinjhnflnfpoeaaGreatDoor
