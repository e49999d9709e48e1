/-
  Plain words of the parser, without the model's runs: forests of statements, how many and how deep they are, all of them flat, and what tokens are read as; and what follows of them alone. No condition.
-/
import Derived.Test.YtinjhnflnfpoeaaGreatDoorLP
namespace Go.Proofs.YtinjhnflnfpoeaaGreatDoor
open Go

/-- Statements that stand one behind the other: a word, numbers, whether there is a block, those in it, and those behind. -/
inductive Fo where
  | nil : Fo
  | cons (word : List UInt8) (nums : List (Int × Bool)) (block : Bool) (body next : Fo) : Fo
deriving DecidableEq

namespace Fo
def len : Fo → Nat
  | nil => 0
  | cons _ _ _ _ n => n.len + 1
def app : Fo → Fo → Fo
  | nil, g => g
  | cons w ns b y n, g => cons w ns b y (n.app g)
def count : Fo → Nat
  | nil => 0
  | cons _ _ _ y n => 1 + y.count + n.count
def depth : Fo → Nat
  | nil => 0
  | cons _ _ b y n => max (1 + max y.depth (if b then 1 else 0)) n.depth
def flat : Fo → Fo
  | nil => nil
  | cons w ns b y n => cons w ns b nil (y.flat.app n.flat)
theorem app_nil (f : Fo) : f.app nil = f := by
  induction f with
  | nil => rfl
  | cons w ns b y n _ ih => rw [app, ih]
theorem app_assoc (f g h : Fo) : (f.app g).app h = f.app (g.app h) := by
  induction f with
  | nil => rfl
  | cons w ns b y n _ ih => rw [app, app, app, ih]
theorem len_app (f g : Fo) : (f.app g).len = f.len + g.len := by
  induction f with
  | nil => simp [app, len]
  | cons w ns b y n _ ih => rw [app, len, ih, len]; omega
theorem count_app (f g : Fo) : (f.app g).count = f.count + g.count := by
  induction f with
  | nil => simp [app, count]
  | cons w ns b y n _ ih => rw [app, count, ih, count]; omega
theorem depth_app (f g : Fo) : (f.app g).depth = max f.depth g.depth := by
  induction f with
  | nil => simp [app, depth]
  | cons w ns b y n _ ih => rw [app, depth, ih, depth]; omega
theorem flat_app (f g : Fo) : (f.app g).flat = f.flat.app g.flat := by
  induction f with
  | nil => rfl
  | cons w ns b y n _ ih => rw [app, flat, ih, flat, app, app_assoc]
theorem len_flat (f : Fo) : f.flat.len = f.count := by
  induction f with
  | nil => rfl
  | cons w ns b y n ih1 ih2 => rw [flat, len, len_app, ih1, ih2, count]; omega
theorem len_le (f : Fo) : f.len ≤ f.count := by
  induction f with
  | nil => exact Nat.le_refl _
  | cons w ns b y n ih1 ih2 => rw [len, count]; omega
end Fo

/-- What is read: the statements, how many have begun, and what is left; or what is wrong, and what is left there. -/
inductive Res where
  | ok (f : Fo) (many : Nat) (rest : List Tk)
  | bad (e : Nat) (rest : List Tk)

def isW (t : Tk) : Bool := decide (t.kind = 1)
def isN (t : Tk) : Bool := decide (t.kind = 2)
def numT (t : Tk) : Int × Bool := (t.n, t.time)
/-- what is wrong with the token that is next -/
def wrongE : List Tk → Nat
  | [] => 3
  | _ :: _ => 4
def numsF (ts : List Tk) : List (Int × Bool) := (ts.takeWhile isN).map numT
def restF (ts : List Tk) : List Tk := ts.dropWhile isN
def fewN (ts : List Tk) : Bool := decide ((ts.takeWhile isN).length ≤ 8)

section
variable (L : Nat → Nat → List Tk → Res)
/-- a block behind its { : statements, and } -/
def blkF (deep many : Nat) (ts : List Tk) : Res :=
  match L deep many ts with
  | .bad e r => .bad e r
  | .ok f m r => match r with
    | [] => .bad 3 []
    | c :: r3 => if c.kind = 3 ∧ c.s = [125] then .ok f m r3 else .bad 4 (c :: r3)
/-- what follows a word and its numbers -/
def endF (wd : List UInt8) (ns : List (Int × Bool)) (deep many : Nat) (r : List Tk) : Res :=
  match r with
  | [] => .bad 3 []
  | s :: r2 =>
    if s.kind = 1 then .bad 4 (s :: r2)
    else if s.s = [59] then .ok (.cons wd ns false .nil .nil) many r2
    else if s.s = [123] then
      if 6 ≤ deep then .bad 6 (s :: r2)
      else match blkF L (deep + 1) many r2 with
        | .bad e r3 => .bad e r3
        | .ok f m r3 => .ok (.cons wd ns true f .nil) m r3
    else .bad 4 (s :: r2)
/-- a statement, its word apart -/
def stmF (wd : List UInt8) (deep many : Nat) (ts : List Tk) : Res :=
  if fewN ts then endF L wd (numsF ts) deep many (restF ts) else .bad 7 (ts.drop 8)
end

/-- the statements ahead of the first token that begins none -/
def lstF : Nat → Nat → Nat → List Tk → Res
  | 0, _, many, ts => .ok .nil many ts
  | _ + 1, _, many, [] => .ok .nil many []
  | n + 1, deep, many, t :: r =>
    if t.kind = 1 then
      if many = 2000 then .bad 7 (t :: r)
      else match stmF (lstF n) t.s deep (many + 1) r with
        | .bad e r2 => .bad e r2
        | .ok x m r2 => match lstF n deep m r2 with
          | .bad e r3 => .bad e r3
          | .ok f m2 r3 => .ok (x.app f) m2 r3
    else .ok .nil many (t :: r)

def preR (acc : Fo) : Res → Res
  | .ok f m r => .ok (acc.app f) m r
  | .bad e r => .bad e r
theorem preR_nil (x : Res) : preR .nil x = x := by cases x <;> rfl
theorem preR_app (a b : Fo) (x : Res) : preR a (preR b x) = preR (a.app b) x := by
  cases x with
  | ok f m r => simp only [preR, Fo.app_assoc]
  | bad e r => rfl

/-- all of a text's tokens -/
def allF (ts : List Tk) : Res :=
  match lstF ts.length 1 0 ts with
  | .bad e r => .bad e r
  | .ok f m r => match r with
    | [] => .ok f m []
    | c :: r2 => .bad 4 (c :: r2)

/-! ### What is left grows shorter -/
def Short (ts : List Tk) : Res → Prop
  | .ok _ _ r => ∃ p, ts = p ++ r
  | .bad _ r => ∃ p, ts = p ++ r
theorem short_more {p ts : List Tk} {x : Res} (h : Short ts x) : Short (p ++ ts) x := by
  cases x with
  | ok f m r => obtain ⟨q, rfl⟩ := h; exact ⟨p ++ q, by simp⟩
  | bad e r => obtain ⟨q, rfl⟩ := h; exact ⟨p ++ q, by simp⟩
theorem short_bad (e : Nat) (ts : List Tk) : Short ts (.bad e ts) := ⟨[], rfl⟩
theorem short_ok (f : Fo) (m : Nat) (ts : List Tk) : Short ts (.ok f m ts) := ⟨[], rfl⟩
section
variable {L : Nat → Nat → List Tk → Res}
theorem blk_short (hL : ∀ d m ts, Short ts (L d m ts)) (d m : Nat) (ts : List Tk) : Short ts (blkF L d m ts) := by
  have h := hL d m ts
  unfold blkF
  generalize L d m ts = x at h
  match x with
  | .bad e r => exact h
  | .ok f m r =>
    match r with
    | [] => exact h
    | c :: r3 =>
      simp only
      split
      · obtain ⟨p, rfl⟩ := h
        exact ⟨p ++ [c], by simp⟩
      · exact h
theorem end_short (hL : ∀ d m ts, Short ts (L d m ts)) (wd : List UInt8) (ns : List (Int × Bool)) (d m : Nat) (ts : List Tk) : Short ts (endF L wd ns d m ts) := by
  unfold endF
  match ts with
  | [] => exact ⟨[], rfl⟩
  | s :: r2 =>
    simp only
    split
    · exact short_bad _ _
    split
    · exact ⟨[s], rfl⟩
    split
    · split
      · exact short_bad _ _
      · have h := short_more (p := [s]) (blk_short hL (d + 1) m r2)
        generalize blkF L (d + 1) m r2 = x at h
        cases x <;> exact h
    · exact short_bad _ _
theorem stm_short (hL : ∀ d m ts, Short ts (L d m ts)) (wd : List UInt8) (d m : Nat) (ts : List Tk) : Short ts (stmF L wd d m ts) := by
  unfold stmF
  split
  · have h := short_more (p := ts.takeWhile isN) (end_short hL wd (numsF ts) d m (restF ts))
    rwa [restF, List.takeWhile_append_dropWhile] at h
  · exact ⟨ts.take 8, (List.take_append_drop 8 ts).symm⟩
end
theorem lst_short : ∀ (n d m : Nat) (ts : List Tk), Short ts (lstF n d m ts)
  | 0, d, m, ts => short_ok _ _ _
  | n + 1, d, m, [] => short_ok _ _ _
  | n + 1, d, m, t :: r => by
    unfold lstF
    split
    · split
      · exact short_bad _ _
      · have h := short_more (p := [t]) (stm_short (lst_short n) t.s d (m + 1) r)
        generalize stmF (lstF n) t.s d (m + 1) r = x at h
        match x with
        | .bad e r2 => exact h
        | .ok x m r2 =>
          obtain ⟨p, hp⟩ := h
          have h2 := short_more (p := p) (lst_short n d m r2)
          rw [← hp] at h2
          simp only
          generalize lstF n d m r2 = y at h2
          cases y <;> exact h2
    · exact short_ok _ _ _

/-! ### How many have begun -/
def Many (m0 : Nat) : Res → Prop
  | .ok f m _ => m = m0 + f.count ∧ (m0 ≤ 2000 → m ≤ 2000)
  | .bad _ _ => True
section
variable {L : Nat → Nat → List Tk → Res}
theorem blk_many (hL : ∀ d m ts, Many m (L d m ts)) (d m : Nat) (ts : List Tk) : Many m (blkF L d m ts) := by
  have h := hL d m ts
  unfold blkF
  generalize L d m ts = x at h
  match x with
  | .bad e r => trivial
  | .ok f m r =>
    match r with
    | [] => trivial
    | c :: r3 =>
      simp only
      split
      · exact h
      · trivial
theorem end_one (hL : ∀ d m ts, Many m (L d m ts)) {wd : List UInt8} {ns : List (Int × Bool)} {d m : Nat} {ts : List Tk} {f : Fo} {m2 : Nat} {r : List Tk} (h : endF L wd ns d (m + 1) ts = .ok f m2 r) : f.len = 1 ∧ m2 = m + f.count ∧ (m + 1 ≤ 2000 → m2 ≤ 2000) := by
  unfold endF at h
  match ts with
  | [] => cases h
  | s :: r2 =>
    simp only at h
    split at h
    · cases h
    split at h
    · cases h
      exact ⟨rfl, by simp [Fo.count], fun h => h⟩
    split at h
    · split at h
      · cases h
      · have hb := blk_many hL (d + 1) (m + 1) r2
        revert h hb
        generalize blkF L (d + 1) (m + 1) r2 = x
        match x with
        | .bad e r => intro h; cases h
        | .ok f m2 r =>
          intro h hb
          cases h
          exact ⟨rfl, by simp only [Fo.count]; have := hb.1; omega, hb.2⟩
    · cases h
theorem stm_one (hL : ∀ d m ts, Many m (L d m ts)) {wd : List UInt8} {d m : Nat} {ts : List Tk} {f : Fo} {m2 : Nat} {r : List Tk} (h : stmF L wd d (m + 1) ts = .ok f m2 r) : f.len = 1 ∧ m2 = m + f.count ∧ (m + 1 ≤ 2000 → m2 ≤ 2000) := by
  unfold stmF at h
  split at h
  · exact end_one hL h
  · cases h
end
theorem lst_many : ∀ (n d m : Nat) (ts : List Tk), Many m (lstF n d m ts)
  | 0, d, m, ts => ⟨by simp [Fo.count], fun h => h⟩
  | n + 1, d, m, [] => ⟨by simp [Fo.count], fun h => h⟩
  | n + 1, d, m, t :: r => by
    unfold lstF
    split
    · split
      · trivial
      · rename_i hm
        have h : ∀ x, stmF (lstF n) t.s d (m + 1) r = x → Many m (match x with
          | .bad e r2 => .bad e r2
          | .ok x m r2 => match lstF n d m r2 with
            | .bad e r3 => .bad e r3
            | .ok f m2 r3 => .ok (x.app f) m2 r3) := by
          intro x hx
          match x with
          | .bad e r2 => trivial
          | .ok x m1 r2 =>
            have h1 := stm_one (fun d m ts => lst_many n d m ts) hx
            have h2 := lst_many n d m1 r2
            simp only
            generalize lstF n d m1 r2 = y at h2
            match y with
            | .bad e r3 => trivial
            | .ok f m2 r3 => exact ⟨by rw [Fo.count_app, h2.1]; omega, fun h => h2.2 (h1.2.2 (by omega))⟩
        exact h _ rfl
    · exact ⟨by simp [Fo.count], fun h => h⟩
end Go.Proofs.YtinjhnflnfpoeaaGreatDoor
