/-
  Plain words of campaigns, without the model's runs: what the statements of a word are, whether one may be by itself, where those that may stand once stand, what world statements tell of, and whether statements are a campaign. No condition.
-/
import Derived.Test.YtpkoboohnbkpoaaGreatDoorK2
namespace Go.Proofs.YtpkoboohnbkpoaaGreatDoor
open Go

/-- What a number is to be: whether it is a time, and from what to what. -/
structure Nr where
  time : Bool
  lo : Int
  hi : Int
deriving DecidableEq
/-- What the statements of a word are. -/
structure Fm where
  nums : List Nr
  nodes : Nat
  world : Bool
  block : Bool
deriving DecidableEq
/-- One statement without what is in it. -/
structure St where
  w : List UInt8
  ns : List (Int × Bool)
  b : Bool
deriving DecidableEq

def wNodes : List UInt8 := [110, 111, 100, 101, 115]
def wTick : List UInt8 := [116, 105, 99, 107]
def wSlot : List UInt8 := [115, 108, 111, 116]
def wHorizon : List UInt8 := [104, 111, 114, 105, 122, 111, 110]
def wDrift : List UInt8 := [100, 114, 105, 102, 116]
def wDelay : List UInt8 := [100, 101, 108, 97, 121]
def wPower : List UInt8 := [112, 111, 119, 101, 114]
def wGuard : List UInt8 := [103, 117, 97, 114, 100]
def wSilence : List UInt8 := [115, 105, 108, 101, 110, 99, 101]
def wCorrupt : List UInt8 := [99, 111, 114, 114, 117, 112, 116]
def wCut : List UInt8 := [99, 117, 116]
def wBabble : List UInt8 := [98, 97, 98, 98, 108, 101]
def wCrash : List UInt8 := [99, 114, 97, 115, 104]
def wRepeat : List UInt8 := [114, 101, 112, 101, 97, 116]

def nNode : Nr := ⟨false, 0, 15⟩
def nTicks : Nr := ⟨false, 1, 1048576⟩
def nWhen : Nr := ⟨true, 0, 1125899906842624⟩
def nPeriod : Nr := ⟨true, 1, 1000000000⟩
def nDrift : Nr := ⟨false, -1000000, 1000000⟩

/-- The words and what their statements are. -/
def tab : List (List UInt8 × Fm) := [
  (wNodes, ⟨[⟨false, 2, 16⟩], 0, true, false⟩),
  (wTick, ⟨[nPeriod], 0, true, false⟩),
  (wSlot, ⟨[nTicks, nTicks, nTicks, nTicks], 0, true, false⟩),
  (wHorizon, ⟨[nWhen], 0, true, false⟩),
  (wDrift, ⟨[nNode, nDrift], 1, true, false⟩),
  (wDelay, ⟨[nNode, nNode, ⟨true, 0, 1099511627776⟩], 2, true, false⟩),
  (wPower, ⟨[nNode, nWhen], 1, true, false⟩),
  (wGuard, ⟨[⟨false, 0, 1⟩], 0, true, false⟩),
  (wSilence, ⟨[nNode, nWhen, nWhen], 1, false, false⟩),
  (wCorrupt, ⟨[nNode, nWhen, nWhen], 1, false, false⟩),
  (wCut, ⟨[⟨false, 0, 1⟩, nWhen, nWhen], 0, false, false⟩),
  (wBabble, ⟨[nNode, nWhen], 1, false, false⟩),
  (wCrash, ⟨[nNode, nWhen], 1, false, false⟩),
  (wRepeat, ⟨[⟨false, 1, 1000⟩, nWhen], 0, false, true⟩)]
def formF (w : List UInt8) : Option Fm := (tab.find? (fun p => p.1 == w)).map (·.2)

def Nr.may (x : Nr) (n : Int) : Bool := decide (x.lo ≤ n) && decide (n ≤ x.hi)
/-- so many numbers, and of the kinds -/
def fitsL : List Nr → List (Int × Bool) → Bool
  | [], [] => true
  | x :: xs, n :: ns => (n.2 == x.time) && fitsL xs ns
  | _, _ => false
def mayL : List Nr → List (Int × Bool) → Bool
  | x :: xs, n :: ns => x.may n.1 && mayL xs ns
  | _, _ => true
/-- The nodes that a statement names. -/
def Fm.named (f : Fm) (ns : List (Int × Bool)) : List (Int × Bool) := ns.take f.nodes
def twoB : List (Int × Bool) → Bool
  | a :: b :: _ => a.1 != b.1
  | _ => true
def Fm.holds (f : Fm) (ns : List (Int × Bool)) : Bool := mayL f.nums ns && twoB (f.named ns)
/-- What is wrong with a statement by itself. -/
def oneE (x : St) : Nat :=
  match formF x.w with
  | none => 4
  | some f => if (x.b != f.block) || !fitsL f.nums x.ns then 4 else if f.holds x.ns then 0 else 1
def St.world (x : St) : Bool := match formF x.w with | none => false | some f => f.world
def St.named (x : St) : List (Int × Bool) := match formF x.w with | none => [] | some f => f.named x.ns
/-- By what one that may stand once is told apart. -/
structure Ky where
  w : List UInt8
  n0 : Int
  n1 : Int
deriving DecidableEq
def keyN (l : List (Int × Bool)) (k : Nat) : Int := ((l[k]?).map (·.1)).getD 0
def St.key (x : St) : Ky := ⟨x.w, keyN x.named 0, keyN x.named 1⟩

/-- Where those that may stand once stand; or the first one that is wrong. -/
inductive Sd where
  | bad (at_ e : Nat)
  | ok (ks : List (Ky × Nat))
deriving DecidableEq
def standF : List (St × Bool) → Nat → List (Ky × Nat) → Sd
  | [], _, ks => .ok ks
  | (x, i) :: r, at_, ks =>
    if oneE x ≠ 0 then .bad at_ (oneE x)
    else if x.world = false then standF r (at_ + 1) ks
    else if i then .bad at_ 4
    else if ks.any (fun p => p.1 == x.key) then .bad at_ 7
    else standF r (at_ + 1) (ks ++ [(x.key, at_)])

/-- A world. -/
structure Cf where
  nodes : Int
  slot : Int
  lead : Int
  frame : Int
  window : Int
  tick : Int
  horizon : Int
  drift : List Int
  power : List Int
  delay : List (List Int)
  guard : Bool
deriving DecidableEq
def nAt (l : List (Int × Bool)) (k : Nat) : Int := ((l[k]?).map (·.1)).getD 0
def tellS (c : Cf) (x : St) : Cf :=
  if x.w = wNodes then { c with nodes := nAt x.ns 0 }
  else if x.w = wTick then { c with tick := nAt x.ns 0 }
  else if x.w = wSlot then { c with slot := nAt x.ns 0, lead := nAt x.ns 1, frame := nAt x.ns 2, window := nAt x.ns 3 }
  else if x.w = wHorizon then { c with horizon := nAt x.ns 0 }
  else if x.w = wDrift then { c with drift := c.drift.set (nAt x.ns 0).toNat (nAt x.ns 1) }
  else if x.w = wDelay then { c with delay := c.delay.modify (nAt x.ns 0).toNat (fun r => r.set (nAt x.ns 1).toNat (nAt x.ns 2)) }
  else if x.w = wPower then { c with power := c.power.set (nAt x.ns 0).toNat (nAt x.ns 1) }
  else if x.w = wGuard then { c with guard := decide (nAt x.ns 0 = 1) }
  else c
def cf0 : Cf := ⟨0, 0, 0, 0, 0, 0, 0, List.replicate 16 0, List.replicate 16 0, List.replicate 16 (List.replicate 16 0), false⟩
def Cf.cut (c : Cf) : Cf := { c with drift := c.drift.take c.nodes.toNat, power := c.power.take c.nodes.toNat, delay := (c.delay.take c.nodes.toNat).map (fun r => r.take c.nodes.toNat) }
def toldF (l : List St) : Cf := (l.foldl tellS cf0).cut
/-- The world of nothing at all. -/
def cfZ : Cf := ⟨0, 0, 0, 0, 0, 0, 0, [], [], [], false⟩

/-- May the schedule be? -/
def Cf.okM (c : Cf) : Bool := decide (2 ≤ c.nodes ∧ c.nodes ≤ 16 ∧ 16 ≤ c.slot ∧ c.slot ≤ 1048576 ∧ 1 ≤ c.lead ∧ 1 ≤ c.frame ∧ 1 ≤ c.window ∧ c.window ≤ c.lead ∧ c.lead + c.frame + c.window < c.slot)

namespace Fo
/-- All of them, one behind the other. -/
def flatL : Fo → List St
  | nil => []
  | cons w ns b y n => ⟨w, ns, b⟩ :: (y.flatL ++ n.flatL)
def topL : Fo → List St
  | nil => []
  | cons w ns b _ n => ⟨w, ns, b⟩ :: n.topL
/-- Of each whether it is in a block. -/
def inL : Fo → List Bool
  | nil => []
  | cons _ _ _ y n => false :: (List.replicate y.count true ++ n.inL)
theorem flatL_len (f : Fo) : f.flatL.length = f.count := by
  induction f with
  | nil => rfl
  | cons w ns b y n ih1 ih2 => simp only [flatL, List.length_cons, List.length_append, ih1, ih2, count]; omega
theorem inL_len (f : Fo) : f.inL.length = f.count := by
  induction f with
  | nil => rfl
  | cons w ns b y n _ ih => simp only [inL, List.length_cons, List.length_append, List.length_replicate, ih, count]; omega
theorem topL_len (f : Fo) : f.topL.length = f.len := by
  induction f with
  | nil => rfl
  | cons w ns b y n _ ih => simp only [topL, List.length_cons, ih, len]
theorem flatL_app (f g : Fo) : (f.app g).flatL = f.flatL ++ g.flatL := by
  induction f with
  | nil => rfl
  | cons w ns b y n _ ih => simp only [app, flatL, ih, List.cons_append, List.append_assoc]
theorem topL_app (f g : Fo) : (f.app g).topL = f.topL ++ g.topL := by
  induction f with
  | nil => rfl
  | cons w ns b y n _ ih => simp only [app, topL, ih, List.cons_append]
theorem inL_app (f g : Fo) : (f.app g).inL = f.inL ++ g.inL := by
  induction f with
  | nil => rfl
  | cons w ns b y n _ ih => simp only [app, inL, ih, List.cons_append, List.append_assoc]
/-- what is flat has no blocks -/
theorem flat_topL (f : Fo) : f.flat.topL = f.flatL := by
  induction f with
  | nil => rfl
  | cons w ns b y n ih1 ih2 => simp only [flat, topL, topL_app, ih1, ih2, flatL]
end Fo

def firstFour : List (List UInt8) := [wNodes, wTick, wSlot, wHorizon]
def hasW (ks : List (Ky × Nat)) (w : List UInt8) : Bool := ks.any (fun p => p.1 == ⟨w, 0, 0⟩)
def posW (ks : List (Ky × Nat)) (w : List UInt8) : Nat := ((ks.find? (fun p => p.1 == ⟨w, 0, 0⟩)).map (·.2)).getD 0
/-- Does it name a node that there is not? -/
def St.beyond (m : Int) (x : St) : Bool := x.named.any (fun n => decide (m ≤ n.1))
end Go.Proofs.YtpkoboohnbkpoaaGreatDoor
