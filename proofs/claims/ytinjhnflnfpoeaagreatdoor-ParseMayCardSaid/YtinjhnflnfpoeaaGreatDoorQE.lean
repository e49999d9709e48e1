/-
  The walk of ParseDeep: it is true; under: the tables hold what the program lays (LaidW).
-/
import Derived.Test.YtinjhnflnfpoeaaGreatDoorQA
import Derived.Test.YtinjhnflnfpoeaaGreatDoorQB
namespace Go.Proofs.YtinjhnflnfpoeaaGreatDoor
open Go Go.RowKit Go.Joins

theorem foP : Tryz.prog.underlying 26 = some (.struct (Tryz.prog.fieldsOf 26)) := by kernel_rfl
theorem siP : Tryz.prog.stoodInHeld 26 = false := by kernel_rfl
theorem egP : Tryz.prog.eqGuardType Tryz.prog.depth 26 = false := by kernel_rfl
theorem eqInP (x y : Pl) (w : World) : (Op.equalIn 10000 26 (plV x) (plV y)).run Tryz.prog w = .ok (decide (x = y)) w := by
  obtain ⟨x1, x2⟩ := x
  obtain ⟨y1, y2⟩ := y
  unfold plV
  rw [run_equalIn_agg w 9999 26 _ _ foP siP]
  simp [go_sem]
  by_cases h1 : x1 = y1 <;> by_cases h2 : x2 = y2 <;> simp [h1, h2] <;> omega
theorem eqP (x y : Pl) (w : World) : (binOp .eql 26 (plV x) (plV y)).run Tryz.prog w = .ok (.bool (decide (x = y))) w := by
  have := eqInP x y w
  unfold plV at this ⊢
  rw [run_eql_struct, this]; rfl
theorem neP (x y : Pl) (w : World) : (binOp .neq 26 (plV x) (plV y)).run Tryz.prog w = .ok (.bool (!decide (x = y))) w := by
  have := eqInP x y w
  unfold plV at this ⊢
  rw [run_neq_struct, this]; rfl
theorem guP (op : BinOp) (a b : Operand) (x y : Pl) (w : World) : (eqGuard op 26 a b (plV x) (plV y)).run Tryz.prog w = .ok () w := run_eqGuard_agg w op 26 a b _ _ egP

def repD (x : List UInt8) : Nat → List UInt8
  | 0 => []
  | n + 1 => repD x n ++ x
def txtD (n : Nat) : List UInt8 := (repD [97, 123] n ++ [98, 59]) ++ repD [125] n
def txtN (k : Nat) : List UInt8 := ([119] ++ repD [32, 49] k) ++ [59]
def firstN : Fo → Nat
  | .nil => 0
  | .cons _ ns _ _ _ => ns.length
def chkD (n : Nat) : Bool := match parN 40 (txtD n) with
  | .ok f => decide (n ≤ 5) && (f.depth == n + 1 && f.count == n + 1)
  | .bad p e => decide (6 ≤ n) && (p == ⟨1, 12⟩ && e == 6)
def chkN (k : Nat) : Bool := match parN 40 (txtN k) with
  | .ok f => decide (k ≤ 8) && (f.len == 1 && firstN f == k)
  | .bad p e => decide (9 ≤ k) && (p == ⟨1, 19⟩ && e == 7)
theorem chkD_all : ∀ n, n < 9 → chkD n = true ∧ (txtD n).length ≤ 40 := by decide +kernel
theorem chkN_all : ∀ k, k < 12 → chkN k = true ∧ (txtN k).length ≤ 40 := by decide +kernel
theorem deep_ok {n : Nat} (hn : n < 9) (h : n ≤ 5) : ∃ f, parF (txtD n) = .ok f ∧ f.depth = n + 1 ∧ f.count = n + 1 := by
  obtain ⟨h1, h2⟩ := chkD_all n hn
  rw [parN_eq 40 _ h2]
  unfold chkD at h1
  generalize parN 40 (txtD n) = x at *
  match x with
  | .ok f => simp at h1; exact ⟨f, rfl, h1.2.1, h1.2.2⟩
  | .bad p e => simp at h1; omega
theorem deep_no {n : Nat} (hn : n < 9) (h : ¬ n ≤ 5) : parF (txtD n) = .bad ⟨1, 12⟩ 6 := by
  obtain ⟨h1, h2⟩ := chkD_all n hn
  rw [parN_eq 40 _ h2]
  unfold chkD at h1
  generalize parN 40 (txtD n) = x at *
  match x with
  | .ok f => simp at h1; omega
  | .bad p e => simp at h1; rw [h1.2.1, h1.2.2]
theorem nums_ok {k : Nat} (hk : k < 12) (h : k ≤ 8) : ∃ f, parF (txtN k) = .ok f ∧ f.len = 1 ∧ firstN f = k := by
  obtain ⟨h1, h2⟩ := chkN_all k hk
  rw [parN_eq 40 _ h2]
  unfold chkN at h1
  generalize parN 40 (txtN k) = x at *
  match x with
  | .ok f => simp at h1; exact ⟨f, rfl, h1.2.1, h1.2.2⟩
  | .bad p e => simp at h1; omega
theorem nums_no {k : Nat} (hk : k < 12) (h : ¬ k ≤ 8) : parF (txtN k) = .bad ⟨1, 19⟩ 7 := by
  obtain ⟨h1, h2⟩ := chkN_all k hk
  rw [parN_eq 40 _ h2]
  unfold chkN at h1
  generalize parN 40 (txtN k) = x at *
  match x with
  | .ok f => simp at h1; omega
  | .bad p e => simp at h1; rw [h1.2.1, h1.2.2]
end Go.Proofs.YtinjhnflnfpoeaaGreatDoor
