/-
  Tallies compared ('==', '!='), and loaded in a quiet region. No condition but what each head says.
-/
import Derived.Test.YtbfaebobainhjaaH
import Derived.Test.YtbfaebobainhjaaU
import Derived.Test.YtbfaebobainhjaaG
import Derived.Laws.StructEq
import Derived.Deep.RegionHeld3
import Derived.Deep.DeepCutAuto
namespace Go.Proofs.Ytbfaebobainhjaa
open Go Go.RowKit
theorem fo29 : Try.prog.underlying 29 = some (.struct (Try.prog.fieldsOf 29)) := by kernel_rfl
theorem si29 : Try.prog.stoodInHeld 29 = false := by kernel_rfl
theorem eg29 : Try.prog.eqGuardType Try.prog.depth 29 = false := by kernel_rfl
theorem eqTIn (x y : Ty) (w : World) : (Op.equalIn 10000 29 (tv x) (tv y)).run Try.prog w = .ok (decide (x = y)) w := by
  obtain ⟨x1, x2⟩ := x
  obtain ⟨y1, y2⟩ := y
  unfold tv enct
  rw [run_equalIn_agg w 9999 29 _ _ fo29 si29]
  simp [go_sem]
  by_cases h1 : x1 = y1 <;> by_cases h2 : x2 = y2 <;> simp [h1, h2]
theorem eqTy (x y : Ty) (w : World) : (binOp .eql 29 (tv x) (tv y)).run Try.prog w = .ok (.bool (decide (x = y))) w := by
  have := eqTIn x y w
  unfold tv at this ⊢
  rw [run_eql_struct, this]; rfl
theorem neTy (x y : Ty) (w : World) : (binOp .neq 29 (tv x) (tv y)).run Try.prog w = .ok (.bool (!decide (x = y))) w := by
  have := eqTIn x y w
  unfold tv at this ⊢
  rw [run_neq_struct, this]; rfl
theorem guTy (op : BinOp) (a b : Operand) (x y : Ty) (w : World) : (eqGuard op 29 a b (tv x) (tv y)).run Try.prog w = .ok () w := run_eqGuard_agg w op 29 a b _ _ eg29
theorem wpQuiet_ldt {ops : Array Oper} {w : World} {Q : Act → Prop} {o : Oper} {rest : List Oper} {a : Act} {y : Operand} {g : Nat} {x : Ty} (hw : Region.wanted o (yielded ops a.tmps) = true) (ho : o.op = .load 29 y)
    (hx : a.eval y = .pointer (some ⟨g, 0, none⟩)) (hr : VarT w g x) (h : wpQuiet Try.prog ops (fun w' => ∃ p : Regrown, w' = Sort.grow (redrawn w p.d) p.os) Q rest (a.put o.dst (tv x))) : wpQuiet Try.prog ops (fun w' => ∃ p : Regrown, w' = Sort.grow (redrawn w p.d) p.os) Q (o :: rest) a := by
  unfold wpQuiet
  rw [if_pos hw]
  refine ⟨tv x, fun w' hw' => ?_, h⟩
  unfold Oper.quietAt
  have : (execOp a.eval o).run Try.prog w' = .ok (.value (tv x)) w' := by
    unfold execOp
    have := ldtv (hr.keep (Cl.below hw'))
    simp only [ho, hx, Instr.loadAt, Instr.sureAddr, Sem.run_bind, Sem.run_pure, Result.andThen_ok, this]
  rw [this]
  exact ⟨rfl, rfl⟩
theorem wpQuiet_eqt {ops : Array Oper} {w : World} {Q : Act → Prop} {o : Oper} {rest : List Oper} {a : Act} {y z : Operand} {x x' : Ty} {tl : TypeId} (hw : Region.wanted o (yielded ops a.tmps) = true) (ho : o.op = .binOp .eql 29 y z tl)
    (hx : a.eval y = tv x) (hy : a.eval z = tv x') (h : wpQuiet Try.prog ops (fun w' => ∃ p : Regrown, w' = Sort.grow (redrawn w p.d) p.os) Q rest (a.put o.dst (.bool (decide (x = x'))))) : wpQuiet Try.prog ops (fun w' => ∃ p : Regrown, w' = Sort.grow (redrawn w p.d) p.os) Q (o :: rest) a := by
  unfold wpQuiet
  rw [if_pos hw]
  refine ⟨_, fun w' hw' => ?_, h⟩
  unfold Oper.quietAt
  have : (execOp a.eval o).run Try.prog w' = .ok (.value (.bool (decide (x = x')))) w' := by
    unfold execOp
    simp only [ho, hx, hy, Sem.run_bind, guTy, eqTy, Sem.run_pure, Result.andThen_ok]
  rw [this]
  exact ⟨rfl, rfl⟩
end Go.Proofs.Ytbfaebobainhjaa
