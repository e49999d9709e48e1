/-
  One field of a guardian's variable stored: whether it is on.
-/
import Derived.Test.YtpncbfhbiifncaaVG
namespace Go.Proofs.Ytpncbfhbiifncaa
open Go Go.RowKit
section
variable {w w' : World} {g : Nat} {x : Gd} {ops : Array Oper} {rest : List Oper} {o : Oper} {a : Act} {Q : Exit → Act → World → Prop}
/-- One cell stored. -/
theorem wpList_st1 (hg : o.guard = none) (ty : TypeId) (y z : Operand) (ho : o.op = .store ty y z) (j : Nat) (v : Value) (hx : a.eval y = .pointer (some ⟨g, j, none⟩)) (hy : a.eval z = v) (hc : v.cells = #[v]) (h1 : v.oneCell' = true) (hs : (Try.prog.info? ty).map (·.size) = some 1)
    (hv : w.there g 0 4) (hj : j < 4) (h : wpList Try.prog ops Q rest (a.put o.dst undef) (w.setCells g j [v])) : wpList Try.prog ops Q (o :: rest) a w := by
  refine wpList_plain hg fun K hK => ?_
  have ht : w.there g j 1 := fun i hi => by have := hv (j + i) (by omega); rwa [Nat.zero_add] at this
  have := run_storeCells_cells (P := Try.prog) g j [v] 0 w (fun i hi => by simpa using (ht i (by simpa using hi)).1) (fun i hi => by simpa using (ht i (by simpa using hi)).2) (fun u hu => by simp at hu; rw [hu]; exact h1)
  unfold Oper.wp execOp
  cases hq : Try.prog.info? ty with
  | none => simp [hq] at hs
  | some i =>
    have hz : i.size = 1 := by simpa [hq] using hs
    simp only [Nat.add_zero] at this
    have hsv : (storeVar ty ⟨g, j, none⟩ v).run Try.prog w = .ok () (w.setCells g j [v]) := by
      simp [storeVar, sizeOf, typeInfo, hq, hc, hz, this]
    simp only [ho, hx, hy, Instr.storeAt, Instr.sureAddr, Sem.run_bind, Sem.run_pure, Result.andThen_ok, hsv]
    exact hK _ _ h
theorem range_set {cs : List Value} {j : Nat} {v : Value} (h : w.rangeAt g 0 cs) (ht : w.there g 0 cs.length) (hj : j < cs.length) : (w.setCells g j [v]).rangeAt g 0 (cs.set j v) := by
  intro i u hu
  rw [Nat.zero_add]
  have hil : i < cs.length := by have := (List.getElem?_eq_some_iff.1 hu).1; simpa using this
  by_cases e : i = j
  · subst e
    have h2 := World.rangeAt_setCells_same w g i [v] (fun k hk => by have := ht (i + k) (by simp at hk; omega); rwa [Nat.zero_add] at this) 0 v rfl
    rw [List.getElem?_set_self hil] at hu
    injection hu with hu; subst hu; simpa using h2
  · rw [List.getElem?_set_ne (by omega)] at hu
    have h2 : w.rangeAt g i [u] := fun k x hx => by
      rcases k with _ | k
      · simp at hx; subst hx; have := h i _ hu; rwa [Nat.zero_add] at this
      · simp at hx
    have h3 := World.rangeAt_setCells_apart h2 g j [v] (by simp; omega) 0 u rfl
    simpa using h3
theorem size4 : (Try.prog.info? 4).map (·.size) = some 1 := by kernel_rfl
theorem wpList_son (hg : o.guard = none) (y z : Operand) (ho : o.op = .store 4 y z) {v : Bool} (hx : a.eval y = .pointer (some ⟨g, 0, none⟩)) (hy : a.eval z = .bool v) (hv : VarG w g x)
    (h : ∀ w', VarG w' g ⟨v, x.k, x.s, x.a⟩ → Below g w w' → Oth g w w' → Hid (w'.heap.size = w.heap.size) → wpList Try.prog ops Q rest (a.put o.dst undef) w') : wpList Try.prog ops Q (o :: rest) a w :=
  wpList_st1 hg 4 y z ho 0 (.bool v) hx hy rfl rfl size4 hv.2 (by omega) (h _ ⟨range_set (cs := encg x) hv.1 hv.2 (by rw [encg_len]; omega), there_set _ _ hv.2⟩ (setCells_oth g _ _ _).1 (setCells_oth g _ _ _).2 (hid (setCells_size _ _ _ _)))
end
end Go.Proofs.Ytpncbfhbiifncaa
