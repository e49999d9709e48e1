/-
  A map whose keys are names (a text and two numbers): what a look-up and a store of a new key do to it. No condition but what each head says.
-/
import Derived.Test.YtpkoboohnbkpoaaGreatDoorJZQ
import Derived.Laws.StructEq
namespace Go.Proofs.YtpkoboohnbkpoaaGreatDoor
open Go Go.RowKit Go.Maps

theorem foKy : Tryz.prog.underlying 95 = some (.struct (Tryz.prog.fieldsOf 95)) := by kernel_rfl
theorem siKy : Tryz.prog.stoodInHeld 95 = false := by kernel_rfl
theorem chk_ky (em : Bool) (k : Ky) (w : World) : (Instr.checkKey em 10000 95 (kyS.val k)).run Tryz.prog w = .ok () w := by cases em <;> kernel_rfl
theorem eq_ar (x2 x3 y2 y3 : Int) (w : World) : (Op.equalIn 9999 93 (.agg #[.int .i64 x2, .int .i64 x3]) (.agg #[.int .i64 y2, .int .i64 y3])).run Tryz.prog w = .ok (decide (x2 = y2) && decide (x3 = y3)) w := by
  have h1 : (sizeOf 2 : Sem Nat).run Tryz.prog w = .ok 1 w := by kernel_rfl
  have p0 : ∀ a b : Int, (part 2 #[.int .i64 a, .int .i64 b] 0 : Sem Value).run Tryz.prog w = .ok (.int .i64 a) w := fun a b => by kernel_rfl
  have p1 : ∀ a b : Int, (part 2 #[.int .i64 a, .int .i64 b] 1 : Sem Value).run Tryz.prog w = .ok (.int .i64 b) w := fun a b => by kernel_rfl
  have e1 : ∀ a b : Int, (Op.equalIn 9998 2 (.int .i64 a) (.int .i64 b)).run Tryz.prog w = .ok (a == b) w := fun a b => run_equalIn_int w 9997 2 .i64 .i64 a b Tryz.underlying2
  unfold Op.equalIn
  simp [run_underlying Tryz.underlying93, h1, p0, e1, List.range', Result.andThen]
  by_cases h2 : x2 = y2 <;> by_cases h3 : x3 = y3 <;> simp [h2, h3, p1, e1, Result.andThen]
theorem eq_ky (x y : Ky) (w : World) : (Op.equalIn 10000 95 (kyS.val x) (kyS.val y)).run Tryz.prog w = .ok (decide (x = y)) w := by
  obtain ⟨x1, x2, x3⟩ := x
  obtain ⟨y1, y2, y3⟩ := y
  unfold Sv.val
  rw [run_equalIn_agg w 9999 95 _ _ foKy siKy]
  have hl : ∀ l : List UInt8, (strB l).toList = l := fun l => by rw [ByteArray.toList_eq]; rfl
  simp [go_sem, kyS, encKy, eq_ar, hl]
  by_cases h1 : x1 = y1 <;> by_cases h2 : x2 = y2 <;> by_cases h3 : x3 = y3 <;> simp [h1, h2, h3]

/-- Entries of names, in the order in which they were put in. -/
def esK (ks : List (Ky × Nat)) (k : Nat) : List MapEntry := (ks.zipIdx k).map fun p => (⟨kyS.val p.1.1, .int .i64 (p.1.2 : Int), p.2⟩ : MapEntry)
/-- Where a name stands. -/
def fndK (ks : List (Ky × Nat)) (k : Ky) : Option (Ky × Nat) := ks.find? (fun p => p.1 == k)
theorem ask_ky (k : Ky) (w : World) : ∀ (ks : List (Ky × Nat)) (i j : Nat), ∃ r, (Instr.findAsking 95 (kyS.val k) (esK ks i) j).run Tryz.prog w = .ok r w ∧ r.map (·.2) = (fndK ks k).map (fun p => .int .i64 (p.2 : Int)) ∧ r.isSome = (fndK ks k).isSome
  | [], i, j => ⟨none, by simp [esK, Instr.findAsking], rfl, rfl⟩
  | (u, n) :: ks, i, j => by
    obtain ⟨r, h1, h2, h3⟩ := ask_ky k w ks (i + 1) (j + 1)
    have he : (Op.equal 95 (kyS.val k) (kyS.val u)).run Tryz.prog w = .ok (decide (k = u)) w := eq_ky k u w
    have h1' : (Instr.findAsking 95 (kyS.val k) (esK ks (i + 1)) (j + 1)).run Tryz.prog w = .ok r w := h1
    by_cases hk : k = u
    · subst hk
      refine ⟨some (j, .int .i64 (n : Int)), ?_, ?_, ?_⟩
      · simp [esK, Instr.findAsking, he, Result.andThen]
      · simp [fndK]
      · simp [fndK]
    · have hne : (u == k) = false := by simpa using fun h => hk h.symm
      refine ⟨r, ?_, ?_, ?_⟩
      · simp [esK, Instr.findAsking, he, hk, Result.andThen]
        exact h1'
      · rw [h2]; simp [fndK, hne]
      · rw [h3]; simp [fndK, hne]
theorem find_ky (k : Ky) (ks : List (Ky × Nat)) (w : World) : ∃ r, (Instr.findKey 95 (kyS.val k) (esK ks 0)).run Tryz.prog w = .ok r w ∧ r.map (·.2) = (fndK ks k).map (fun p => .int .i64 (p.2 : Int)) ∧ r.isSome = (fndK ks k).isSome := by
  cases ks with
  | nil => exact ⟨none, by simp [esK, Instr.findKey, run_underlying Tryz.underlying95, Instr.findNow, Result.andThen], rfl, rfl⟩
  | cons p ks =>
    obtain ⟨r, h1, h2⟩ := ask_ky k w (p :: ks) 0 0
    refine ⟨r, ?_, h2⟩
    have hn : ∀ d, (∃ fs, d = TypeDesc.struct fs) → Instr.findNow d (kyS.val k) (esK (p :: ks) 0) 0 = none := fun d ⟨fs, hd⟩ => by subst hd; simp [esK, Instr.findNow, Instr.sameNow]
    have h0 := hn (.struct (Tryz.prog.fieldsOf 95)) ⟨_, rfl⟩
    simp only [Instr.findKey, Sem.run_bind, run_underlying foKy, Result.andThen_ok]
    rw [h0]
    exact h1
/-- Block B is the map of those that stand. -/
def StM (w : World) (B : Nat) (ks : List (Ky × Nat)) : Prop := w.heap[B]? = some (.map (esK ks 0).toArray ks.length)
theorem StM.lt {w : World} {B : Nat} {ks : List (Ky × Nat)} (h : StM w B ks) : B < w.heap.size := (Array.getElem?_eq_some_iff.1 h).1
theorem StM.below {w w' : World} {B C : Nat} {ks : List (Ky × Nat)} (h : StM w B ks) (hb : Below C w w') (hc : B < C) : StM w' B ks := (hb.block B hc).trans h
theorem StM.keep {w w' : World} {B : Nat} {ks : List (Ky × Nat)} (h : StM w B ks) (hb : Below w.heap.size w w') : StM w' B ks := h.below hb h.lt
section
variable {w : World} {B : Nat} {ks : List (Ky × Nat)} {ops : Array Oper} {rest : List Oper} {o : Oper} {a : Act} {Q : Exit → Act → World → Prop}
theorem wp_lkK (hg : o.guard = none) (m x : Operand) {t e : TypeId} {co : Bool} (ho : o.op = .lookup t m x co) (ht : Tryz.prog.underlying t = some (.map 95 e)) {k : Ky} {r : Value} (hze : (zeroValue e).run Tryz.prog w = .ok (.int .i64 0) w)
    (hm : a.eval m = .map (some B)) (hx : a.eval x = kyS.val k) (hw : StM w B ks)
    (hr : r = (if co then .tuple #[((fndK ks k).map (fun p => Value.int .i64 (p.2 : Int))).getD (.int .i64 0), .bool (fndK ks k).isSome] else ((fndK ks k).map (fun p => Value.int .i64 (p.2 : Int))).getD (.int .i64 0)))
    (h : wpList Tryz.prog ops Q rest (a.put o.dst r) w) : wpList Tryz.prog ops Q (o :: rest) a w := by
  refine wpList_plain hg fun K hK => ?_
  unfold Oper.wp execOp
  have hrun : (Instr.lookup t (.map (some B)) (kyS.val k) co).run Tryz.prog w = .ok r w := by
    obtain ⟨q, h1, h2, h3⟩ := find_ky k ks w
    subst hr
    rw [← h2, ← h3]
    cases q with
    | none => simp [Instr.lookup, run_underlying ht, MapKept.run_getObj_map hw, chk_ky, h1, hze, Result.andThen]
    | some p => simp [Instr.lookup, run_underlying ht, MapKept.run_getObj_map hw, chk_ky, h1, Result.andThen]
  simp only [ho, hm, hx, Sem.run_bind, hrun, Sem.run_pure, Result.andThen_ok]
  exact hK _ _ h
/-- A name put in that is not there yet. -/
theorem wp_upK (hg : o.guard = none) (m x v : Operand) {t e : TypeId} (ho : o.op = .mapUpdate t m x v) (ht : Tryz.prog.underlying t = some (.map 95 e)) {k : Ky} {n : Nat}
    (hm : a.eval m = .map (some B)) (hx : a.eval x = kyS.val k) (hv : a.eval v = .int .i64 (n : Int)) (hw : StM w B ks) (hf : fndK ks k = none)
    (h : ∀ w', StM w' B (ks ++ [(k, n)]) → Below B w w' → Oth B w w' → Hid (w'.heap.size = w.heap.size) → wpList Tryz.prog ops Q rest (a.put o.dst undef) w') : wpList Tryz.prog ops Q (o :: rest) a w := by
  refine wpList_plain hg fun K hK => ?_
  unfold Oper.wp execOp
  have e : (esK ks 0).toArray.push ⟨kyS.val k, .int .i64 (n : Int), ks.length⟩ = (esK (ks ++ [(k, n)]) 0).toArray := by
    unfold esK
    rw [List.zipIdx_append, List.map_append]
    simp
  have hrun : (Instr.mapUpdate t (.map (some B)) (kyS.val k) (.int .i64 (n : Int))).run Tryz.prog w = .ok () { w with heap := w.heap.setIfInBounds B (.map (esK (ks ++ [(k, n)]) 0).toArray (ks.length + 1)) } := by
    obtain ⟨q, h1, h2, h3⟩ := find_ky k ks w
    rw [hf] at h3
    cases q with
    | some p => cases h3
    | none =>
      rw [← e]
      simp [Instr.mapUpdate, run_underlying ht, MapKept.run_getObj_map hw, chk_ky, h1, MapKept.run_setObj_map _ hw, Result.andThen]
  simp only [ho, hm, hx, hv, Sem.run_bind, hrun, Sem.run_pure, Result.andThen_ok]
  have hoth : ∀ j, j ≠ B → (w.heap.setIfInBounds B (.map (esK (ks ++ [(k, n)]) 0).toArray (ks.length + 1)))[j]? = w.heap[j]? := fun j hj => by
    rw [Array.getElem?_setIfInBounds_ne (by omega)]
  refine hK _ _ (h _ ?_ ⟨rfl, rfl, rfl, by simp, fun j hj => hoth j (by omega)⟩ hoth (hid (by simp)))
  show (w.heap.setIfInBounds B _)[B]? = _
  rw [Array.getElem?_setIfInBounds_self_of_lt hw.lt]
  simp
end
end Go.Proofs.YtpkoboohnbkpoaaGreatDoor
