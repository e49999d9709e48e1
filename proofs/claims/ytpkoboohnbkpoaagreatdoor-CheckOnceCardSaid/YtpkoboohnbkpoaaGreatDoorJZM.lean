/-
  Words for memory of campaigns: numbers' bounds, forms and names in memory (nrS, feS, kyS), a map with texts as keys as the list of its entries (Mp, esL), and the map of forms (Fms); what makeMap, insert and a look-up do to such a map. No condition but what each head says.
-/
import Derived.Test.YtpkoboohnbkpoaaGreatDoorK2
import Derived.Test.YtpkoboohnbkpoaaGreatDoorJZA
import Derived.Maps.OwnSet
namespace Go.Proofs.YtpkoboohnbkpoaaGreatDoor
open Go Go.RowKit Go.Maps

def encNr (x : Nr) : List Value := [.bool x.time, .int .i64 x.lo, .int .i64 x.hi]
def nrS : Sh Tryz.prog Nr where
  enc := encNr
  N := 3
  T := 116
  S := 101
  by_ := 24
  z := ⟨false, 0, 0⟩
  d := _
  len := fun _ => rfl
  pos := by omega
  one := by intro x u hu; simp [encNr] at hu; rcases hu with rfl | rfl | rfl <;> rfl
  undS := Tryz.underlying101
  undT := Tryz.underlying116
  isRow := rfl
  info := by kernel_rfl
  size := by kernel_rfl
  zero := fun w => by kernel_rfl
  small := by omega
  smallN := by omega
/-- A form's four cells. -/
structure Fe where
  A : Option Addr
  n : Nat
  c : Nat
  nodes : Nat
  world : Bool
  block : Bool
def encFe (x : Fe) : List Value := [.slice x.A x.n x.c, .int .i64 (x.nodes : Int), .bool x.world, .bool x.block]
def feS : Sv Tryz.prog Fe where
  enc := encFe
  N := 4
  T := 103
  z := ⟨none, 0, 0, 0, false, false⟩
  d := _
  len := fun _ => rfl
  pos := by omega
  one := by intro x u hu; simp [encFe] at hu; rcases hu with rfl | rfl | rfl | rfl <;> rfl
  undT := Tryz.underlying103
  isRow := rfl
  size := by kernel_rfl
  zero := fun w => by kernel_rfl
/-- A name's cells. -/
def encKy (x : Ky) : List Value := [.string (strB x.w), .int .i64 x.n0, .int .i64 x.n1]
def kyS : Sv Tryz.prog Ky where
  enc := encKy
  N := 3
  T := 95
  z := ⟨[], 0, 0⟩
  d := _
  len := fun _ => rfl
  pos := by omega
  one := by intro x u hu; simp [encKy] at hu; rcases hu with rfl | rfl | rfl <;> rfl
  undT := Tryz.underlying95
  isRow := rfl
  size := by kernel_rfl
  zero := fun w => by kernel_rfl

/-! ### Maps -/
/-- Block B is a map of the entries es. -/
def Mp (w : World) (B : Nat) (es : Array MapEntry) (n : Nat) : Prop := w.heap[B]? = some (.map es n)
theorem Mp.lt {w : World} {B n : Nat} {es : Array MapEntry} (h : Mp w B es n) : B < w.heap.size := (Array.getElem?_eq_some_iff.1 h).1
theorem Mp.below {w w' : World} {B n C : Nat} {es : Array MapEntry} (h : Mp w B es n) (hb : Below C w w') (hc : B < C) : Mp w' B es n := (hb.block B hc).trans h
theorem Mp.keep {w w' : World} {B n : Nat} {es : Array MapEntry} (h : Mp w B es n) (hb : Below w.heap.size w w') : Mp w' B es n := h.below hb h.lt
/-- Entries, in the order in which they were put in. -/
def esL (L : List (List UInt8 × Value)) : Array MapEntry := (L.zipIdx.map fun p => (⟨.string (strB p.1.1), p.1.2, p.2⟩ : MapEntry)).toArray
theorem esL_push (L : List (List UInt8 × Value)) (v : List UInt8) (u : Value) : (esL L).push ⟨.string (strB v), u, L.length⟩ = esL (L ++ [(v, u)]) := by
  unfold esL
  rw [List.zipIdx_append, List.map_append]
  simp
theorem strB_beq (a b : List UInt8) : (strB a == strB b) = (b == a) := by
  have e : (strB a == strB b) = (a.toArray == b.toArray) := rfl
  rw [e, Bool.eq_iff_iff, beq_iff_eq, beq_iff_eq]
  constructor
  · intro h
    have := congrArg Array.toList h
    simpa using this.symm
  · intro h; rw [h]
theorem find_zip : ∀ (L : List (List UInt8 × Value)) (v : List UInt8) (k : Nat), Instr.findNow .string (.string (strB v)) ((L.zipIdx k).map fun p => (⟨.string (strB p.1.1), p.1.2, p.2⟩ : MapEntry)) k = some (((L.zipIdx k).find? (fun p => p.1.1 == v)).map fun p => (p.2, p.1.2))
  | [], _, _ => rfl
  | (u, x) :: L, v, k => by
    have ih := find_zip L v (k + 1)
    simp only [List.zipIdx_cons, List.map_cons, Instr.findNow, Instr.sameNow, List.find?_cons, strB_beq]
    cases u == v with
    | true => rfl
    | false => exact ih
/-- What is found at a text. -/
def fndL (L : List (List UInt8 × Value)) (v : List UInt8) : Option (Nat × Value) := (L.zipIdx.find? (fun p => p.1.1 == v)).map fun p => (p.2, p.1.2)
theorem find_run (L : List (List UInt8 × Value)) (v : List UInt8) (w : World) : (Instr.findKey 9 (.string (strB v)) (esL L).toList).run Tryz.prog w = .ok (fndL L v) w := by
  have h := find_zip L v 0
  simp [Instr.findKey, run_underlying Tryz.underlying9, esL, h, Result.andThen, fndL]
theorem chk_str (em : Bool) (s : ByteArray) (w : World) : (Instr.checkKey em 10000 9 (.string s)).run Tryz.prog w = .ok () w := by
  exact MapKept.run_checkKey Tryz.underlying9 (show MapKept.IsKey .string (.string s) from trivial) em 9999
section
variable {w : World} {B : Nat} {L : List (List UInt8 × Value)} {ops : Array Oper} {rest : List Oper} {o : Oper} {a : Act} {Q : Exit → Act → World → Prop}
theorem wp_mkmap (hg : o.guard = none) {t : TypeId} (ho : o.op = .makeMap t none)
    (h : ∀ w', Mp w' w.heap.size #[] 0 → Below w.heap.size w w' → Hid (w'.heap.size = w.heap.size + 1) → wpList Tryz.prog ops Q rest (a.put o.dst (.map (some w.heap.size))) w') : wpList Tryz.prog ops Q (o :: rest) a w := by
  refine wpList_plain hg fun K hK => ?_
  unfold Oper.wp execOp
  simp only [ho, Option.map_none, Instr.makeMap, Sem.run_bind, run_newObj_alloc, Sem.run_pure, Result.andThen_ok]
  exact hK _ _ (h _ (heap_alloc_new w _) ((Below.refl _ _).alloc (Nat.le_refl _) _) (hid (by simp)))
theorem wp_ins (hg : o.guard = none) (m x v : Operand) {t e : TypeId} (ho : o.op = .insert t m x v) (ht : Tryz.prog.underlying t = some (.map 9 e)) {s : List UInt8} {u : Value}
    (hm : a.eval m = .map (some B)) (hx : a.eval x = .string (strB s)) (hv : a.eval v = u) (hw : Mp w B (esL L) L.length) (hf : fndL L s = none)
    (h : ∀ w', Mp w' B (esL (L ++ [(s, u)])) (L ++ [(s, u)]).length → Below B w w' → Oth B w w' → Hid (w'.heap.size = w.heap.size) → wpList Tryz.prog ops Q rest (a.put o.dst undef) w') : wpList Tryz.prog ops Q (o :: rest) a w := by
  refine wpList_plain hg fun K hK => ?_
  unfold Oper.wp execOp
  have hrun : (Instr.mapUpdate t (.map (some B)) (.string (strB s)) u).run Tryz.prog w = .ok () { w with heap := w.heap.setIfInBounds B (.map ((esL L).push ⟨.string (strB s), u, L.length⟩) (L.length + 1)) } := by
    have hfr := find_run L s w
    rw [hf] at hfr
    simp [Instr.mapUpdate, run_underlying ht, MapKept.run_getObj_map hw, chk_str, hfr, MapKept.run_setObj_map _ hw, Result.andThen]
  simp only [ho, hm, hx, hv, Sem.run_bind, hrun, Sem.run_pure, Result.andThen_ok]
  have hoth : ∀ j, j ≠ B → (w.heap.setIfInBounds B (.map ((esL L).push ⟨.string (strB s), u, L.length⟩) (L.length + 1)))[j]? = w.heap[j]? := fun j hj => by
    rw [Array.getElem?_setIfInBounds_ne (by omega)]
  refine hK _ _ (h _ ?_ ⟨rfl, rfl, rfl, by simp, fun j hj => hoth j (by omega)⟩ hoth (hid (by simp)))
  show (w.heap.setIfInBounds B _)[B]? = _
  rw [Array.getElem?_setIfInBounds_self_of_lt hw.lt, esL_push]
  simp
/-- A look-up, by ', ok' or without. -/
theorem wp_lk (hg : o.guard = none) (m x : Operand) {t e : TypeId} {co : Bool} (ho : o.op = .lookup t m x co) (ht : Tryz.prog.underlying t = some (.map 9 e)) {s : List UInt8} {n : Nat} (z : Value) {r : Value}
    (hm : a.eval m = .map (some B)) (hx : a.eval x = .string (strB s)) (hw : Mp w B (esL L) n) (hz : (zeroValue e).run Tryz.prog w = .ok z w)
    (hr : r = (if co then .tuple #[((fndL L s).map (·.2)).getD z, .bool (fndL L s).isSome] else ((fndL L s).map (·.2)).getD z))
    (h : wpList Tryz.prog ops Q rest (a.put o.dst r) w) : wpList Tryz.prog ops Q (o :: rest) a w := by
  refine wpList_plain hg fun K hK => ?_
  unfold Oper.wp execOp
  have hrun : (Instr.lookup t (.map (some B)) (.string (strB s)) co).run Tryz.prog w = .ok r w := by
    have hfr := find_run L s w
    subst hr
    cases hq : fndL L s with
    | none =>
      rw [hq] at hfr
      simp [Instr.lookup, run_underlying ht, MapKept.run_getObj_map hw, chk_str, hfr, hz, Result.andThen]
    | some p =>
      obtain ⟨i, u⟩ := p
      rw [hq] at hfr
      simp [Instr.lookup, run_underlying ht, MapKept.run_getObj_map hw, chk_str, hfr, Result.andThen]
  simp only [ho, hm, hx, Sem.run_bind, hrun, Sem.run_pure, Result.andThen_ok]
  exact hK _ _ h
end

/-! ### The map of forms -/
def feOf (f : Fm) (g : Nat) : Fe := ⟨some ⟨g, 0, none⟩, f.nums.length, f.nums.length, f.nodes, f.world, f.block⟩
/-- Words, their forms, and the blocks in which the forms' numbers lie: as entries. -/
def entL (L : List ((List UInt8 × Fm) × Nat)) : List (List UInt8 × Value) := L.map fun p => (p.1.1, feS.val (feOf p.1.2 p.2))
/-- What of the forms is made. -/
structure FmT (w : World) (B base : Nat) (L : List ((List UInt8 × Fm) × Nat)) : Prop where
  mp : Mp w B (esL (entL L)) (entL L).length
  ge : base ≤ B
  row : ∀ p ∈ L, base ≤ p.2 ∧ p.2 < w.heap.size ∧ w.rangeAt p.2 0 (nrS.flat p.1.2.nums)
theorem range_lt {w : World} {b o : Nat} {v : Value} {vs : List Value} (h : w.rangeAt b o (v :: vs)) : b < w.heap.size := World.block_lt_of_cell? w _ (h 0 v rfl)
theorem FmT.below {w w' : World} {B base : Nat} {L : List ((List UInt8 × Fm) × Nat)} (h : FmT w B base L) (hb : Below w.heap.size w w') : FmT w' B base L :=
  ⟨h.mp.keep hb, h.ge, fun p hp => ⟨(h.row p hp).1, Nat.lt_of_lt_of_le (h.row p hp).2.1 hb.size, range_keep (h.row p hp).2.2 (h.row p hp).2.1 hb⟩⟩
theorem FmT.start {w : World} {B base : Nat} (h : Mp w B #[] 0) (hb : base ≤ B) : FmT w B base [] := ⟨h, hb, fun p hp => by cases hp⟩
theorem FmT.push {w w' : World} {B base g : Nat} {L : List ((List UInt8 × Fm) × Nat)} {v : List UInt8} {f : Fm} (h : FmT w B base L) (hm : Mp w' B (esL (entL L ++ [(v, feS.val (feOf f g))])) (entL L ++ [(v, feS.val (feOf f g))]).length) (ho : Oth B w w') (hs : Hid (w'.heap.size = w.heap.size))
    (hg : base ≤ g) (hl : g < w.heap.size) (hr : w.rangeAt g 0 (nrS.flat f.nums)) (hgB : g ≠ B) (hne : ∀ p ∈ L, p.2 ≠ B) : FmT w' B base (L ++ [((v, f), g)]) := by
  have e : entL (L ++ [((v, f), g)]) = entL L ++ [(v, feS.val (feOf f g))] := by simp [entL]
  refine ⟨by rw [e]; exact hm, h.ge, fun p hp => ?_⟩
  have hs := hs.out
  rcases List.mem_append.1 hp with hp | hp
  · have := h.row p hp
    exact ⟨this.1, by omega, range_other this.2.2 (hne p hp) ho⟩
  · simp only [List.mem_singleton] at hp
    subst hp
    exact ⟨hg, by simp only; omega, range_other hr hgB ho⟩
/-- Block B is the map of all forms, made from block base on. -/
def Fms (w : World) (B base : Nat) : Prop := ∃ gs : List Nat, gs.length = 14 ∧ FmT w B base (tab.zip gs)
theorem Fms.below {w w' : World} {B base : Nat} (h : Fms w B base) (hb : Below w.heap.size w w') : Fms w' B base := ⟨h.choose, h.choose_spec.1, h.choose_spec.2.below hb⟩
theorem Fms.lt {w : World} {B base : Nat} (h : Fms w B base) : B < w.heap.size := h.choose_spec.2.mp.lt
theorem fnd_none : ∀ (L : List ((List UInt8 × Fm) × Nat)) (v : List UInt8) (k : Nat), (L.map (·.1)).find? (fun p => p.1 == v) = none → ((entL L).zipIdx k).find? (fun p => p.1.1 == v) = none
  | [], _, _, _ => rfl
  | ((u, f), g) :: L, v, k, h => by
    simp only [List.map_cons, List.find?_cons] at h
    simp only [entL, List.map_cons, List.zipIdx_cons, List.find?_cons]
    cases hq : u == v with
    | true => rw [hq] at h; cases h
    | false => rw [hq] at h; exact fnd_none L v (k + 1) h
theorem fnd_some : ∀ (L : List ((List UInt8 × Fm) × Nat)) (v : List UInt8) (k : Nat) {q : List UInt8 × Fm}, (L.map (·.1)).find? (fun p => p.1 == v) = some q → ∃ g i, (q, g) ∈ L ∧ ((entL L).zipIdx k).find? (fun p => p.1.1 == v) = some ((q.1, feS.val (feOf q.2 g)), i)
  | [], _, _, _, h => by cases h
  | ((u, f), g) :: L, v, k, q, h => by
    simp only [List.map_cons, List.find?_cons] at h
    simp only [entL, List.map_cons, List.zipIdx_cons, List.find?_cons]
    cases hq : u == v with
    | true =>
      rw [hq] at h
      cases h
      exact ⟨g, k, List.mem_cons_self .., rfl⟩
    | false =>
      rw [hq] at h
      obtain ⟨g2, i, h1, h2⟩ := fnd_some L v (k + 1) h
      exact ⟨g2, i, List.mem_cons_of_mem _ h1, h2⟩
/-- What is found at a word among all forms. -/
theorem Fms.none {w : World} {B base : Nat} (h : Fms w B base) {v : List UInt8} (hv : formF v = none) : ∃ L n, Mp w B (esL L) n ∧ fndL L v = Option.none := by
  obtain ⟨gs, hl, hf⟩ := h
  refine ⟨_, _, hf.mp, ?_⟩
  unfold fndL
  rw [fnd_none]
  · rfl
  · rw [List.map_fst_zip (by rw [hl]; decide)]
    unfold formF at hv
    simpa using hv
theorem Fms.some {w : World} {B base : Nat} (h : Fms w B base) {v : List UInt8} {f : Fm} (hv : formF v = some f) : ∃ L n g i, Mp w B (esL L) n ∧ fndL L v = Option.some (i, feS.val (feOf f g)) ∧ base ≤ g ∧ g < w.heap.size ∧ w.rangeAt g 0 (nrS.flat f.nums) := by
  obtain ⟨gs, hl, hf⟩ := h
  unfold formF at hv
  cases hq : tab.find? (fun p => p.1 == v) with
  | none => rw [hq] at hv; cases hv
  | some q =>
    rw [hq] at hv
    have e : q.2 = f := by simpa using hv
    obtain ⟨g, i, h1, h2⟩ := fnd_some (tab.zip gs) v 0 (q := q) (by rw [List.map_fst_zip (by rw [hl]; decide)]; exact hq)
    obtain ⟨h3, h4, h5⟩ := hf.row _ h1
    subst e
    exact ⟨_, _, g, i, hf.mp, by unfold fndL; rw [h2]; rfl, h3, h4, h5⟩
end Go.Proofs.YtpkoboohnbkpoaaGreatDoor
