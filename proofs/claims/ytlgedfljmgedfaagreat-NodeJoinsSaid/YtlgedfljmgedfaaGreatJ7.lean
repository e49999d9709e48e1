/-
  Texts Mc of this seat, as far as they are used.
-/
import Derived.Test.YtlgedfljmgedfaaGreatJ5
import Derived.Test.YtlgedfljmgedfaaGreatJ6
import Derived.Maps.OwnSet
import Derived.Lib.QuietBelow
namespace Go.Proofs.YtlgedfljmgedfaaGreat.M10
open Go Go.RowKit Go.Maps

/-! ### A variable of one cell -/
/-- Block g is a variable that holds v. -/
def VarC (w : World) (g : Nat) (v : Value) : Prop := w.rangeAt g 0 [v] ∧ w.there g 0 1
section
variable {w w' : World} {g : Nat} {v : Value}
theorem VarC.below (h : VarC w g v) {B : Nat} (hk : Below B w w') (hb : g < B) : VarC w' g v := ⟨range_keep h.1 hb hk, there_keep h.2 hb hk⟩
theorem VarC.other (h : VarC w g v) {b : Nat} (ho : Oth b w w') (hb : g ≠ b) : VarC w' g v := ⟨range_other h.1 hb ho, there_other h.2 hb ho⟩
theorem VarC.c0 (h : VarC w g v) : w.cell? ⟨g, 0, none⟩ = some v := h.1 0 _ rfl
theorem VarC.lt (h : VarC w g v) : g < w.heap.size := World.block_lt_of_cell? w _ h.c0
theorem VarC.keep (h : VarC w g v) (hk : Below w.heap.size w w') : VarC w' g v := h.below hk h.lt
theorem varc_new (w : World) (v : Value) (t : TypeId) : VarC (w.alloc (.cells #[v] t)) w.heap.size v := by
  have h1 : (w.alloc (.cells #[v] t)).rangeAt w.heap.size 0 [v] := fun j u hu => by
    rw [Nat.zero_add, cell_of_row _ _ _ _ _ _ (heap_alloc_new w _)]
    simpa using hu
  refine ⟨h1, fun j hj => ⟨?_, frozen_of_row _ _ _ _ _ (heap_alloc_new w _)⟩⟩
  obtain rfl : j = 0 := by omega
  rw [h1 0 v rfl]; rfl
variable {ops : Array Oper} {rest : List Oper} {o : Oper} {a : Act} {Q : Exit → Act → World → Prop}
theorem wpList_box1 (hg : o.guard = none) {t : TypeId} (y : Operand) (ho : o.op = .box t y) (hx : a.eval y = v) (hc : v.cells = #[v])
    (h : ∀ w', VarC w' w.heap.size v → Below w.heap.size w w' → Hid (w'.heap.size = w.heap.size + 1) → wpList Tryz.prog ops Q rest (a.put o.dst (.pointer (some ⟨w.heap.size, 0, none⟩))) w') : wpList Tryz.prog ops Q (o :: rest) a w := by
  refine wpList_plain hg fun K hK => ?_
  unfold Oper.wp execOp
  simp only [ho, hx, Sem.run_bind, Instr.box, newVar, newRow, hc, run_newObj_alloc, Sem.run_pure, Result.andThen_ok]
  exact hK _ _ (h _ (varc_new w v t) ((Below.refl _ _).alloc (Nat.le_refl _) _) (hid (by simp)))
theorem wpList_al1 (hg : o.guard = none) {t : TypeId} (ho : o.op = .alloc t) (hz : (zeroValue t).run Tryz.prog w = .ok v w) (hc : v.cells = #[v])
    (h : ∀ w', VarC w' w.heap.size v → Below w.heap.size w w' → Hid (w'.heap.size = w.heap.size + 1) → wpList Tryz.prog ops Q rest (a.put o.dst (.pointer (some ⟨w.heap.size, 0, none⟩))) w') : wpList Tryz.prog ops Q (o :: rest) a w := by
  refine wpList_plain hg fun K hK => ?_
  unfold Oper.wp execOp
  simp only [ho, Sem.run_bind, Instr.alloc, hz, newVar, newRow, hc, run_newObj_alloc, Sem.run_pure, Result.andThen_ok]
  exact hK _ _ (h _ (varc_new w v t) ((Below.refl _ _).alloc (Nat.le_refl _) _) (hid (by simp)))
theorem wpList_sc (hg : o.guard = none) {ty : TypeId} (y z : Operand) (ho : o.op = .store ty y z) {u : Value} (hx : a.eval y = .pointer (some ⟨g, 0, none⟩)) (hy : a.eval z = v) (hc : v.cells = #[v]) (h1 : v.oneCell' = true) (hs : (Tryz.prog.info? ty).map (·.size) = some 1)
    (hv : VarC w g u) (h : ∀ w', VarC w' g v → Below g w w' → Oth g w w' → Hid (w'.heap.size = w.heap.size) → wpList Tryz.prog ops Q rest (a.put o.dst undef) w') : wpList Tryz.prog ops Q (o :: rest) a w := by
  refine wpList_plain hg fun K hK => ?_
  have := run_storeCells_cells (P := Tryz.prog) g 0 [v] 0 w (fun i hi => by simpa using (hv.2 i (by simpa using hi)).1) (fun i hi => by simpa using (hv.2 i (by simpa using hi)).2) (fun u hu => by simp at hu; rw [hu]; exact h1)
  unfold Oper.wp execOp
  cases hq : Tryz.prog.info? ty with
  | none => simp [hq] at hs
  | some i =>
    have hz : i.size = 1 := by simpa [hq] using hs
    simp only [Nat.add_zero] at this
    have hsv : (storeVar ty ⟨g, 0, none⟩ v).run Tryz.prog w = .ok () (w.setCells g 0 [v]) := by
      simp [storeVar, sizeOf, typeInfo, hq, hc, hz, this]
    simp only [ho, hx, hy, Instr.storeAt, Instr.sureAddr, Sem.run_bind, Sem.run_pure, Result.andThen_ok, hsv]
    exact hK _ _ (h _ ⟨World.rangeAt_setCells_same w g 0 [v] hv.2, there_set _ _ hv.2⟩ (setCells_oth g _ _ _).1 (setCells_oth g _ _ _).2 (hid (setCells_size _ _ _ _)))
end
/-! ### Maps -/
/-- Block B is a map of the entries es. -/
def Mp (w : World) (B : Nat) (es : Array MapEntry) (n : Nat) : Prop := w.heap[B]? = some (.map es n)
theorem Mp.lt {w : World} {B n : Nat} {es : Array MapEntry} (h : Mp w B es n) : B < w.heap.size := (Array.getElem?_eq_some_iff.1 h).1
theorem Mp.below {w w' : World} {B n C : Nat} {es : Array MapEntry} (h : Mp w B es n) (hb : Below C w w') (hc : B < C) : Mp w' B es n := (hb.block B hc).trans h
theorem Mp.keep {w w' : World} {B n : Nat} {es : Array MapEntry} (h : Mp w B es n) (hb : Below w.heap.size w w') : Mp w' B es n := h.below hb h.lt
theorem key3 : Keyed Tryz.prog 3 := int_keyed Tryz.underlying3
/-- A number that is a key. -/
def KeyI (k : Int) : Prop := -9223372036854775808 ≤ k ∧ k ≤ 9223372036854775807
theorem key_i (k : Int) (h : KeyI k) : keyOf Tryz.prog 3 (.int .i64 k) = some (.int .i64 k) := keyOf_int_mk Tryz.underlying3 (WalkArith.wf_i64 h)
/-- What is found at key k among entries. -/
def fnd (k : Int) (es : List MapEntry) : Option (Option (Nat × Value)) := Instr.findNow (.int .i64) (.int .i64 k) es 0
theorem find_run {k : Int} {es : List MapEntry} {r : Option (Nat × Value)} (h : fnd k es = some r) (w : World) : (Instr.findKey 3 (.int .i64 k) es).run Tryz.prog w = .ok r w := by
  unfold fnd at h
  simp [Instr.findKey, run_underlying Tryz.underlying3, h, Result.andThen]
section
variable {w : World} {B n : Nat} {es : Array MapEntry} {ops : Array Oper} {rest : List Oper} {o : Oper} {a : Act} {Q : Exit → Act → World → Prop}
theorem wpList_mk (hg : o.guard = none) {t : TypeId} (ho : o.op = .makeMap t none)
    (h : ∀ w', Mp w' w.heap.size #[] 0 → Below w.heap.size w w' → Hid (w'.heap.size = w.heap.size + 1) → wpList Tryz.prog ops Q rest (a.put o.dst (.map (some w.heap.size))) w') : wpList Tryz.prog ops Q (o :: rest) a w := by
  refine wpList_plain hg fun K hK => ?_
  unfold Oper.wp execOp
  simp only [ho, Option.map_none, Instr.makeMap, Sem.run_bind, run_newObj_alloc, Sem.run_pure, Result.andThen_ok]
  exact hK _ _ (h _ (heap_alloc_new w _) ((Below.refl _ _).alloc (Nat.le_refl _) _) (hid (by simp)))
theorem wpList_ins (hg : o.guard = none) (m x v : Operand) {t e : TypeId} (ho : o.op = .insert t m x v) (ht : Tryz.prog.underlying t = some (.map 3 e)) {k : Int} {u : Value}
    (hm : a.eval m = .map (some B)) (hx : a.eval x = .int .i64 k) (hv : a.eval v = u) (hw : Mp w B es n) (hk : KeyI k) (hf : fnd k es.toList = some none)
    (h : ∀ w', Mp w' B (es.push ⟨.int .i64 k, u, n⟩) (n + 1) → Below B w w' → Oth B w w' → Hid (w'.heap.size = w.heap.size) → wpList Tryz.prog ops Q rest (a.put o.dst undef) w') : wpList Tryz.prog ops Q (o :: rest) a w := by
  refine wpList_plain hg fun K hK => ?_
  unfold Oper.wp execOp
  have hrun : (Instr.mapUpdate t (.map (some B)) (.int .i64 k) u).run Tryz.prog w = .ok () { w with heap := w.heap.setIfInBounds B (.map (es.push ⟨.int .i64 k, u, n⟩) (n + 1)) } := by
    simp [Instr.mapUpdate, run_underlying ht, MapKept.run_getObj_map hw, key3.check w false (key_i k hk), find_run hf, MapKept.run_setObj_map _ hw, Result.andThen]
  simp only [ho, hm, hx, hv, Sem.run_bind, hrun, Sem.run_pure, Result.andThen_ok]
  have hoth : ∀ j, j ≠ B → (w.heap.setIfInBounds B (.map (es.push ⟨.int .i64 k, u, n⟩) (n + 1)))[j]? = w.heap[j]? := fun j hj => by
    rw [Array.getElem?_setIfInBounds_ne (by omega)]
  refine hK _ _ (h _ ?_ ⟨rfl, rfl, rfl, by simp, fun j hj => hoth j (by omega)⟩ hoth (hid (by simp)))
  show (w.heap.setIfInBounds B _)[B]? = _
  rw [Array.getElem?_setIfInBounds_self_of_lt hw.lt]
theorem wpList_lk (hg : o.guard = none) (m x : Operand) {t e : TypeId} (ho : o.op = .lookup t m x true) (ht : Tryz.prog.underlying t = some (.map 3 e)) {k : Int} {r : Option (Nat × Value)} (z : Value)
    (hm : a.eval m = .map (some B)) (hx : a.eval x = .int .i64 k) (hw : Mp w B es n) (hk : KeyI k) (hf : fnd k es.toList = some r) (hz : (zeroValue e).run Tryz.prog w = .ok z w)
    (h : wpList Tryz.prog ops Q rest (a.put o.dst (.tuple #[(r.map (·.2)).getD z, .bool r.isSome])) w) : wpList Tryz.prog ops Q (o :: rest) a w := by
  refine wpList_plain hg fun K hK => ?_
  unfold Oper.wp execOp
  have hrun : (Instr.lookup t (.map (some B)) (.int .i64 k) true).run Tryz.prog w = .ok (.tuple #[(r.map (·.2)).getD z, .bool r.isSome]) w := by
    cases r with
    | none => simp [Instr.lookup, run_underlying ht, MapKept.run_getObj_map hw, key3.check w _ (key_i k hk), find_run hf, hz, Result.andThen]
    | some r => obtain ⟨i, u⟩ := r; simp [Instr.lookup, run_underlying ht, MapKept.run_getObj_map hw, key3.check w _ (key_i k hk), find_run hf, Result.andThen]
  simp only [ho, hm, hx, Sem.run_bind, hrun, Sem.run_pure, Result.andThen_ok]
  exact hK _ _ h
end
/-- Four entries at 0 to 3; what is found there. -/
def es4 (a b c d : Value) : Array MapEntry := #[⟨.int .i64 0, a, 0⟩, ⟨.int .i64 1, b, 1⟩, ⟨.int .i64 2, c, 2⟩, ⟨.int .i64 3, d, 3⟩]
theorem fnd0 (a b c d : Value) : fnd 0 (es4 a b c d).toList = some (some (0, a)) := rfl
theorem fnd1 (a b c d : Value) : fnd 1 (es4 a b c d).toList = some (some (1, b)) := rfl
theorem fnd2 (a b c d : Value) : fnd 2 (es4 a b c d).toList = some (some (2, c)) := rfl
theorem fnd3 (a b c d : Value) : fnd 3 (es4 a b c d).toList = some (some (3, d)) := rfl
theorem fnd_no (a b c d : Value) (k : Int) (h : k < 0 ∨ 3 < k) : fnd k (es4 a b c d).toList = some none := by
  have e0 : (k == 0) = false := by rw [beq_eq_false_iff_ne]; omega
  have e1 : (k == 1) = false := by rw [beq_eq_false_iff_ne]; omega
  have e2 : (k == 2) = false := by rw [beq_eq_false_iff_ne]; omega
  have e3 : (k == 3) = false := by rw [beq_eq_false_iff_ne]; omega
  simp [fnd, es4, Instr.findNow, Instr.sameNow, e0, e1, e2, e3]
end Go.Proofs.YtlgedfljmgedfaaGreat.M10
namespace Go.Proofs.YtlgedfljmgedfaaGreat.M10
open Go Go.RowKit Go.Maps
theorem zero59 (w : World) : (zeroValue 166).run Tryz.prog w = .ok .nilFunc w := by kernel_rfl
theorem zero63 (w : World) : (zeroValue 154).run Tryz.prog w = .ok .nilFunc w := by kernel_rfl
theorem size59 : (Tryz.prog.info? 166).map (·.size) = some 1 := by kernel_rfl
/-- What moves gives: the map B of the closures over me's variable, the owner's, and the one of 'with'. -/
def RetM (me o : Int) (w : World) (e : Ending) (w' : World) : Prop :=
  ∃ B n gm go gw, e = .returned (.map (some B)) ∧ Mp w' B (es4 (.func (.func 173) #[] #[.pointer (some ⟨go, 0, none⟩)]) (.func (.func 172) #[] #[.pointer (some ⟨go, 0, none⟩)])
    (.func (.func 174) #[] #[.pointer (some ⟨gw, 0, none⟩), .pointer (some ⟨gm, 0, none⟩)]) (.func (.func 173) #[] #[.pointer (some ⟨go, 0, none⟩)])) n ∧
    VarC w' gm (.int .i64 me) ∧ VarC w' go (.int .i64 o) ∧ VarC w' gw (.func (.func 172) #[] #[.pointer (some ⟨go, 0, none⟩)]) ∧ Below w.heap.size w w'
set_option maxRecDepth 100000 in
theorem moves_any (me o : Int) (w : World) : Calls Tryz.prog 153 #[.int .i64 me, .int .i64 o] w (RetM me o w) := by
  go_enter Tryz.func153, Tryz.ntmps153
  go_wp2_with (first
    | (refine wpList_ins rfl (.tmp 9) _ _ rfl Tryz.underlying168 rfl rfl rfl m8 (by unfold KeyI; omega) rfl ?_; intro w9 m9 b9 o9 s9)
    | (refine wpList_ins rfl (.tmp 9) _ _ rfl Tryz.underlying168 rfl rfl rfl m7 (by unfold KeyI; omega) rfl ?_; intro w8 m8 b8 o8 s8)
    | (refine wpList_ins rfl (.tmp 9) _ _ rfl Tryz.underlying168 rfl rfl rfl m6 (by unfold KeyI; omega) rfl ?_; intro w7 m7 b7 o7 s7)
    | (refine wpList_ins rfl (.tmp 9) _ _ rfl Tryz.underlying168 rfl rfl rfl m5 (by unfold KeyI; omega) rfl ?_; intro w6 m6 b6 o6 s6; have c6 : w6.cell? ⟨w2.heap.size, 0, none⟩ = some (.func (.func 172) #[] #[.pointer (some ⟨w1.heap.size, 0, none⟩)]) := (V3.out.below b6 v4.lt).c0)
    | (refine wpList_mk rfl rfl ?_; intro w5 m5 b5 s5; have V3 := hid (v4.keep b5))
    | (refine wpList_sc rfl (.tmp 5) (.tmp 7) rfl rfl rfl rfl rfl size59 v3 ?_; intro w4 v4 b4 o4 s4)
    | (refine wpList_al1 rfl rfl (zero59 _) rfl ?_; intro w3 v3 b3 s3)
    | (refine wpList_box1 rfl (.tmp 1) rfl rfl rfl ?_; intro w2 v2 b2 s2)
    | (refine wpList_box1 rfl (.tmp 0) rfl rfl rfl ?_; intro w1 v1 b1 s1)
    )
  go_ret
  have S1 := s1.out; have S2 := s2.out; have S3 := s3.out; have S4 := s4.out
  have L5 : Below w4.heap.size w5 w9 := ((b6.trans b7).trans b8).trans b9
  have L : Below w4.heap.size w4 w9 := b5.trans L5
  have hv4 := v4.lt
  refine ⟨w4.heap.size, _, w.heap.size, w1.heap.size, w2.heap.size, rfl, m9, ?_, ?_, v4.keep L, ?_⟩
  · exact ((((v1.keep b2).keep b3).below b4 (by omega)).keep L)
  · exact (((v2.keep b3).below b4 (by omega)).keep L)
  · exact (((b1.trans (b2.mono (by omega))).trans (b3.mono (by omega))).trans (b4.mono (by omega))).trans (L.mono (by omega))
/-- What counts gives: the map B of the closures. -/
def RetC (w : World) (e : Ending) (w' : World) : Prop :=
  ∃ B n, e = .returned (.map (some B)) ∧ Mp w' B (es4 (.func (.func 166) #[] #[]) (.func (.func 164) #[] #[]) (.func (.func 164) #[] #[]) (.func (.func 165) #[] #[])) n ∧ Below w.heap.size w w'
set_option maxRecDepth 100000 in
theorem counts_any (w : World) : Calls Tryz.prog 137 #[] w (RetC w) := by
  go_enter Tryz.func137, Tryz.ntmps137
  go_wp2_with (first
    | (refine wpList_ins rfl (.tmp 3) _ _ rfl Tryz.underlying156 rfl rfl rfl m8 (by unfold KeyI; omega) rfl ?_; intro w9 m9 b9 o9 s9)
    | (refine wpList_ins rfl (.tmp 3) _ _ rfl Tryz.underlying156 rfl rfl rfl m7 (by unfold KeyI; omega) rfl ?_; intro w8 m8 b8 o8 s8)
    | (refine wpList_ins rfl (.tmp 3) _ _ rfl Tryz.underlying156 rfl rfl rfl m6 (by unfold KeyI; omega) rfl ?_; intro w7 m7 b7 o7 s7)
    | (refine wpList_ins rfl (.tmp 3) _ _ rfl Tryz.underlying156 rfl rfl rfl m5 (by unfold KeyI; omega) rfl ?_; intro w6 m6 b6 o6 s6)
    | (refine wpList_mk rfl rfl ?_; intro w5 m5 b5 s5))
  go_ret
  exact ⟨w.heap.size, _, rfl, m9, (((b5.trans b6).trans b7).trans b8).trans b9⟩
/-! ### The closures -/
theorem c42 (go : Nat) (o own : Nat) (w : World) (hv : VarC w go (.int .i64 (o : Int))) (hm : own < 65536) (ho : o ≤ 15) : Calls Tryz.prog 172 #[.int .u16 (own : Int), .pointer (some ⟨go, 0, none⟩)] w fun e w' => e = .returned (.int .u16 (addb own o : Nat)) ∧ w = w' := by
  have c0 := hv.c0
  have HW := hid (fun w => with_in own o w hm ho)
  clear hv
  go_enter Tryz.func172, Tryz.ntmps172
  go_wp2_with (go_at_call 75; refine (HW.out _).mono ?_; rintro e w' ⟨rfl, rfl⟩)
  go_ret
  exact ⟨rfl, rfl⟩
theorem c43 (go : Nat) (o own : Nat) (w : World) (hv : VarC w go (.int .i64 (o : Int))) (hm : own < 65536) (ho : o ≤ 15) : Calls Tryz.prog 173 #[.int .u16 (own : Int), .pointer (some ⟨go, 0, none⟩)] w fun e w' => e = .returned (.int .u16 (subb own o : Nat)) ∧ w = w' := by
  have c0 := hv.c0
  have HW := hid (fun w => without_in own o w hm ho)
  clear hv
  go_enter Tryz.func173, Tryz.ntmps173
  go_wp2_with (go_at_call 92; refine (HW.out _).mono ?_; rintro e w' ⟨rfl, rfl⟩)
  go_ret
  exact ⟨rfl, rfl⟩
theorem bel_drewN {B : Nat} {a w : World} (h : Below B a w) (n : Nat) : Below B a (w.drewN n) := by
  induction n with
  | zero => exact h
  | succ n ih => exact ih.drew
theorem VarC.drewN {w : World} {g : Nat} {v : Value} (h : VarC w g v) (n : Nat) : VarC (w.drewN n) g v := h.keep (bel_drewN (Below.refl _ _) n)
theorem symm_post {e : Ending} {v : Value} {w w' : World} (h : e = .returned v ∧ w = w') : e = .returned v ∧ w' = w := ⟨h.1, h.2.symm⟩
theorem c44 (gw gm go : Nat) (o me own : Nat) (w : World) (hw : VarC w gw (.func (.func 172) #[] #[.pointer (some ⟨go, 0, none⟩)])) (hv : VarC w go (.int .i64 (o : Int))) (hme : VarC w gm (.int .i64 (me : Int))) (hm : own < 65536) (ho : o ≤ 15) (hl : me ≤ 15) :
    Calls Tryz.prog 174 #[.int .u16 (own : Int), .pointer (some ⟨gw, 0, none⟩), .pointer (some ⟨gm, 0, none⟩)] w fun e w' => e = .returned (.int .u16 (subb (addb own o) me : Nat)) ∧ Below w.heap.size w w' := by
  have c0 := hw.c0
  have c1 := hme.c0
  have T1 := hid (fun n => Calls.quiet_of_same ((c42 go o own (w.drewN n) (hv.drewN n) hm ho).mono fun _ _ => symm_post))
  have T2 := hid (fun n => Calls.quiet_of_same ((without_in (addb own o) me (w.drewN n) (addb_lt own o hm ho) hl).mono fun _ _ => symm_post))
  clear hw hme hv
  go_enter Tryz.func174, Tryz.ntmps174
  go_wp2_with fail
  go_quiet (first | exact T1.out _ | exact T2.out _)
  go_wp2_with fail
  go_ret
  exact ⟨rfl, bel_drewN (Below.refl _ _) _⟩
end Go.Proofs.YtlgedfljmgedfaaGreat.M10
namespace Go.Proofs.YtlgedfljmgedfaaGreat.M10
open Go Go.RowKit Go.Maps
def inc (n : Int) : Int := min (n + 1) 1073741824
theorem inc_in {n : Int} (h : n + 1 ≤ 1073741824) : inc n = n + 1 := by unfold inc; omega
theorem c45_in (g b : Int) (w : World) (h0 : 0 ≤ g) (h1 : g + 1 ≤ 1073741824) : Calls Tryz.prog 164 #[tv ⟨g, b⟩] w fun e w' => e = .returned (tv ⟨g + 1, b⟩) ∧ Below w.heap.size w w' := by
  go_enter Tryz.func164, Tryz.ntmps164
  go_wp2_with (first
    | (refine wpList_svt rfl (.tmp 2) (.tmp 8) rfl rfl rfl v3 ?_; intro w4 v4 b4 o4 s4)
    | (refine wpList_ldt rfl (.tmp 1) rfl rfl u3 ?_)
    | (refine wpList_sg (n := g + 1) rfl (.tmp 7) (.tmp 6) rfl rfl rfl u1 ?_; intro w3 u3 b3 o3 s3; have v3 := v2.other o3 (by have := s1.out; omega))
    | (refine wpList_alt rfl rfl ?_; intro w2 v2 b2 s2; have u1 := v1.keep b2; have c0 : w2.cell? ⟨w.heap.size, 0, none⟩ = some (.int .i64 (g)) := u1.c0; clear v1)
    | (refine wpList_boxt (x := ⟨g, b⟩) rfl (.tmp 0) rfl rfl ?_; intro w1 v1 b1 s1))
  refine bodyPost_ret (w := w4) (results_t Tryz.results164 _ rfl v4) rfl ?_
  have S1 := s1.out; have S2 := s2.out; have S3 := s3.out
  exact ⟨rfl, ((b1.trans (b2.mono (by omega))).trans b3).trans (b4.mono (by omega))⟩
theorem c45_top (b : Int) (w : World)  : Calls Tryz.prog 164 #[tv ⟨1073741824, b⟩] w fun e w' => e = .returned (tv ⟨1073741824, b⟩) ∧ Below w.heap.size w w' := by
  go_enter Tryz.func164, Tryz.ntmps164
  go_wp2_with (first
    | (refine wpList_svt rfl (.tmp 2) (.tmp 8) rfl rfl rfl v3 ?_; intro w4 v4 b4 o4 s4)
    | (refine wpList_ldt rfl (.tmp 1) rfl rfl u3 ?_)
    | (refine wpList_sg (n := 1073741824) rfl (.tmp 7) (.tmp 6) rfl rfl rfl u1 ?_; intro w3 u3 b3 o3 s3; have v3 := v2.other o3 (by have := s1.out; omega))
    | (refine wpList_alt rfl rfl ?_; intro w2 v2 b2 s2; have u1 := v1.keep b2; have c0 : w2.cell? ⟨w.heap.size, 0, none⟩ = some (.int .i64 (1073741824)) := u1.c0; clear v1)
    | (refine wpList_boxt (x := ⟨1073741824, b⟩) rfl (.tmp 0) rfl rfl ?_; intro w1 v1 b1 s1))
  refine bodyPost_ret (w := w4) (results_t Tryz.results164 _ rfl v4) rfl ?_
  have S1 := s1.out; have S2 := s2.out; have S3 := s3.out
  exact ⟨rfl, ((b1.trans (b2.mono (by omega))).trans b3).trans (b4.mono (by omega))⟩
theorem c46_in (g b : Int) (w : World) (h0 : 0 ≤ b) (h1 : b + 1 ≤ 1073741824) : Calls Tryz.prog 165 #[tv ⟨g, b⟩] w fun e w' => e = .returned (tv ⟨g, b + 1⟩) ∧ Below w.heap.size w w' := by
  go_enter Tryz.func165, Tryz.ntmps165
  go_wp2_with (first
    | (refine wpList_svt rfl (.tmp 2) (.tmp 8) rfl rfl rfl v3 ?_; intro w4 v4 b4 o4 s4)
    | (refine wpList_ldt rfl (.tmp 1) rfl rfl u3 ?_)
    | (refine wpList_sb (n := b + 1) rfl (.tmp 7) (.tmp 6) rfl rfl rfl u1 ?_; intro w3 u3 b3 o3 s3; have v3 := v2.other o3 (by have := s1.out; omega))
    | (refine wpList_alt rfl rfl ?_; intro w2 v2 b2 s2; have u1 := v1.keep b2; have c0 : w2.cell? ⟨w.heap.size, 1, none⟩ = some (.int .i64 (b)) := u1.c1; clear v1)
    | (refine wpList_boxt (x := ⟨g, b⟩) rfl (.tmp 0) rfl rfl ?_; intro w1 v1 b1 s1))
  refine bodyPost_ret (w := w4) (results_t Tryz.results165 _ rfl v4) rfl ?_
  have S1 := s1.out; have S2 := s2.out; have S3 := s3.out
  exact ⟨rfl, ((b1.trans (b2.mono (by omega))).trans b3).trans (b4.mono (by omega))⟩
theorem c46_top (g : Int) (w : World)  : Calls Tryz.prog 165 #[tv ⟨g, 1073741824⟩] w fun e w' => e = .returned (tv ⟨g, 1073741824⟩) ∧ Below w.heap.size w w' := by
  go_enter Tryz.func165, Tryz.ntmps165
  go_wp2_with (first
    | (refine wpList_svt rfl (.tmp 2) (.tmp 8) rfl rfl rfl v3 ?_; intro w4 v4 b4 o4 s4)
    | (refine wpList_ldt rfl (.tmp 1) rfl rfl u3 ?_)
    | (refine wpList_sb (n := 1073741824) rfl (.tmp 7) (.tmp 6) rfl rfl rfl u1 ?_; intro w3 u3 b3 o3 s3; have v3 := v2.other o3 (by have := s1.out; omega))
    | (refine wpList_alt rfl rfl ?_; intro w2 v2 b2 s2; have u1 := v1.keep b2; have c0 : w2.cell? ⟨w.heap.size, 1, none⟩ = some (.int .i64 (1073741824)) := u1.c1; clear v1)
    | (refine wpList_boxt (x := ⟨g, 1073741824⟩) rfl (.tmp 0) rfl rfl ?_; intro w1 v1 b1 s1))
  refine bodyPost_ret (w := w4) (results_t Tryz.results165 _ rfl v4) rfl ?_
  have S1 := s1.out; have S2 := s2.out; have S3 := s3.out
  exact ⟨rfl, ((b1.trans (b2.mono (by omega))).trans b3).trans (b4.mono (by omega))⟩
theorem c45_any (x : Ty) (w : World) (h1 : 0 ≤ x.g) (h2 : x.g ≤ 1073741824) : Calls Tryz.prog 164 #[tv x] w fun e w' => e = .returned (tv ⟨inc x.g, x.b⟩) ∧ Below w.heap.size w w' := by
  obtain ⟨g, b⟩ := x
  simp only at h1 h2 ⊢
  by_cases h : g + 1 ≤ 1073741824
  · rw [inc_in h]; exact c45_in g b w h1 h
  · obtain rfl : g = 1073741824 := by omega
    exact c45_top b w
theorem c46_any (x : Ty) (w : World) (h1 : 0 ≤ x.b) (h2 : x.b ≤ 1073741824) : Calls Tryz.prog 165 #[tv x] w fun e w' => e = .returned (tv ⟨x.g, inc x.b⟩) ∧ Below w.heap.size w w' := by
  obtain ⟨g, b⟩ := x
  simp only at h1 h2 ⊢
  by_cases h : b + 1 ≤ 1073741824
  · rw [inc_in h]; exact c46_in g b w h1 h
  · obtain rfl : b = 1073741824 := by omega
    exact c46_top g w
theorem c47_any (x : Ty) (w : World) : Calls Tryz.prog 166 #[tv x] w fun e w' => e = .returned (tv x) ∧ Below w.heap.size w w' := by
  go_enter Tryz.func166, Tryz.ntmps166
  go_wp2_with (first
    | (refine wpList_svt rfl (.tmp 2) (.tmp 3) rfl rfl rfl v2 ?_; intro w3 v3 b3 o3 s3)
    | (refine wpList_ldt rfl (.tmp 1) rfl rfl u2 ?_)
    | (refine wpList_alt rfl rfl ?_; intro w2 v2 b2 s2; have u2 := v1.keep b2)
    | (refine wpList_boxt (x := x) rfl (.tmp 0) rfl rfl ?_; intro w1 v1 b1 s1))
  refine bodyPost_ret (w := w3) (results_t Tryz.results166 _ rfl v3) rfl ?_
  have S1 := s1.out; have S2 := s2.out
  exact ⟨rfl, (b1.trans (b2.mono (by omega))).trans (b3.mono (by omega))⟩
theorem results_ti {w : World} {g : Nat} {x : Ty} {fn : Func} {p q : Tmp} {u : Value} (h : fn.results = #[.cell p 29, .tmp q]) (tmps : Array Value) (hp : tmps.getD p undef = .pointer (some ⟨g, 0, none⟩)) (hq : tmps.getD q undef = u) (hx : VarT w g x) :
    (results fn tmps).run Tryz.prog w = .ok (.tuple #[tv x, u]) w := by
  have := ldtv hx
  have hp' : tmps[p]?.getD undef = .pointer (some ⟨g, 0, none⟩) := by simpa using hp
  have hq' : tmps[q]?.getD undef = u := by simpa using hq
  simp only [results, h]
  simp [hp', hq', this, asAddr]
/-- A number that a tally may tell; a verdict; a tally; what Count answers. -/
def OkN (n : Int) : Prop := 0 ≤ n ∧ n ≤ 1073741824
def OkV (v : Int) : Prop := 0 ≤ v ∧ v ≤ 3
def OkT (t : Ty) : Prop := OkN t.g ∧ OkN t.b
instance (n : Int) : Decidable (OkN n) := by unfold OkN; infer_instance
instance (v : Int) : Decidable (OkV v) := by unfold OkV; infer_instance
instance (t : Ty) : Decidable (OkT t) := by unfold OkT; infer_instance
def cnt (t : Ty) (v : Int) : Ty := if v = 1 ∨ v = 2 then ⟨inc t.g, t.b⟩ else if v = 3 then ⟨t.g, inc t.b⟩ else t
def cntT (t : Ty) (v : Int) : Ty := if OkV v ∧ OkT t then cnt t v else tz
def cntE (t : Ty) (v : Int) : Int := if OkV v ∧ OkT t then 0 else 1
theorem isCount_yes (n : Int) (h : OkN n) (w : World) : Calls Tryz.prog 138 #[.int .i64 n] w fun e w' => e = .returned (.bool true) ∧ w = w' := by
  obtain ⟨h1, h2⟩ := h
  go_enter Tryz.func138, Tryz.ntmps138
  go_wp2_with fail
  go_ret
  exact ⟨ret_bool (by first | rfl | simp [h2]), rfl⟩
theorem isCount_no (n : Int) (h : ¬ OkN n) (w : World) : Calls Tryz.prog 138 #[.int .i64 n] w fun e w' => e = .returned (.bool false) ∧ w = w' := by
  unfold OkN at h
  by_cases h0 : 0 ≤ n
  · have h1 : ¬ n ≤ 1073741824 := by omega
    clear h
    go_enter Tryz.func138, Tryz.ntmps138
    go_wp2_with fail
    go_ret
    exact ⟨ret_bool (by first | rfl | simp; omega), rfl⟩
  · clear h
    go_enter Tryz.func138, Tryz.ntmps138
    go_wp2_with fail
    go_ret
    exact ⟨ret_bool (by first | rfl | simp), rfl⟩
/-- What Count gives. -/
def RetT (x : Ty) (E : Int) (w : World) (e : Ending) (w' : World) : Prop := e = .returned (.tuple #[tv x, .int .i64 E]) ∧ Below w.heap.size w w'
theorem count_noV (x : Ty) (v : Int) (w : World) (hk : KeyI v) (h : v < 0 ∨ 3 < v) : Calls Tryz.prog 96 #[tv x, .int .i64 v] w (RetT tz 1 w) := by
  have HF := hid (fun a b c d => fnd_no a b c d v h)
  have HK := hid hk
  have HC := hid counts_any
  clear h hk
  go_enter Tryz.func96, Tryz.ntmps96
  go_wp2_with (first
    | (refine wpList_svt (x := tz) rfl (.tmp 4) (.tmp 28) rfl rfl rfl v3 ?_; intro w4 v4 b4 o4 s4)
    | (refine wpList_lk rfl (.tmp 9) (.tmp 10) rfl Tryz.underlying156 .nilFunc rfl rfl m3 HK.out (HF.out _ _ _ _) (zero63 _) ?_)
    | (go_at_call 137; refine (HC.out _).mono ?_; rintro e w3 ⟨B3, n3, rfl, m3, b3⟩; have v3 := v2.keep b3)
    | (refine wpList_alt rfl rfl ?_; intro w2 v2 b2 s2)
    | (refine wpList_boxt (x := x) rfl (.tmp 0) rfl rfl ?_; intro w1 v1 b1 s1))
  refine bodyPost_ret (w := w4) (results_ti Tryz.results96 _ rfl rfl v4) rfl ?_
  have S1 := s1.out; have S2 := s2.out; have S3 := b3.size
  exact ⟨rfl, ((b1.trans (b2.mono (by omega))).trans (b3.mono (by omega))).trans (b4.mono (by omega))⟩
theorem count_noG (g b : Int) (v : Int) (w : World) (hk : KeyI v) (h : ¬ OkN g) (hf : ∀ a b c d, ∃ i u, fnd v (es4 a b c d).toList = some (some (i, u))) : Calls Tryz.prog 96 #[tv ⟨g, b⟩, .int .i64 v] w (RetT tz 1 w) := by
  have HF := hid hf
  have HK := hid hk
  have HC := hid counts_any
  have HG := hid (fun w => isCount_no g h w)
  clear h hk hf
  go_enter Tryz.func96, Tryz.ntmps96
  go_wp2_with (first
    | (refine wpList_svt (x := tz) rfl (.tmp 4) (.tmp 28) rfl rfl rfl v3 ?_; intro w4 v4 b4 o4 s4)
    | (go_at_call 138; refine (HG.out _).mono ?_; rintro e w' ⟨rfl, rfl⟩)
    | (refine wpList_lk rfl (.tmp 9) (.tmp 10) rfl Tryz.underlying156 .nilFunc rfl rfl m3 HK.out F3 (zero63 _) ?_)
    | (go_at_call 137; refine (HC.out _).mono ?_; rintro e w3 ⟨B3, n3, rfl, m3, b3⟩; have v3 := v2.keep b3; obtain ⟨i3, u3, F3⟩ := HF.out (.func (.func 166) #[] #[]) (.func (.func 164) #[] #[]) (.func (.func 164) #[] #[]) (.func (.func 165) #[] #[]); have c0 : w3.cell? ⟨w.heap.size, 0, none⟩ = some (.int .i64 g) := ((v1.keep b2).keep b3).c0)
    | (refine wpList_alt rfl rfl ?_; intro w2 v2 b2 s2)
    | (refine wpList_boxt (x := ⟨g, b⟩) rfl (.tmp 0) rfl rfl ?_; intro w1 v1 b1 s1))
  refine bodyPost_ret (w := w4) (results_ti Tryz.results96 _ rfl rfl v4) rfl ?_
  have S1 := s1.out; have S2 := s2.out; have S3 := b3.size
  exact ⟨rfl, ((b1.trans (b2.mono (by omega))).trans (b3.mono (by omega))).trans (b4.mono (by omega))⟩
theorem count_noB (g b : Int) (v : Int) (w : World) (hk : KeyI v) (h0 : OkN g) (h : ¬ OkN b) (hf : ∀ a b c d, ∃ i u, fnd v (es4 a b c d).toList = some (some (i, u))) : Calls Tryz.prog 96 #[tv ⟨g, b⟩, .int .i64 v] w (RetT tz 1 w) := by
  have HF := hid hf
  have HK := hid hk
  have HC := hid counts_any
  have HG := hid (fun w => isCount_yes g h0 w)
  have HB := hid (fun w => isCount_no b h w)
  clear h hk hf h0
  go_enter Tryz.func96, Tryz.ntmps96
  go_wp2_with (first
    | (refine wpList_svt (x := tz) rfl (.tmp 4) (.tmp 28) rfl rfl rfl v3 ?_; intro w4 v4 b4 o4 s4)
    | (go_at_call 138; (with_reducible refine (HG.out w3).mono ?_); rintro e w' ⟨rfl, rfl⟩)
    | (go_at_call 138; (with_reducible refine (HB.out w3).mono ?_); rintro e w' ⟨rfl, rfl⟩)
    | (refine wpList_lk rfl (.tmp 9) (.tmp 10) rfl Tryz.underlying156 .nilFunc rfl rfl m3 HK.out F3 (zero63 _) ?_)
    | (go_at_call 137; refine (HC.out _).mono ?_; rintro e w3 ⟨B3, n3, rfl, m3, b3⟩; have v3 := v2.keep b3; obtain ⟨i3, u3, F3⟩ := HF.out (.func (.func 166) #[] #[]) (.func (.func 164) #[] #[]) (.func (.func 164) #[] #[]) (.func (.func 165) #[] #[]); have c0 : w3.cell? ⟨w.heap.size, 0, none⟩ = some (.int .i64 g) := ((v1.keep b2).keep b3).c0; have c1 : w3.cell? ⟨w.heap.size, 1, none⟩ = some (.int .i64 b) := ((v1.keep b2).keep b3).c1)
    | (refine wpList_alt rfl rfl ?_; intro w2 v2 b2 s2)
    | (refine wpList_boxt (x := ⟨g, b⟩) rfl (.tmp 0) rfl rfl ?_; intro w1 v1 b1 s1))
  refine bodyPost_ret (w := w4) (results_ti Tryz.results96 _ rfl rfl v4) rfl ?_
  have S1 := s1.out; have S2 := s2.out; have S3 := b3.size
  exact ⟨rfl, ((b1.trans (b2.mono (by omega))).trans (b3.mono (by omega))).trans (b4.mono (by omega))⟩
theorem count_ok45 (g b : Int) (v : Int) (y : Ty) (i : Nat) (w : World) (hk : KeyI v) (h0 : OkN g) (h : OkN b) (hf : fnd v (es4 (.func (.func 166) #[] #[]) (.func (.func 164) #[] #[]) (.func (.func 164) #[] #[]) (.func (.func 165) #[] #[])).toList = some (some (i, .func (.func 164) #[] #[])))
    (hc : ∀ w, Calls Tryz.prog 164 #[tv ⟨g, b⟩] w fun e w' => e = .returned (tv y) ∧ Below w.heap.size w w') : Calls Tryz.prog 96 #[tv ⟨g, b⟩, .int .i64 v] w (RetT y 0 w) := by
  have HF := hid hf
  have HK := hid hk
  have HC := hid counts_any
  have HG := hid (fun w => isCount_yes g h0 w)
  have HB := hid (fun w => isCount_yes b h w)
  have HD := hid hc
  clear h hk hf h0 hc
  go_enter Tryz.func96, Tryz.ntmps96
  go_wp2_with (first
    | (refine wpList_svt rfl (.tmp 4) (.tmp 31) rfl rfl rfl v4 ?_; intro w5 v5 b5 o5 s5)
    | (refine wpList_ldt rfl (.tmp 2) rfl rfl u3 ?_)
    | (go_at_call 138; (with_reducible refine (HG.out w3).mono ?_); rintro e w' ⟨rfl, rfl⟩)
    | (go_at_call 138; (with_reducible refine (HB.out w3).mono ?_); rintro e w' ⟨rfl, rfl⟩)
    | (go_at_call 164; refine (HD.out _).mono ?_; rintro e w4 ⟨rfl, b4⟩; have v4 := v3.keep b4)
    | (refine wpList_lk rfl (.tmp 9) (.tmp 10) rfl Tryz.underlying156 .nilFunc rfl rfl m3 HK.out HF.out (zero63 _) ?_)
    | (go_at_call 137; refine (HC.out _).mono ?_; rintro e w3 ⟨B3, n3, rfl, m3, b3⟩; have v3 := v2.keep b3; have u3 := (v1.keep b2).keep b3; have c0 : w3.cell? ⟨w.heap.size, 0, none⟩ = some (.int .i64 g) := ((v1.keep b2).keep b3).c0; have c1 : w3.cell? ⟨w.heap.size, 1, none⟩ = some (.int .i64 b) := ((v1.keep b2).keep b3).c1)
    | (refine wpList_alt rfl rfl ?_; intro w2 v2 b2 s2)
    | (refine wpList_boxt (x := ⟨g, b⟩) rfl (.tmp 0) rfl rfl ?_; intro w1 v1 b1 s1))
  refine bodyPost_ret (w := w5) (results_ti Tryz.results96 _ rfl rfl v5) rfl ?_
  have S1 := s1.out; have S2 := s2.out; have S3 := b3.size; have S4 := b4.size
  exact ⟨rfl, (((b1.trans (b2.mono (by omega))).trans (b3.mono (by omega))).trans (b4.mono (by omega))).trans (b5.mono (by omega))⟩
theorem count_ok46 (g b : Int) (v : Int) (y : Ty) (i : Nat) (w : World) (hk : KeyI v) (h0 : OkN g) (h : OkN b) (hf : fnd v (es4 (.func (.func 166) #[] #[]) (.func (.func 164) #[] #[]) (.func (.func 164) #[] #[]) (.func (.func 165) #[] #[])).toList = some (some (i, .func (.func 165) #[] #[])))
    (hc : ∀ w, Calls Tryz.prog 165 #[tv ⟨g, b⟩] w fun e w' => e = .returned (tv y) ∧ Below w.heap.size w w') : Calls Tryz.prog 96 #[tv ⟨g, b⟩, .int .i64 v] w (RetT y 0 w) := by
  have HF := hid hf
  have HK := hid hk
  have HC := hid counts_any
  have HG := hid (fun w => isCount_yes g h0 w)
  have HB := hid (fun w => isCount_yes b h w)
  have HD := hid hc
  clear h hk hf h0 hc
  go_enter Tryz.func96, Tryz.ntmps96
  go_wp2_with (first
    | (refine wpList_svt rfl (.tmp 4) (.tmp 31) rfl rfl rfl v4 ?_; intro w5 v5 b5 o5 s5)
    | (refine wpList_ldt rfl (.tmp 2) rfl rfl u3 ?_)
    | (go_at_call 138; (with_reducible refine (HG.out w3).mono ?_); rintro e w' ⟨rfl, rfl⟩)
    | (go_at_call 138; (with_reducible refine (HB.out w3).mono ?_); rintro e w' ⟨rfl, rfl⟩)
    | (go_at_call 165; refine (HD.out _).mono ?_; rintro e w4 ⟨rfl, b4⟩; have v4 := v3.keep b4)
    | (refine wpList_lk rfl (.tmp 9) (.tmp 10) rfl Tryz.underlying156 .nilFunc rfl rfl m3 HK.out HF.out (zero63 _) ?_)
    | (go_at_call 137; refine (HC.out _).mono ?_; rintro e w3 ⟨B3, n3, rfl, m3, b3⟩; have v3 := v2.keep b3; have u3 := (v1.keep b2).keep b3; have c0 : w3.cell? ⟨w.heap.size, 0, none⟩ = some (.int .i64 g) := ((v1.keep b2).keep b3).c0; have c1 : w3.cell? ⟨w.heap.size, 1, none⟩ = some (.int .i64 b) := ((v1.keep b2).keep b3).c1)
    | (refine wpList_alt rfl rfl ?_; intro w2 v2 b2 s2)
    | (refine wpList_boxt (x := ⟨g, b⟩) rfl (.tmp 0) rfl rfl ?_; intro w1 v1 b1 s1))
  refine bodyPost_ret (w := w5) (results_ti Tryz.results96 _ rfl rfl v5) rfl ?_
  have S1 := s1.out; have S2 := s2.out; have S3 := b3.size; have S4 := b4.size
  exact ⟨rfl, (((b1.trans (b2.mono (by omega))).trans (b3.mono (by omega))).trans (b4.mono (by omega))).trans (b5.mono (by omega))⟩
theorem count_ok47 (g b : Int) (v : Int) (y : Ty) (i : Nat) (w : World) (hk : KeyI v) (h0 : OkN g) (h : OkN b) (hf : fnd v (es4 (.func (.func 166) #[] #[]) (.func (.func 164) #[] #[]) (.func (.func 164) #[] #[]) (.func (.func 165) #[] #[])).toList = some (some (i, .func (.func 166) #[] #[])))
    (hc : ∀ w, Calls Tryz.prog 166 #[tv ⟨g, b⟩] w fun e w' => e = .returned (tv y) ∧ Below w.heap.size w w') : Calls Tryz.prog 96 #[tv ⟨g, b⟩, .int .i64 v] w (RetT y 0 w) := by
  have HF := hid hf
  have HK := hid hk
  have HC := hid counts_any
  have HG := hid (fun w => isCount_yes g h0 w)
  have HB := hid (fun w => isCount_yes b h w)
  have HD := hid hc
  clear h hk hf h0 hc
  go_enter Tryz.func96, Tryz.ntmps96
  go_wp2_with (first
    | (refine wpList_svt rfl (.tmp 4) (.tmp 31) rfl rfl rfl v4 ?_; intro w5 v5 b5 o5 s5)
    | (refine wpList_ldt rfl (.tmp 2) rfl rfl u3 ?_)
    | (go_at_call 138; (with_reducible refine (HG.out w3).mono ?_); rintro e w' ⟨rfl, rfl⟩)
    | (go_at_call 138; (with_reducible refine (HB.out w3).mono ?_); rintro e w' ⟨rfl, rfl⟩)
    | (go_at_call 166; refine (HD.out _).mono ?_; rintro e w4 ⟨rfl, b4⟩; have v4 := v3.keep b4)
    | (refine wpList_lk rfl (.tmp 9) (.tmp 10) rfl Tryz.underlying156 .nilFunc rfl rfl m3 HK.out HF.out (zero63 _) ?_)
    | (go_at_call 137; refine (HC.out _).mono ?_; rintro e w3 ⟨B3, n3, rfl, m3, b3⟩; have v3 := v2.keep b3; have u3 := (v1.keep b2).keep b3; have c0 : w3.cell? ⟨w.heap.size, 0, none⟩ = some (.int .i64 g) := ((v1.keep b2).keep b3).c0; have c1 : w3.cell? ⟨w.heap.size, 1, none⟩ = some (.int .i64 b) := ((v1.keep b2).keep b3).c1)
    | (refine wpList_alt rfl rfl ?_; intro w2 v2 b2 s2)
    | (refine wpList_boxt (x := ⟨g, b⟩) rfl (.tmp 0) rfl rfl ?_; intro w1 v1 b1 s1))
  refine bodyPost_ret (w := w5) (results_ti Tryz.results96 _ rfl rfl v5) rfl ?_
  have S1 := s1.out; have S2 := s2.out; have S3 := b3.size; have S4 := b4.size
  exact ⟨rfl, (((b1.trans (b2.mono (by omega))).trans (b3.mono (by omega))).trans (b4.mono (by omega))).trans (b5.mono (by omega))⟩
theorem count_any (x : Ty) (v : Int) (w : World) (hk : KeyI v) : Calls Tryz.prog 96 #[tv x, .int .i64 v] w (RetT (cntT x v) (cntE x v) w) := by
  obtain ⟨g, b⟩ := x
  by_cases hv : OkV v
  · have hf : ∀ a b c d, ∃ i u, fnd v (es4 a b c d).toList = some (some (i, u)) := by
      intro a b c d
      unfold OkV at hv
      obtain rfl | rfl | rfl | rfl : v = 0 ∨ v = 1 ∨ v = 2 ∨ v = 3 := by omega
      · exact ⟨_, _, fnd0 a b c d⟩
      · exact ⟨_, _, fnd1 a b c d⟩
      · exact ⟨_, _, fnd2 a b c d⟩
      · exact ⟨_, _, fnd3 a b c d⟩
    by_cases hg : OkN g
    · by_cases hb : OkN b
      · have e1 : cntT ⟨g, b⟩ v = cnt ⟨g, b⟩ v := if_pos ⟨hv, hg, hb⟩
        have e2 : cntE ⟨g, b⟩ v = 0 := if_pos ⟨hv, hg, hb⟩
        rw [e1, e2]
        unfold OkV at hv
        obtain rfl | rfl | rfl | rfl : v = 0 ∨ v = 1 ∨ v = 2 ∨ v = 3 := by omega
        · exact count_ok47 g b 0 _ _ w hk hg hb (fnd0 _ _ _ _) (fun w => c47_any _ w)
        · exact count_ok45 g b 1 _ _ w hk hg hb (fnd1 _ _ _ _) (fun w => c45_any _ w hg.1 hg.2)
        · exact count_ok45 g b 2 _ _ w hk hg hb (fnd2 _ _ _ _) (fun w => c45_any _ w hg.1 hg.2)
        · exact count_ok46 g b 3 _ _ w hk hg hb (fnd3 _ _ _ _) (fun w => c46_any _ w hb.1 hb.2)
      · have e1 : cntT ⟨g, b⟩ v = tz := if_neg fun h => hb h.2.2
        have e2 : cntE ⟨g, b⟩ v = 1 := if_neg fun h => hb h.2.2
        rw [e1, e2]; exact count_noB g b v w hk hg hb hf
    · have e1 : cntT ⟨g, b⟩ v = tz := if_neg fun h => hg h.2.1
      have e2 : cntE ⟨g, b⟩ v = 1 := if_neg fun h => hg h.2.1
      rw [e1, e2]; exact count_noG g b v w hk hg hf
  · have e1 : cntT ⟨g, b⟩ v = tz := if_neg fun h => hv h.1
    have e2 : cntE ⟨g, b⟩ v = 1 := if_neg fun h => hv h.1
    rw [e1, e2]; exact count_noV ⟨g, b⟩ v w hk (by unfold OkV at hv; omega)
theorem clique_any (x : Ty) (c : Bool) (hc : decide (0 < x.b ∧ x.g ≤ x.b) = c) (w : World) : Calls Tryz.prog 128 #[tv x] w fun e w' => e = .returned (.bool c) ∧ Below w.heap.size w w' := by
  obtain ⟨g, b⟩ := x
  simp only at hc
  by_cases h : 0 < b
  · go_enter Tryz.func128, Tryz.ntmps128
    go_wp2_with (refine wpList_boxt (x := ⟨g, b⟩) rfl (.tmp 0) rfl rfl ?_; intro w1 v1 b1 s1; have c0 : w1.cell? ⟨w.heap.size, 0, none⟩ = some (.int .i64 g) := v1.c0; have c1 : w1.cell? ⟨w.heap.size, 1, none⟩ = some (.int .i64 b) := v1.c1)
    go_ret
    exact ⟨ret_bool (by rw [← hc]; simp [h]), b1⟩
  · go_enter Tryz.func128, Tryz.ntmps128
    go_wp2_with (refine wpList_boxt (x := ⟨g, b⟩) rfl (.tmp 0) rfl rfl ?_; intro w1 v1 b1 s1; have c0 : w1.cell? ⟨w.heap.size, 0, none⟩ = some (.int .i64 g) := v1.c0; have c1 : w1.cell? ⟨w.heap.size, 1, none⟩ = some (.int .i64 b) := v1.c1)
    go_ret
    exact ⟨ret_bool (by rw [← hc, eq_comm, decide_eq_false_iff_not]; omega), b1⟩
end Go.Proofs.YtlgedfljmgedfaaGreat.M10
