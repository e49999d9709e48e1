/-
  Words for the statement KernelOrders: what is done (Act) as four cells, a slice of such that came in; a row that a store into a map leaves. No condition but what each head says.
-/
import Derived.Test.YtpfidohneddgkaaOA
import Derived.Test.YtpfidohneddgkaaR
namespace Go.Proofs.Ytpfidohneddgkaa
open Go Go.ChangeShapes Go.WideShapes Go.ChangeAt Go.RowKit Go.Maps

abbrev Ac : Type := Int × Int × Int × Int
def encA (x : Ac) : List Value := [.int .u8 x.1, .int .u16 x.2.1, .int .u8 x.2.2.1, .int .u8 x.2.2.2]
def acv (x : Ac) : Value := .agg (encA x).toArray
def az : Ac := (0, 0, 0, 0)
theorem encA_len (x : Ac) : (encA x).length = 4 := rfl
theorem encA_one (x : Ac) : ∀ u ∈ encA x, u.oneCell' = true := by
  intro u hu; simp [encA] at hu; rcases hu with rfl | rfl | rfl | rfl <;> rfl
theorem size49 : (Try.prog.info? 49).map (·.size) = some 4 := by kernel_rfl
theorem zero49 (w : World) : (zeroValue 49).run Try.prog w = .ok (acv az) w := by kernel_rfl
def VarA (w : World) (g : Nat) (x : Ac) : Prop := w.rangeAt g 0 (encA x) ∧ w.there g 0 4
def AcOk (x : Ac) : Prop := (0 ≤ x.1 ∧ x.1 ≤ 255) ∧ (0 ≤ x.2.1 ∧ x.2.1 ≤ 65535) ∧ (0 ≤ x.2.2.1 ∧ x.2.2.1 ≤ 255) ∧ (0 ≤ x.2.2.2 ∧ x.2.2.2 ≤ 255)
/-- A slice of what is done, that came in. -/
def Acts (w : World) (A : Option Addr) (n : Nat) : Prop := ∀ i, i < n → ∃ b o x, A = some ⟨b, o, none⟩ ∧ b < w.heap.size ∧ w.rangeAt b (o + i * 4) (encA x) ∧ AcOk x
section
variable {w w' : World} {g : Nat} {x : Ac}
theorem VarA.lt (h : VarA w g x) : g < w.heap.size := World.block_lt_of_cell? w _ (h.1 0 _ rfl)
theorem VarA.below2 (h : VarA w g x) (hk : Below w.heap.size w w') : VarA w' g x := ⟨range_keep h.1 h.lt hk, there_keep h.2 h.lt hk⟩
theorem VarA.other (h : VarA w g x) {b : Nat} (ho : Oth b w w') (hb : g ≠ b) : VarA w' g x := ⟨range_other h.1 hb ho, there_other h.2 hb ho⟩
theorem VarA.grown {row : Option Nat} (h : VarA w g x) (hg : w.grownBy w' row) (hne : some g ≠ row) : VarA w' g x := by
  have hb := hg.block g h.lt hne
  exact ⟨fun j v hv => (World.cell?_of_block (a := ⟨g, 0 + j, none⟩) hb).trans (h.1 j v hv), fun j hj => ⟨by rw [World.cell?_of_block (a := ⟨g, 0 + j, none⟩) hb]; exact (h.2 j hj).1, by rw [World.frozen?_of_block (a := ⟨g, 0 + j, none⟩) hb]; exact (h.2 j hj).2⟩⟩
theorem VarA.c0 (h : VarA w g x) : w.cell? ⟨g, 0, none⟩ = some (.int .u8 x.1) := h.1 0 _ rfl
theorem VarA.c1 (h : VarA w g x) : w.cell? ⟨g, 1, none⟩ = some (.int .u16 x.2.1) := h.1 1 _ rfl
theorem VarA.c2 (h : VarA w g x) : w.cell? ⟨g, 2, none⟩ = some (.int .u8 x.2.2.1) := h.1 2 _ rfl
theorem VarA.c3 (h : VarA w g x) : w.cell? ⟨g, 3, none⟩ = some (.int .u8 x.2.2.2) := h.1 3 _ rfl
theorem vara_new (w : World) (x : Ac) (t : TypeId) : VarA (w.alloc (.cells (encA x).toArray t)) w.heap.size x := by
  have h1 : (w.alloc (.cells (encA x).toArray t)).rangeAt w.heap.size 0 (encA x) := fun j v hv => by
    rw [Nat.zero_add, cell_of_row _ _ _ _ _ _ (heap_alloc_new w _)]
    simpa using hv
  refine ⟨h1, fun j hj => ⟨?_, frozen_of_row _ _ _ _ _ (heap_alloc_new w _)⟩⟩
  rw [h1 j _ (List.getElem?_eq_getElem (by rw [encA_len]; exact hj))]; rfl
theorem Row.grownNe {B n b : Nat} {A : Option Addr} {xs : List It} (h : Row w B A n xs) (hg : w.grownBy w' (some b)) (hA : ∀ g o, A = some ⟨g, o, Option.none⟩ → g ≠ b) : Row w' B A n xs :=
  ⟨h.1, fun hn => by
    obtain ⟨g, o, e, hb, hc⟩ := h.2 hn
    exact ⟨g, o, e, hb, fun j u hu => hg.cell (hc j u hu) (by simpa using hA g o e)⟩⟩
variable {ops : Array Oper} {rest : List Oper} {o : Oper} {a : Act} {Q : Exit → Act → World → Prop}
theorem wpList_ala (hg : o.guard = none) (ho : o.op = .alloc 49)
    (h : ∀ w', VarA w' w.heap.size az → Below w.heap.size w w' → Hid (w'.heap.size = w.heap.size + 1) → wpList Try.prog ops Q rest (a.put o.dst (.pointer (some ⟨w.heap.size, 0, none⟩))) w') : wpList Try.prog ops Q (o :: rest) a w := by
  refine wpList_plain hg fun K hK => ?_
  unfold Oper.wp execOp
  simp only [ho, Sem.run_bind, Instr.alloc, zero49, newVar, newRow, run_newObj_alloc, Sem.run_pure, Result.andThen_ok]
  exact hK _ _ (h _ (vara_new w az 49) ((Below.refl _ _).alloc (Nat.le_refl _) _) (hid (by simp)))
theorem wpList_sva (hg : o.guard = none) (x y : Operand) (ho : o.op = .store 49 x y) {v p : Ac} (hx : a.eval x = .pointer (some ⟨g, 0, none⟩)) (hy : a.eval y = acv v) (hv : VarA w g p)
    (h : ∀ w', VarA w' g v → Below g w w' → Oth g w w' → Hid (w'.heap.size = w.heap.size) → wpList Try.prog ops Q rest (a.put o.dst undef) w') : wpList Try.prog ops Q (o :: rest) a w :=
  wpList_store_mid hg 49 x y ho g 0 (encA v).toArray hx hy hv.2 (by rw [size49]; rfl) (all_oneCell_toArray (encA_one v)) (h _ ⟨World.rangeAt_setCells_same w g 0 (encA v) hv.2, there_set _ _ hv.2⟩ (setCells_oth g _ _ _).1 (setCells_oth g _ _ _).2 (hid (setCells_size _ _ _ _)))
theorem wpList_lda (hg : o.guard = none) (x : Operand) (ho : o.op = .load 49 x) {b off : Nat} {v : Ac} (hx : a.eval x = .pointer (some ⟨b, off, none⟩)) (hr : w.rangeAt b off (encA v))
    (h : wpList Try.prog ops Q rest (a.put o.dst (acv v)) w) : wpList Try.prog ops Q (o :: rest) a w :=
  wpList_load_mid hg 49 x ho b off hx (encA v) _ hr Try.underlying49 rfl (by rw [size49]; rfl) h
end
section
variable {H : Type} {hv : TypeId × Value → H} {W : World}
set_option maxRecDepth 100000 in
theorem act_of {base : Nat} {spare : Nat → Bool} {held : Bool} {fuel : Nat} {cs : List Value} {x : DataW H × List MemPlace} (h : DataW.trod hv Try.prog W base spare held fuel 49 cs = some x) : ∃ z : Ac, cs = encA z ∧ AcOk z := by
  obtain ⟨xs, n, _, _, hl, hx, hf⟩ := DataW.trod_struct Try.underlying49 h
  have hl4 : cs.length = 4 := hl.trans (by kernel_rfl)
  have hx4 : xs.length = 4 := hx
  have c5 : Try.prog.cellsOf 5 = 1 := by kernel_rfl
  have c46 : Try.prog.cellsOf 46 = 1 := by kernel_rfl
  have f0 : DataW.trod hv Try.prog W base spare held n 5 ((cs.drop 0).take (Try.prog.cellsOf 5)) = xs[0]? := hf 0 _ rfl
  have f1 : DataW.trod hv Try.prog W base spare held n 46 ((cs.drop 1).take (Try.prog.cellsOf 46)) = xs[1]? := hf 1 _ rfl
  have f2 : DataW.trod hv Try.prog W base spare held n 5 ((cs.drop 2).take (Try.prog.cellsOf 5)) = xs[2]? := hf 2 _ rfl
  have f3 : DataW.trod hv Try.prog W base spare held n 5 ((cs.drop 3).take (Try.prog.cellsOf 5)) = xs[3]? := hf 3 _ rfl
  rw [c5] at f0 f2 f3; rw [c46] at f1
  rw [List.getElem?_eq_getElem (by omega)] at f0 f1 f2 f3
  obtain ⟨z0, e0, _, w0⟩ := DataW.trod_int Try.underlying5 f0
  obtain ⟨z1, e1, _, w1⟩ := DataW.trod_int Try.underlying46 f1
  obtain ⟨z2, e2, _, w2⟩ := DataW.trod_int Try.underlying5 f2
  obtain ⟨z3, e3, _, w3⟩ := DataW.trod_int Try.underlying5 f3
  match cs, hl4 with
  | [a0, a1, a2, a3], _ =>
    simp at e0 e1 e2 e3
    exact ⟨(z0, z1, z2, z3), by subst e0 e1 e2 e3; rfl, bounds_u8 w0, bounds_u16 w1, bounds_u8 w2, bounds_u8 w3⟩
set_option maxRecDepth 100000 in
theorem came_acts {A : Option Addr} {n c : Nat} {d : DataW H} {p : List MemPlace} (h : DataW.Trod hv Try.prog W 0 (fun _ => true) true 45 (.slice A n c) d p) : Acts W A n ∧ n ≤ 9223372036854775807 := by
  obtain ⟨fuel, hf⟩ := h
  rcases Deep.open_slice Try.underlying45 hf with ⟨hcs, hx⟩ | ⟨a, len, cap, m, k, D, Pl, hcs, _, hl, hm, hmm, hx, hi⟩
  · simp [Value.cells] at hcs
    obtain ⟨rfl, rfl, rfl⟩ := hcs
    exact ⟨fun i hi => by omega, by decide⟩
  · simp [Value.cells] at hcs
    obtain ⟨rfl, rfl, rfl⟩ := hcs
    have hC : Try.prog.cellsOf 49 = 4 := by kernel_rfl
    simp only [if_true] at hmm
    rw [hmm] at hi
    refine ⟨fun i hin => ?_, by unfold maxLen at hm; omega⟩
    obtain ⟨cs', hcells, ht⟩ := hi i (by omega)
    obtain ⟨z, rfl, hz⟩ := act_of ht
    rw [hC] at hcells
    obtain ⟨_, _, hat⟩ := World.cells?_some hcells
    have hat' : ∀ j, j < 4 → W.cell? (a.add (i * 4 + j)) = (encA z)[j]? := fun j hj => by rw [← Deep.add_add]; exact hat j hj
    obtain ⟨cs0, hcells0, ht0⟩ := hi 0 (by omega)
    obtain ⟨z0, rfl, _⟩ := act_of ht0
    rw [hC] at hcells0
    obtain ⟨_, _, hat0⟩ := World.cells?_some hcells0
    obtain ⟨b, off, spot⟩ := a
    have hs00 : W.cell? (((⟨b, off, spot⟩ : Addr).add (0 * 4)).add 0) = some ((encA z0)[0]'(by rw [encA_len]; omega)) := by rw [hat0 0 (by omega), List.getElem?_eq_getElem]
    have hspot : spot = none := by simpa [Addr.add] using World.cell?_spot hs00
    subst hspot
    have hs0 : W.cell? ((⟨b, off, none⟩ : Addr).add (i * 4 + 0)) = some ((encA z)[0]'(by rw [encA_len]; omega)) := by rw [hat' 0 (by omega), List.getElem?_eq_getElem]
    rw [plain_add] at hs0
    refine ⟨b, off, z, rfl, World.block_lt_of_cell? W _ hs0, fun j u hu => ?_, hz⟩
    have hj : j < 4 := by have := (List.getElem?_eq_some_iff.1 hu).1; rwa [encA_len] at this
    have := hat' j hj
    rw [plain_add] at this
    rw [Nat.add_assoc, this]; exact hu
end
end Go.Proofs.Ytpfidohneddgkaa
