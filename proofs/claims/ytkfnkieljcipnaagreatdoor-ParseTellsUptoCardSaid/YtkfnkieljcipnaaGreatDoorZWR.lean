/-
  From a row's argument to the walks' words: statements that came in (slices of structs that hold slices of numbers and of such statements) read as a forest. No condition of its own.
-/
import Derived.Test.YtkfnkieljcipnaaGreatDoorK8
import Derived.Test.YtkfnkieljcipnaaGreatDoorK6
import Derived.ChangeOld
import Derived.SizedLaws
import Derived.Carry
import Derived.Deep.Slices
namespace Go.Proofs.YtkfnkieljcipnaaGreatDoor
open Go Go.ChangeShapes Go.WideShapes Go.ChangeAt Go.RowKit

theorem laidOut : laidOutB Tryz.prog = true := by kernel_rfl
theorem pick {α : Type} [Inhabited α] {n : Nat} {P : Nat → α → Prop} (h : ∀ i, i < n → ∃ x, P i x) : ∃ f : Nat → α, ∀ i, i < n → P i (f i) :=
  ⟨fun i => if h' : i < n then (h i h').choose else default, fun i hi => by simp only [dif_pos hi]; exact (h i hi).choose_spec⟩
instance : Inhabited Sm := ⟨⟨[], none, 0, 0, false, none, 0, 0⟩⟩
section
variable {H : Type} {hv : TypeId × Value → H} {W : World}
theorem trod_lt0 {t : TypeId} {v : Value} {d : DataW H} {p : List MemPlace} (h : DataW.Trod hv Tryz.prog W 0 (fun _ => true) true t v d p) : ∀ x ∈ p, x.block < W.heap.size := by
  obtain ⟨m, hm⟩ := h; exact DataW.trod_lt m _ _ _ hm
theorem row_of {vs : List Value} {A : Addr} (h : ∀ j u, vs[j]? = some u → W.cell? (A.add j) = some u) (h0 : 0 < vs.length) : ∃ b o, A = ⟨b, o, none⟩ ∧ b < W.heap.size ∧ W.rangeAt b o vs := by
  obtain ⟨b, off, spot⟩ := A
  have h0 := h 0 (vs[0]'h0) (List.getElem?_eq_getElem h0)
  have hspot : spot = none := by simpa [Addr.add] using World.cell?_spot h0
  subst hspot
  rw [plain_add] at h0
  exact ⟨b, off, rfl, World.block_lt_of_cell? W _ h0, fun j u hu => by have := h j u hu; rwa [plain_add] at this⟩
/-- Things whose cells lie one behind the other are a row. -/
theorem row_made {α : Type} {σ : Sh Tryz.prog α} {a : Addr} {n : Nat} {f : Nat → α} (h : ∀ i, i < n → ∀ j, j < σ.N → W.cell? (a.add (i * σ.N + j)) = (σ.enc (f i))[j]?) :
    RwP σ W (fun b => b < W.heap.size) (some a) n ((List.range n).map f) := by
  refine ⟨by simp, fun hp => ?_⟩
  have hfl : (σ.flat ((List.range n).map f)).length = n * σ.N := by rw [Sh.flat_len]; simp
  have hN := σ.pos
  obtain ⟨b, o, e, hb, hr⟩ := row_of (W := W) (vs := σ.flat ((List.range n).map f)) (A := a) (fun j u hu => by
    have hj : j < n * σ.N := by have := (List.getElem?_eq_some_iff.1 hu).1; rwa [hfl] at this
    have hd : j / σ.N < n := (Nat.div_lt_iff_lt_mul hN).2 hj
    have hm : j % σ.N < σ.N := Nat.mod_lt _ hN
    have e4 : j / σ.N * σ.N + j % σ.N = j := Nat.div_add_mod' j σ.N
    have h1 := Sh.flat_at σ ((List.range n).map f) (j / σ.N) (j % σ.N) (by simpa using hd) hm
    rw [e4] at h1
    have h2 : σ.nth ((List.range n).map f) (j / σ.N) = f (j / σ.N) := Sh.nth_of σ (by rw [List.getElem?_map, List.getElem?_range hd]; rfl)
    rw [h2, hu] at h1
    have h3 := h (j / σ.N) hd (j % σ.N) hm
    rw [e4, ← h1] at h3
    exact h3) (by rw [hfl]; exact Nat.mul_pos hp hN)
  subst e
  exact ⟨b, o, rfl, hb, hr⟩
set_option maxRecDepth 100000 in
theorem num_of {fuel : Nat} {cs : List Value} {x : DataW H × List MemPlace} (hf : DataW.trod hv Tryz.prog W 0 (fun _ => true) true fuel 38 cs = some x) : ∃ z : Int × Bool, cs = nmS.enc z := by
  obtain ⟨xs, m, _, _, hl, hx, hf⟩ := DataW.trod_struct Tryz.underlying38 hf
  have hl2 : cs.length = 2 := hl.trans (by kernel_rfl)
  have hx2 : xs.length = 2 := hx
  have c2 : Tryz.prog.cellsOf 2 = 1 := by kernel_rfl
  have c4 : Tryz.prog.cellsOf 4 = 1 := by kernel_rfl
  have f0 : DataW.trod hv Tryz.prog W 0 (fun _ => true) true m 2 ((cs.drop 0).take (Tryz.prog.cellsOf 2)) = xs[0]? := hf 0 _ rfl
  have f1 : DataW.trod hv Tryz.prog W 0 (fun _ => true) true m 4 ((cs.drop 1).take (Tryz.prog.cellsOf 4)) = xs[1]? := hf 1 _ rfl
  rw [c2] at f0; rw [c4] at f1
  rw [List.getElem?_eq_getElem (by omega)] at f0 f1
  obtain ⟨z0, e0, _⟩ := DataW.trod_int Tryz.underlying2 f0
  obtain ⟨z1, e1, _⟩ := DataW.trod_bool Tryz.underlying4 f1
  match cs, hl2 with
  | [a0, a1], _ =>
    simp at e0 e1
    exact ⟨(z0, z1), by subst e0 e1; rfl⟩
set_option maxRecDepth 100000 in
theorem nums_came {fuel : Nat} {cs : List Value} {x : DataW H × List MemPlace} (hf : DataW.trod hv Tryz.prog W 0 (fun _ => true) true fuel 34 cs = some x) :
    ∃ A n c ns, cs = [.slice A n c] ∧ RwP nmS W (fun b => b < W.heap.size) A n ns ∧ n ≤ 9223372036854775807 := by
  rcases Deep.open_slice Tryz.underlying34 hf with ⟨hcs, hx⟩ | ⟨a, n, c, m, k, D, Pl, hcs, _, hl, hm, hmm, hx, hi⟩
  · exact ⟨none, 0, 0, [], hcs, RwP.nil, by decide⟩
  · have hC : Tryz.prog.cellsOf 38 = 2 := by kernel_rfl
    simp only [if_true] at hmm
    rw [hmm] at hi
    obtain ⟨f, hf'⟩ := pick (α := Int × Bool) (n := c) (P := fun i z => ∀ j, j < 2 → W.cell? (a.add (i * 2 + j)) = (nmS.enc z)[j]?) (fun i hic => by
      obtain ⟨cs', hcells, ht⟩ := hi i hic
      obtain ⟨z, rfl⟩ := num_of ht
      rw [hC] at hcells
      obtain ⟨_, _, hat⟩ := World.cells?_some hcells
      exact ⟨z, fun j hj => by rw [← Deep.add_add]; exact hat j hj⟩)
    exact ⟨some a, n, c, _, hcs, row_made (σ := nmS) (fun i hi j hj => hf' i (by omega) j hj), by unfold maxLen at hm; omega⟩
def StmAt (W : World) (z : Sm) : Prop := (∃ ns, RwP nmS W (fun b => b < W.heap.size) z.nA z.nn ns) ∧ ∃ y, TrS W (fun b => b < W.heap.size) z.bA z.bn y
theorem tr_made : ∀ xs : List Sm, (∀ z ∈ xs, StmAt W z) → ∃ f, Tr W (fun b => b < W.heap.size) f xs
  | [], _ => ⟨.nil, rfl⟩
  | z :: xs, h => by
    obtain ⟨f, hf⟩ := tr_made xs fun y hy => h y (List.mem_cons_of_mem _ hy)
    obtain ⟨⟨ns, h1⟩, y, h2⟩ := h z (List.mem_cons_self ..)
    exact ⟨.cons z.word ns z.block y f, z, xs, rfl, rfl, rfl, h1, h2, hf⟩
set_option maxRecDepth 100000 in
theorem stmts_came : ∀ (fuel : Nat) {cs : List Value} {x : DataW H × List MemPlace}, DataW.trod hv Tryz.prog W 0 (fun _ => true) true fuel 24 cs = some x →
    ∃ A n c f, cs = [.slice A n c] ∧ TrS W (fun b => b < W.heap.size) A n f ∧ n ≤ 9223372036854775807 := by
  intro fuel
  induction fuel using Nat.strongRecOn with
  | _ fuel ih =>
  intro cs x hf
  rcases DataW.trod_slice Tryz.underlying24 hf with ⟨hcs, hx⟩ | ⟨a, n, c, elems, rest, m, hfu, hcs, _, _, hl, hm, hel, hi, _, _⟩
  · exact ⟨none, 0, 0, .nil, hcs, TrS.nil, by decide⟩
  · have hC : Tryz.prog.cellsOf 36 = 4 := by kernel_rfl
    obtain ⟨f, hf'⟩ := pick (α := Sm) (n := n) (P := fun i z => (∀ j, j < 4 → W.cell? (a.add (i * 4 + j)) = (smS.enc z)[j]?) ∧ StmAt W z) (fun i hic => by
      have hii := hi i hic
      rw [List.getElem?_eq_getElem (by omega)] at hii
      obtain ⟨cs', hcells, ht⟩ := Option.bind_eq_some_iff.1 hii
      rw [hC] at hcells
      obtain ⟨_, _, hat⟩ := World.cells?_some hcells
      obtain ⟨xs, m2, hfu2, _, hl4', hx4', hfl⟩ := DataW.trod_struct Tryz.underlying36 ht
      have hl4 : cs'.length = 4 := hl4'.trans (by kernel_rfl)
      have hx4 : xs.length = 4 := hx4'
      have c9 : Tryz.prog.cellsOf 9 = 1 := by kernel_rfl
      have cN : Tryz.prog.cellsOf 34 = 1 := by kernel_rfl
      have c4 : Tryz.prog.cellsOf 4 = 1 := by kernel_rfl
      have cS : Tryz.prog.cellsOf 24 = 1 := by kernel_rfl
      have f0 : DataW.trod hv Tryz.prog W 0 (fun _ => true) true m2 9 ((cs'.drop 0).take (Tryz.prog.cellsOf 9)) = xs[0]? := hfl 0 _ rfl
      have f1 : DataW.trod hv Tryz.prog W 0 (fun _ => true) true m2 34 ((cs'.drop 1).take (Tryz.prog.cellsOf 34)) = xs[1]? := hfl 1 _ rfl
      have f2 : DataW.trod hv Tryz.prog W 0 (fun _ => true) true m2 4 ((cs'.drop 2).take (Tryz.prog.cellsOf 4)) = xs[2]? := hfl 2 _ rfl
      have f3 : DataW.trod hv Tryz.prog W 0 (fun _ => true) true m2 24 ((cs'.drop 3).take (Tryz.prog.cellsOf 24)) = xs[3]? := hfl 3 _ rfl
      rw [c9] at f0; rw [cN] at f1; rw [c4] at f2; rw [cS] at f3
      rw [List.getElem?_eq_getElem (by omega)] at f0 f1 f2 f3
      obtain ⟨z0, e0, _⟩ := DataW.trod_string Tryz.underlying9 f0
      obtain ⟨A1, n1, c1, ns, e1, hns, _⟩ := nums_came f1
      obtain ⟨z2, e2, _⟩ := DataW.trod_bool Tryz.underlying4 f2
      obtain ⟨A3, n3, c3, y, e3, hy, _⟩ := ih m2 (by omega) f3
      match cs', hl4 with
      | [a0, a1, a2, a3], _ =>
        simp at e0 e1 e2 e3
        refine ⟨⟨z0.data.toList, A1, n1, c1, z2, A3, n3, c3⟩, fun j hj => ?_, ⟨ns, hns⟩, y, hy⟩
        rw [← Deep.add_add, hat j hj]
        subst e0 e1 e2 e3
        show _ = [Value.string (strB z0.data.toList), .slice A1 n1 c1, .bool z2, .slice A3 n3 c3][j]?
        rw [show strB z0.data.toList = z0 from rfl])
    obtain ⟨g, hg⟩ := tr_made (W := W) ((List.range n).map f) (fun z hz => by
      obtain ⟨i, hi2, rfl⟩ := List.mem_map.1 hz
      exact (hf' i (List.mem_range.1 hi2)).2)
    exact ⟨some a, n, c, g, hcs, ⟨_, row_made (σ := smS) (fun i hi j hj => (hf' i hi).1 j hj), hg⟩, by unfold maxLen at hm; omega⟩
theorem came_stmts {A : Option Addr} {n c : Nat} {d : DataW H} {p : List MemPlace} (h : DataW.Trod hv Tryz.prog W 0 (fun _ => true) true 24 (.slice A n c) d p) :
    ∃ f, TrS W (fun b => b < W.heap.size) A n f ∧ n ≤ 9223372036854775807 := by
  obtain ⟨fuel, hf⟩ := h
  obtain ⟨A', n', c', f, e, hr⟩ := stmts_came fuel hf
  have e' : [Value.slice A n c] = [Value.slice A' n' c'] := e
  simp at e'
  obtain ⟨rfl, rfl, rfl⟩ := e'
  exact ⟨f, hr⟩
end
end Go.Proofs.YtkfnkieljcipnaaGreatDoor
