/-
  From a row's argument to the walks' words, with the bound: statements that came in read as a forest of at most a fifth of the reading's bulk. No condition of its own.
-/
import Derived.Test.YtkfnkieljcipnaaGreatDoorZWR
namespace Go.Proofs.YtkfnkieljcipnaaGreatDoor
open Go Go.ChangeShapes Go.WideShapes Go.ChangeAt Go.RowKit

section
variable {H : Type} {hv : TypeId × Value → H} {W : World}
theorem bulk_pos (d : DataW H) : 1 ≤ Rows.uptoBulk d := by
  cases d with
  | lit l => cases l <;> simp [Rows.uptoBulk]
  | _ => simp [Rows.uptoBulk]
theorem bulk_app (l r : List (DataW H)) : Rows.uptoBulkAll (l ++ r) = Rows.uptoBulkAll l + Rows.uptoBulkAll r := by
  induction l with
  | nil => simp [Rows.uptoBulkAll]
  | cons x l ih => simp only [List.cons_append, Rows.uptoBulkAll, ih]; omega
def StmUp (W : World) (z : Sm) (b : Nat) : Prop := (∃ ns, RwP nmS W (fun b => b < W.heap.size) z.nA z.nn ns) ∧ ∃ y, TrS W (fun b => b < W.heap.size) z.bA z.bn y ∧ 5 * (1 + y.count) ≤ b
theorem tr_up : ∀ (xs : List Sm) (ds : List (DataW H)), xs.length = ds.length → (∀ (i : Nat) (z : Sm) (d : DataW H), xs[i]? = some z → ds[i]? = some d → StmUp W z (Rows.uptoBulk d)) → ∃ f, Tr W (fun b => b < W.heap.size) f xs ∧ 5 * f.count ≤ Rows.uptoBulkAll ds
  | [], [], _, _ => ⟨.nil, rfl, by simp [Fo.count]⟩
  | z :: xs, d :: ds, hl, h => by
    obtain ⟨f, hf, hc⟩ := tr_up xs ds (by simpa using hl) fun i y e hy he => h (i + 1) y e (by simpa using hy) (by simpa using he)
    obtain ⟨⟨ns, h1⟩, y, h2, h3⟩ := h 0 z d rfl rfl
    refine ⟨.cons z.word ns z.block y f, ⟨z, xs, rfl, rfl, rfl, h1, h2, hf⟩, ?_⟩
    simp only [Fo.count, Rows.uptoBulkAll]
    omega
set_option maxRecDepth 100000 in
theorem stmts_up : ∀ (fuel : Nat) {cs : List Value} {x : DataW H × List MemPlace}, DataW.trod hv Tryz.prog W 0 (fun _ => true) true fuel 24 cs = some x →
    ∃ A n c f, cs = [.slice A n c] ∧ TrS W (fun b => b < W.heap.size) A n f ∧ n ≤ 9223372036854775807 ∧ 5 * f.count + 1 ≤ Rows.uptoBulk x.1 := by
  intro fuel
  induction fuel using Nat.strongRecOn with
  | _ fuel ih =>
  intro cs x hf
  rcases DataW.trod_slice Tryz.underlying24 hf with ⟨hcs, hx⟩ | ⟨a, n, c, elems, rest, m, hfu, hcs, hx, _, hl, hm, hel, hi, _, _⟩
  · exact ⟨none, 0, 0, .nil, hcs, TrS.nil, by decide, by rw [hx]; simp [Fo.count, Rows.uptoBulk]⟩
  · have hC : Tryz.prog.cellsOf 36 = 4 := by kernel_rfl
    obtain ⟨f, hf'⟩ := pick (α := Sm) (n := n) (P := fun i z => (∀ j, j < 4 → W.cell? (a.add (i * 4 + j)) = (smS.enc z)[j]?) ∧ ∀ d, (elems.map (·.1))[i]? = some d → StmUp W z (Rows.uptoBulk d)) (fun i hic => by
      have hii := hi i hic
      rw [List.getElem?_eq_getElem (by omega)] at hii
      obtain ⟨cs', hcells, ht⟩ := Option.bind_eq_some_iff.1 hii
      rw [hC] at hcells
      obtain ⟨_, _, hat⟩ := World.cells?_some hcells
      obtain ⟨xs, m2, hfu2, hxe, hl4', hx4', hfl⟩ := DataW.trod_struct Tryz.underlying36 ht
      have hl4 : cs'.length = 4 := hl4'.trans (by kernel_rfl)
      have hx4 : xs.length = 4 := hx4'
      have c9 : Tryz.prog.cellsOf 9 = 1 := by kernel_rfl
      have cN : Tryz.prog.cellsOf 34 = 1 := by kernel_rfl
      have c4 : Tryz.prog.cellsOf 4 = 1 := by kernel_rfl
      have cS : Tryz.prog.cellsOf 24 = 1 := by kernel_rfl
      have f0 : DataW.trod hv Tryz.prog W 0 (fun _ => true) true m2 9 ((cs'.drop 0).take (Tryz.prog.cellsOf 9)) = xs[0]? := hfl 0 _ rfl
      have f1 : DataW.trod hv Tryz.prog W 0 (fun _ => true) true m2 34 ((cs'.drop 1).take (Tryz.prog.cellsOf 34)) = xs[1]? := hfl 1 _ rfl
      have f2 : DataW.trod hv Tryz.prog W 0 (fun _ => true) true m2 4 ((cs'.drop 2).take (Tryz.prog.cellsOf 4)) = xs[2]? := hfl 2 _ rfl
      have f3 : DataW.trod hv Tryz.prog W 0 (fun _ => true) true m2 24 ((cs'.drop 3).take (Tryz.prog.cellsOf 24)) = xs[3]? := hfl 3 _ rfl
      rw [c9] at f0; rw [cN] at f1; rw [c4] at f2; rw [cS] at f3
      match xs, hx4 with
      | [x0, x1, x2, x3], _ =>
        have f0' : DataW.trod hv Tryz.prog W 0 (fun _ => true) true m2 9 ((cs'.drop 0).take 1) = some x0 := f0
        have f1' : DataW.trod hv Tryz.prog W 0 (fun _ => true) true m2 34 ((cs'.drop 1).take 1) = some x1 := f1
        have f2' : DataW.trod hv Tryz.prog W 0 (fun _ => true) true m2 4 ((cs'.drop 2).take 1) = some x2 := f2
        have f3' : DataW.trod hv Tryz.prog W 0 (fun _ => true) true m2 24 ((cs'.drop 3).take 1) = some x3 := f3
        obtain ⟨z0, e0, _⟩ := DataW.trod_string Tryz.underlying9 f0'
        obtain ⟨A1, n1, c1, ns, e1, hns, _⟩ := nums_came f1'
        obtain ⟨z2, e2, _⟩ := DataW.trod_bool Tryz.underlying4 f2'
        obtain ⟨A3, n3, c3, y, e3, hy, _, hb⟩ := ih m2 (by omega) f3'
        match cs', hl4 with
        | [a0, a1, a2, a3], _ =>
          simp at e0 e1 e2 e3
          refine ⟨⟨z0.data.toList, A1, n1, c1, z2, A3, n3, c3⟩, ⟨fun j hj => ?_, fun d hd => ⟨⟨ns, hns⟩, y, hy, ?_⟩⟩⟩
          · rw [← Deep.add_add, hat j hj]
            subst e0 e1 e2 e3
            show _ = [Value.string (strB z0.data.toList), .slice A1 n1 c1, .bool z2, .slice A3 n3 c3][j]?
            rw [show strB z0.data.toList = z0 from rfl]
          · rw [List.getElem?_map, List.getElem?_eq_getElem (by omega), Option.map_some, Option.some.injEq] at hd
            rw [← hd, hxe]
            have p0 := bulk_pos x0.1
            have p1 := bulk_pos x1.1
            have p2 := bulk_pos x2.1
            simp only [List.map_cons, List.map_nil, Rows.uptoBulk, Rows.uptoBulkAll]
            omega)
    obtain ⟨g, hg, hgc⟩ := tr_up (H := H) (W := W) ((List.range n).map f) (elems.map (·.1)) (by simp [hel]) (fun i z d hz hd => by
      have hin : i < n := by have := (List.getElem?_eq_some_iff.1 hd).1; simpa [hel] using this
      rw [List.getElem?_map, List.getElem?_range hin] at hz
      cases hz
      exact (hf' i hin).2 d hd)
    refine ⟨some a, n, c, g, hcs, ⟨_, row_made (σ := smS) (fun i hi j hj => (hf' i hi).1 j hj), hg⟩, by unfold maxLen at hm; omega, ?_⟩
    rw [hx]
    simp only [Rows.uptoBulk]
    omega
theorem came_up {A : Option Addr} {n c : Nat} {d : DataW H} {p : List MemPlace} (h : DataW.Trod hv Tryz.prog W 0 (fun _ => true) true 24 (.slice A n c) d p) :
    ∃ f, TrS W (fun b => b < W.heap.size) A n f ∧ 5 * f.count + 1 ≤ Rows.uptoBulk d := by
  obtain ⟨fuel, hf⟩ := h
  obtain ⟨A', n', c', f, e, hr, _, hb⟩ := stmts_up fuel hf
  have e' : [Value.slice A n c] = [Value.slice A' n' c'] := e
  simp at e'
  obtain ⟨rfl, rfl, rfl⟩ := e'
  exact ⟨f, hr, hb⟩
theorem bound_up {l : List (DataW H)} (hk : Rows.uptoSmall H l = true) : Rows.uptoBulkAll l ≤ 1048576 := of_decide_eq_true hk
end
end Go.Proofs.YtkfnkieljcipnaaGreatDoor
