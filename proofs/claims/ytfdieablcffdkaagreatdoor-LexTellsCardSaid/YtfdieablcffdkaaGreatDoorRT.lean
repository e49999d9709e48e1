/-
  From a row's argument to the walks' words: a slice of tokens that came in reads as a list. No condition of its own.
-/
import Derived.Test.YtfdieablcffdkaaGreatDoorRG
import Derived.Test.YtfdieablcffdkaaGreatDoorLK
import Derived.ChangeOld
import Derived.SizedLaws
import Derived.Carry
import Derived.Deep.Slices
namespace Go.Proofs.YtfdieablcffdkaaGreatDoor
open Go Go.ChangeShapes Go.WideShapes Go.ChangeAt Go.RowKit

theorem laidOut : laidOutB Tryz.prog = true := by kernel_rfl
theorem pick {α : Type} [Inhabited α] {n : Nat} {P : Nat → α → Prop} (h : ∀ i, i < n → ∃ x, P i x) : ∃ f : Nat → α, ∀ i, i < n → P i (f i) :=
  ⟨fun i => if h' : i < n then (h i h').choose else default, fun i hi => by simp only [dif_pos hi]; exact (h i hi).choose_spec⟩
instance : Inhabited Tk := ⟨⟨0, [], 0, false⟩⟩
section
variable {H : Type} {hv : TypeId × Value → H} {W : World}
theorem trod_lt0 {t : TypeId} {v : Value} {d : DataW H} {p : List MemPlace} (h : DataW.Trod hv Tryz.prog W 0 (fun _ => true) true t v d p) : ∀ x ∈ p, x.block < W.heap.size := by
  obtain ⟨m, hm⟩ := h; exact DataW.trod_lt m _ _ _ hm
set_option maxRecDepth 100000 in
theorem tok_of {fuel : Nat} {cs : List Value} {x : DataW H × List MemPlace} (hf : DataW.trod hv Tryz.prog W 0 (fun _ => true) true fuel 26 cs = some x) : ∃ t : Tk, cs = tkS.enc t := by
  obtain ⟨xs, m, _, _, hl, hx, hf⟩ := DataW.trod_struct Tryz.underlying26 hf
  have hl4 : cs.length = 4 := hl.trans (by kernel_rfl)
  have hx4 : xs.length = 4 := hx
  have c3 : Tryz.prog.cellsOf 3 = 1 := by kernel_rfl
  have c9 : Tryz.prog.cellsOf 9 = 1 := by kernel_rfl
  have c2 : Tryz.prog.cellsOf 2 = 1 := by kernel_rfl
  have c4 : Tryz.prog.cellsOf 4 = 1 := by kernel_rfl
  have f0 : DataW.trod hv Tryz.prog W 0 (fun _ => true) true m 3 ((cs.drop 0).take (Tryz.prog.cellsOf 3)) = xs[0]? := hf 0 _ rfl
  have f1 : DataW.trod hv Tryz.prog W 0 (fun _ => true) true m 9 ((cs.drop 1).take (Tryz.prog.cellsOf 9)) = xs[1]? := hf 1 _ rfl
  have f2 : DataW.trod hv Tryz.prog W 0 (fun _ => true) true m 2 ((cs.drop 2).take (Tryz.prog.cellsOf 2)) = xs[2]? := hf 2 _ rfl
  have f3 : DataW.trod hv Tryz.prog W 0 (fun _ => true) true m 4 ((cs.drop 3).take (Tryz.prog.cellsOf 4)) = xs[3]? := hf 3 _ rfl
  rw [c3] at f0; rw [c9] at f1; rw [c2] at f2; rw [c4] at f3
  rw [List.getElem?_eq_getElem (by omega)] at f0 f1 f2 f3
  obtain ⟨z0, e0, _⟩ := DataW.trod_int Tryz.underlying3 f0
  obtain ⟨z1, e1, _⟩ := DataW.trod_string Tryz.underlying9 f1
  obtain ⟨z2, e2, _⟩ := DataW.trod_int Tryz.underlying2 f2
  obtain ⟨z3, e3, _⟩ := DataW.trod_bool Tryz.underlying4 f3
  match cs, hl4 with
  | [a0, a1, a2, a3], _ =>
    simp at e0 e1 e2 e3
    exact ⟨⟨z0, z1.data.toList, z2, z3⟩, by subst e0 e1 e2 e3; show _ = [Value.int .i64 z0, .string (strB z1.data.toList), .int .i64 z2, .bool z3]; rw [show strB z1.data.toList = z1 from bA_data z1]⟩
theorem row_of {vs : List Value} {A : Addr} (h : ∀ j u, vs[j]? = some u → W.cell? (A.add j) = some u) (h0 : 0 < vs.length) : ∃ b o, A = ⟨b, o, none⟩ ∧ b < W.heap.size ∧ W.rangeAt b o vs := by
  obtain ⟨b, off, spot⟩ := A
  have h0 := h 0 (vs[0]'h0) (List.getElem?_eq_getElem h0)
  have hspot : spot = none := by simpa [Addr.add] using World.cell?_spot h0
  subst hspot
  rw [plain_add] at h0
  exact ⟨b, off, rfl, World.block_lt_of_cell? W _ h0, fun j u hu => by have := h j u hu; rwa [plain_add] at this⟩
set_option maxRecDepth 100000 in
theorem toks_of {fuel : Nat} {cs : List Value} {x : DataW H × List MemPlace} (hf : DataW.trod hv Tryz.prog W 0 (fun _ => true) true fuel 22 cs = some x) :
    ∃ A n c ts, cs = [.slice A n c] ∧ tkS.Rw W W.heap.size A n ts ∧ n ≤ 9223372036854775807 := by
  rcases Deep.open_slice Tryz.underlying22 hf with ⟨hcs, hx⟩ | ⟨a, n, c, m, k, D, Pl, hcs, _, hl, hm, hmm, hx, hi⟩
  · exact ⟨none, 0, 0, [], hcs, Sh.Rw.nil _ _ _, by decide⟩
  · have hC : Tryz.prog.cellsOf 26 = 4 := by kernel_rfl
    simp only [if_true] at hmm
    rw [hmm] at hi
    obtain ⟨f, hf'⟩ := pick (α := Tk) (n := c) (P := fun i z => ∀ j, j < 4 → W.cell? (a.add (i * 4 + j)) = (tkS.enc z)[j]?) (fun i hic => by
      obtain ⟨cs', hcells, ht⟩ := hi i hic
      obtain ⟨z, rfl⟩ := tok_of ht
      rw [hC] at hcells
      obtain ⟨_, _, hat⟩ := World.cells?_some hcells
      exact ⟨z, fun j hj => by rw [← Deep.add_add]; exact hat j hj⟩)
    refine ⟨some a, n, c, (List.range n).map f, hcs, ?_, by unfold maxLen at hm; omega⟩
    refine ⟨by simp, fun hp => ?_⟩
    have hfl : (tkS.flat ((List.range n).map f)).length = n * 4 := by rw [Sh.flat_len]; simp; rfl
    obtain ⟨b, o, e, hb, hr⟩ := row_of (W := W) (vs := tkS.flat ((List.range n).map f)) (A := a) (fun j u hu => by
      have hj : j < n * 4 := by have := (List.getElem?_eq_some_iff.1 hu).1; rwa [hfl] at this
      have h1 := Sh.flat_at tkS ((List.range n).map f) (j / 4) (j % 4) (by simp; omega) (by show j % 4 < 4; omega)
      have e4 : j / 4 * tkS.N + j % 4 = j := by show j / 4 * 4 + j % 4 = j; omega
      rw [e4] at h1
      have h2 : tkS.nth ((List.range n).map f) (j / 4) = f (j / 4) := Sh.nth_of tkS (by rw [List.getElem?_map, List.getElem?_range (by omega)]; rfl)
      rw [h2, hu] at h1
      have h3 := hf' (j / 4) (by omega) (j % 4) (by omega)
      rw [show j / 4 * 4 + j % 4 = j by omega, ← h1] at h3
      exact h3) (by rw [hfl]; omega)
    subst e
    exact ⟨b, o, rfl, hb, hr⟩
theorem came_toks {A : Option Addr} {n c : Nat} {d : DataW H} {p : List MemPlace} (h : DataW.Trod hv Tryz.prog W 0 (fun _ => true) true 22 (.slice A n c) d p) :
    ∃ ts, tkS.Rw W W.heap.size A n ts ∧ n ≤ 9223372036854775807 := by
  obtain ⟨fuel, hf⟩ := h
  obtain ⟨A', n', c', ts, e, hr⟩ := toks_of hf
  have e' : [Value.slice A n c] = [Value.slice A' n' c'] := e
  simp at e'
  obtain ⟨rfl, rfl, rfl⟩ := e'
  exact ⟨ts, hr⟩
end
end Go.Proofs.YtfdieablcffdkaaGreatDoor
