/-
  From a statement's arguments to the walks' words: a slice of things that came in is a row of them, a thing is its six numbers. No condition of its own.
-/
import Derived.Test.YtpfidohneddgkaaRows
import Derived.Test.YtpfidohneddgkaaKP
import Derived.WalkKit
import Derived.ProofKit
import Derived.OpenShut
import Derived.ChangeOld
import Derived.SizedLaws
import Derived.Carry
import Derived.Deep.Slices
namespace Go.Proofs.Ytpfidohneddgkaa
open Go Go.ChangeShapes Go.WideShapes Go.ChangeAt Go.RowKit

theorem own : ownKnob Try.prog.godebug = none := by kernel_rfl
theorem laidOut : laidOutB Try.prog = true := by kernel_rfl
section
variable {H : Type} {hv : TypeId × Value → H} {W : World} {base : Nat} {spare : Nat → Bool} {held : Bool}
set_option maxRecDepth 100000 in
/-- What reads as a thing is a thing's six cells. -/
theorem thing_of {fuel : Nat} {cs : List Value} {x : DataW H × List MemPlace} (h : DataW.trod hv Try.prog W base spare held fuel 36 cs = some x) : ∃ z : It, cs = enc z ∧ 0 ≤ sq z ∧ sq z ≤ 18446744073709551615 := by
  obtain ⟨xs, n, _, _, hl, hx, hf⟩ := DataW.trod_struct Try.underlying36 h
  have hl6 : cs.length = 6 := hl.trans (by kernel_rfl)
  have hx6 : xs.length = 6 := hx
  have one : ∀ (i : Nat) (t : TypeId) (k : IntKind), Try.prog.underlying t = some (.int k) → (hi : i < xs.length) → (DataW.trod hv Try.prog W base spare held n t ((cs.drop i).take 1) = xs[i]?) → ∃ z, (cs.drop i).take 1 = [.int k z] ∧ (Lit.int k z).wf = true := by
    intro i t k ht hi h
    rw [List.getElem?_eq_getElem hi] at h
    obtain ⟨z, e, _, wf⟩ := DataW.trod_int ht h
    exact ⟨z, e, wf⟩
  have c2 : Try.prog.cellsOf 2 = 1 := by kernel_rfl
  have c3 : Try.prog.cellsOf 3 = 1 := by kernel_rfl
  have c22 : Try.prog.cellsOf 23 = 1 := by kernel_rfl
  have f0 : DataW.trod hv Try.prog W base spare held n 2 ((cs.drop 0).take (Try.prog.cellsOf 2)) = xs[0]? := hf 0 _ rfl
  have f1 : DataW.trod hv Try.prog W base spare held n 3 ((cs.drop 1).take (Try.prog.cellsOf 3)) = xs[1]? := hf 1 _ rfl
  have f2 : DataW.trod hv Try.prog W base spare held n 23 ((cs.drop 2).take (Try.prog.cellsOf 23)) = xs[2]? := hf 2 _ rfl
  have f3 : DataW.trod hv Try.prog W base spare held n 3 ((cs.drop 3).take (Try.prog.cellsOf 3)) = xs[3]? := hf 3 _ rfl
  have f4 : DataW.trod hv Try.prog W base spare held n 3 ((cs.drop 4).take (Try.prog.cellsOf 3)) = xs[4]? := hf 4 _ rfl
  have f5 : DataW.trod hv Try.prog W base spare held n 23 ((cs.drop 5).take (Try.prog.cellsOf 23)) = xs[5]? := hf 5 _ rfl
  rw [c2] at f0; rw [c3] at f1 f3 f4; rw [c22] at f2 f5
  obtain ⟨z0, e0, _⟩ := one 0 2 .i64 Try.underlying2 (by omega) f0
  obtain ⟨z1, e1, _⟩ := one 1 3 .i64 Try.underlying3 (by omega) f1
  obtain ⟨z2, e2, w2⟩ := one 2 23 .u64 Try.underlying23 (by omega) f2
  obtain ⟨z3, e3, _⟩ := one 3 3 .i64 Try.underlying3 (by omega) f3
  obtain ⟨z4, e4, _⟩ := one 4 3 .i64 Try.underlying3 (by omega) f4
  obtain ⟨z5, e5, _⟩ := one 5 23 .u64 Try.underlying23 (by omega) f5
  match cs, hl6 with
  | [a0, a1, a2, a3, a4, a5], _ =>
    simp at e0 e1 e2 e3 e4 e5
    exact ⟨(z0, z1, z2, z3, z4, z5), by subst e0 e1 e2 e3 e4 e5; rfl, bounds_u64 w2⟩
set_option maxRecDepth 100000 in
theorem its_of {fuel : Nat} {cs : List Value} {x : DataW H × List MemPlace} (hf : DataW.trod hv Try.prog W 0 (fun _ => true) true fuel 22 cs = some x) :
    ∃ A n c xs, cs = [.slice A n c] ∧ Row W W.heap.size A n xs ∧ n ≤ c ∧ c ≤ 9223372036854775807 ∧ SqOk xs := by
  rcases Deep.open_slice Try.underlying22 hf with ⟨hcs, hx⟩ | ⟨a, n, c, m, k, D, Pl, hcs, _, hl, hm, hmm, hx, hi⟩
  · exact ⟨none, 0, 0, [], hcs, Row.nil _ _ _, Nat.le_refl _, by decide, fun x hx => by cases hx⟩
  · refine ⟨some a, n, c, ?_⟩
    have hC : Try.prog.cellsOf 36 = 6 := by kernel_rfl
    simp only [if_true] at hmm
    rw [hmm] at hi
    have hall : ∀ i, i < c → ∃ z : It, (∀ j, j < 6 → W.cell? (a.add (i * 6 + j)) = (enc z)[j]?) ∧ 0 ≤ sq z ∧ sq z ≤ 18446744073709551615 := by
      intro i hic
      obtain ⟨cs', hcells, ht⟩ := hi i hic
      obtain ⟨z, rfl, hz⟩ := thing_of ht
      rw [hC] at hcells
      obtain ⟨_, _, hat⟩ := World.cells?_some hcells
      exact ⟨z, fun j hj => by rw [← Deep.add_add]; exact hat j hj, hz⟩
    have hch : ∃ f : Nat → It, ∀ i, i < c → (∀ j, j < 6 → W.cell? (a.add (i * 6 + j)) = (enc (f i))[j]?) ∧ 0 ≤ sq (f i) ∧ sq (f i) ≤ 18446744073709551615 := by
      refine ⟨fun i => if h : i < c then (hall i h).choose else default, fun i hic => ?_⟩
      simp only [dif_pos hic]
      exact (hall i hic).choose_spec
    obtain ⟨f, hf'⟩ := hch
    refine ⟨(List.range n).map f, hcs, ⟨by simp, fun hp => ?_⟩, hl, by unfold maxLen at hm; omega, fun x hx => by
      obtain ⟨i, hi, rfl⟩ := List.mem_map.1 hx
      exact (hf' i (by have := List.mem_range.1 hi; omega)).2⟩
    obtain ⟨b, off, spot⟩ := a
    have hc0 := (hf' 0 (by omega)).1 0 (by omega)
    have hs0 : W.cell? ((⟨b, off, spot⟩ : Addr).add (0 * 6 + 0)) = some ((enc (f 0))[0]'(by rw [enc_len]; omega)) := by rw [hc0, List.getElem?_eq_getElem]
    have hspot : spot = none := by simpa [Addr.add] using World.cell?_spot hs0
    subst hspot
    rw [plain_add] at hs0
    refine ⟨b, off, rfl, World.block_lt_of_cell? W _ hs0, fun j u hu => ?_⟩
    have hj : j < n * 6 := by have := (List.getElem?_eq_some_iff.1 hu).1; rw [flat_len] at this; simpa using this
    have h1 := flat_at ((List.range n).map f) (j / 6) (j % 6) (by simp; omega) (by omega)
    rw [show j / 6 * 6 + j % 6 = j by omega] at h1
    have h2 : nth ((List.range n).map f) (j / 6) = f (j / 6) := nth_of (by rw [List.getElem?_map, List.getElem?_range (by omega)]; rfl)
    rw [h2, hu] at h1
    have h3 := (hf' (j / 6) (by omega)).1 (j % 6) (by omega)
    rw [show j / 6 * 6 + j % 6 = j by omega, plain_add, ← h1] at h3
    exact h3
set_option maxRecDepth 100000 in
theorem came_q {r : Reach} {v : Value} {d : DataW H} {p : List MemPlace} (hok : Value.okWide Try.prog W r base 25 v) (h : DataW.Trod hv Try.prog W 0 (fun _ => true) true 25 v d p) :
    ∃ A n c nx nw hz xs, v = qv ⟨A, n, c, nx, nw, hz⟩ ∧ Row W W.heap.size A n xs ∧ n ≤ c ∧ c ≤ 9223372036854775807 ∧ SqOk xs ∧ 0 ≤ nx ∧ nx ≤ 18446744073709551615 := by
  obtain ⟨cs, rfl, _⟩ := okWide_struct Try.underlying25 hok
  obtain ⟨fuel, hf⟩ := h
  obtain ⟨xs, n, _, _, hl, hx, hf⟩ := DataW.trod_struct Try.underlying25 hf
  have hl4 : (Value.agg cs).cells.toList.length = 4 := hl.trans (by kernel_rfl)
  have hx4 : xs.length = 4 := hx
  have c22 : Try.prog.cellsOf 22 = 1 := by kernel_rfl
  have c23 : Try.prog.cellsOf 23 = 1 := by kernel_rfl
  have c2 : Try.prog.cellsOf 2 = 1 := by kernel_rfl
  have f0 : DataW.trod hv Try.prog W 0 (fun _ => true) true n 22 (((Value.agg cs).cells.toList.drop 0).take (Try.prog.cellsOf 22)) = xs[0]? := hf 0 _ rfl
  have f1 : DataW.trod hv Try.prog W 0 (fun _ => true) true n 23 (((Value.agg cs).cells.toList.drop 1).take (Try.prog.cellsOf 23)) = xs[1]? := hf 1 _ rfl
  have f2 : DataW.trod hv Try.prog W 0 (fun _ => true) true n 2 (((Value.agg cs).cells.toList.drop 2).take (Try.prog.cellsOf 2)) = xs[2]? := hf 2 _ rfl
  have f3 : DataW.trod hv Try.prog W 0 (fun _ => true) true n 2 (((Value.agg cs).cells.toList.drop 3).take (Try.prog.cellsOf 2)) = xs[3]? := hf 3 _ rfl
  rw [c22] at f0; rw [c23] at f1; rw [c2] at f2 f3
  rw [List.getElem?_eq_getElem (by omega)] at f0 f1 f2 f3
  obtain ⟨A, m, c, l, e0, hr, hmc, hc, hs⟩ := its_of f0
  obtain ⟨z1, e1, _, w1⟩ := DataW.trod_int Try.underlying23 f1
  obtain ⟨z2, e2, _, _⟩ := DataW.trod_int Try.underlying2 f2
  obtain ⟨z3, e3, _, _⟩ := DataW.trod_int Try.underlying2 f3
  refine ⟨A, m, c, z1, z2, z3, l, ?_, hr, hmc, hc, hs, bounds_u64 w1⟩
  have hcs : (Value.agg cs).cells = cs := rfl
  rw [hcs] at hl4 e0 e1 e2 e3
  obtain ⟨cl⟩ := cs
  match cl, hl4 with
  | [a0, a1, a2, a3], _ =>
    simp at e0 e1 e2 e3
    subst e0 e1 e2 e3
    rfl
theorem trod_lt0 {t : TypeId} {v : Value} {d : DataW H} {p : List MemPlace} (h : DataW.Trod hv Try.prog W 0 (fun _ => true) true t v d p) : ∀ x ∈ p, x.block < W.heap.size := by
  obtain ⟨m, hm⟩ := h; exact DataW.trod_lt m _ _ _ hm
end
end Go.Proofs.Ytpfidohneddgkaa
