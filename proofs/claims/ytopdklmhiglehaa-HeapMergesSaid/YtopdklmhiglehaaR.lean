/-
  From a statement's arguments to the walks' words: a slice of things that came in is a row of them, a thing is its six numbers. No condition of its own.
-/
import Derived.Test.YtopdklmhiglehaaRows
import Derived.Test.YtopdklmhiglehaaA
import Derived.WalkKit
import Derived.ProofKit
import Derived.OpenShut
import Derived.ChangeOld
import Derived.SizedLaws
import Derived.Carry
import Derived.Deep.Slices
namespace Go.Proofs.Ytopdklmhiglehaa
open Go Go.ChangeShapes Go.WideShapes Go.ChangeAt Go.RowKit

theorem own : ownKnob Try.prog.godebug = none := by kernel_rfl
theorem laidOut : laidOutB Try.prog = true := by kernel_rfl
section
variable {H : Type} {hv : TypeId × Value → H} {W : World} {base : Nat} {spare : Nat → Bool} {held : Bool}
/-- What reads as a thing is a thing's six cells. -/
theorem thing_of {fuel : Nat} {cs : List Value} {x : DataW H × List MemPlace} (h : DataW.trod hv Try.prog W base spare held fuel 24 cs = some x) : ∃ z : It, cs = enc z := by
  obtain ⟨xs, n, _, _, hl, hx, hf⟩ := DataW.trod_struct Try.underlying24 h
  have hl6 : cs.length = 6 := hl.trans (by kernel_rfl)
  have hx6 : xs.length = 6 := hx
  have one : ∀ (i : Nat) (t : TypeId) (k : IntKind), Try.prog.underlying t = some (.int k) → (hi : i < xs.length) → (DataW.trod hv Try.prog W base spare held n t ((cs.drop i).take 1) = xs[i]?) → ∃ z, (cs.drop i).take 1 = [.int k z] := by
    intro i t k ht hi h
    rw [List.getElem?_eq_getElem hi] at h
    obtain ⟨z, e, _⟩ := DataW.trod_int ht h
    exact ⟨z, e⟩
  have c2 : Try.prog.cellsOf 2 = 1 := by kernel_rfl
  have c3 : Try.prog.cellsOf 3 = 1 := by kernel_rfl
  have c22 : Try.prog.cellsOf 22 = 1 := by kernel_rfl
  have f0 : DataW.trod hv Try.prog W base spare held n 2 ((cs.drop 0).take (Try.prog.cellsOf 2)) = xs[0]? := hf 0 _ rfl
  have f1 : DataW.trod hv Try.prog W base spare held n 3 ((cs.drop 1).take (Try.prog.cellsOf 3)) = xs[1]? := hf 1 _ rfl
  have f2 : DataW.trod hv Try.prog W base spare held n 22 ((cs.drop 2).take (Try.prog.cellsOf 22)) = xs[2]? := hf 2 _ rfl
  have f3 : DataW.trod hv Try.prog W base spare held n 3 ((cs.drop 3).take (Try.prog.cellsOf 3)) = xs[3]? := hf 3 _ rfl
  have f4 : DataW.trod hv Try.prog W base spare held n 3 ((cs.drop 4).take (Try.prog.cellsOf 3)) = xs[4]? := hf 4 _ rfl
  have f5 : DataW.trod hv Try.prog W base spare held n 22 ((cs.drop 5).take (Try.prog.cellsOf 22)) = xs[5]? := hf 5 _ rfl
  rw [c2] at f0; rw [c3] at f1 f3 f4; rw [c22] at f2 f5
  obtain ⟨z0, e0⟩ := one 0 2 .i64 Try.underlying2 (by omega) f0
  obtain ⟨z1, e1⟩ := one 1 3 .i64 Try.underlying3 (by omega) f1
  obtain ⟨z2, e2⟩ := one 2 22 .u64 Try.underlying22 (by omega) f2
  obtain ⟨z3, e3⟩ := one 3 3 .i64 Try.underlying3 (by omega) f3
  obtain ⟨z4, e4⟩ := one 4 3 .i64 Try.underlying3 (by omega) f4
  obtain ⟨z5, e5⟩ := one 5 22 .u64 Try.underlying22 (by omega) f5
  match cs, hl6 with
  | [a0, a1, a2, a3, a4, a5], _ =>
    simp at e0 e1 e2 e3 e4 e5
    exact ⟨(z0, z1, z2, z3, z4, z5), by subst e0 e1 e2 e3 e4 e5; rfl⟩
theorem came_its {A : Option Addr} {n c : Nat} {d : DataW H} {p : List MemPlace} (h : DataW.Trod hv Try.prog W 0 (fun _ => true) true 25 (.slice A n c) d p) :
    ∃ xs, Row W W.heap.size A n xs ∧ n ≤ c ∧ c ≤ 9223372036854775807 := by
  obtain ⟨fuel, hf⟩ := h
  rcases Deep.open_slice Try.underlying25 hf with ⟨hcs, hx⟩ | ⟨a, len, cap, m, k, D, Pl, hcs, _, hl, hm, hmm, hx, hi⟩
  · simp [Value.cells] at hcs
    obtain ⟨rfl, rfl, rfl⟩ := hcs
    exact ⟨[], Row.nil _ _ _, Nat.le_refl _, by decide⟩
  · simp [Value.cells] at hcs
    obtain ⟨rfl, rfl, rfl⟩ := hcs
    have hC : Try.prog.cellsOf 24 = 6 := by kernel_rfl
    simp only [if_true] at hmm
    rw [hmm] at hi
    have hall : ∀ i, i < c → ∃ z : It, ∀ j, j < 6 → W.cell? (a.add (i * 6 + j)) = (enc z)[j]? := by
      intro i hic
      obtain ⟨cs', hcells, ht⟩ := hi i hic
      obtain ⟨z, rfl⟩ := thing_of ht
      rw [hC] at hcells
      obtain ⟨_, _, hat⟩ := World.cells?_some hcells
      exact ⟨z, fun j hj => by rw [← Deep.add_add]; exact hat j hj⟩
    have hch : ∃ f : Nat → It, ∀ i, i < c → ∀ j, j < 6 → W.cell? (a.add (i * 6 + j)) = (enc (f i))[j]? := by
      refine ⟨fun i => if h : i < c then (hall i h).choose else default, fun i hic => ?_⟩
      simp only [dif_pos hic]
      exact (hall i hic).choose_spec
    obtain ⟨f, hf'⟩ := hch
    refine ⟨(List.range n).map f, ⟨by simp, fun hp => ?_⟩, hl, by unfold maxLen at hm; omega⟩
    obtain ⟨b, off, spot⟩ := a
    have hc0 := hf' 0 (by omega) 0 (by omega)
    have hs0 : W.cell? ((⟨b, off, spot⟩ : Addr).add (0 * 6 + 0)) = some ((enc (f 0))[0]'(by rw [enc_len]; omega)) := by rw [hc0, List.getElem?_eq_getElem]
    have hspot : spot = none := by simpa [Addr.add] using World.cell?_spot hs0
    subst hspot
    rw [plain_add] at hs0
    refine ⟨b, off, rfl, World.block_lt_of_cell? W _ hs0, fun j u hu => ?_⟩
    have hj : j < n * 6 := by have := (List.getElem?_eq_some_iff.1 hu).1; rw [flat_len] at this; simpa using this
    have h1 := flat_at ((List.range n).map f) (j / 6) (j % 6) (by simp; omega) (by omega)
    rw [show j / 6 * 6 + j % 6 = j by omega] at h1
    have h2 : nth ((List.range n).map f) (j / 6) = f (j / 6) := nth_of (by rw [List.getElem?_map, List.getElem?_range (by omega)]; rfl)
    rw [h2, hu] at h1
    have h3 := hf' (j / 6) (by omega) (j % 6) (by omega)
    rw [show j / 6 * 6 + j % 6 = j by omega, plain_add, ← h1] at h3
    exact h3
theorem came_it {r : Reach} {v : Value} {d : DataW H} {p : List MemPlace} (hok : Value.okWide Try.prog W r base 24 v) (h : DataW.Trod hv Try.prog W 0 (fun _ => true) true 24 v d p) : ∃ z : It, v = itv z := by
  obtain ⟨cs, rfl, _⟩ := okWide_struct Try.underlying24 hok
  obtain ⟨fuel, hf⟩ := h
  obtain ⟨z, e⟩ := thing_of hf
  refine ⟨z, ?_⟩
  unfold itv
  rw [← e]
  simp [Value.cells]
theorem trod_lt0 {t : TypeId} {v : Value} {d : DataW H} {p : List MemPlace} (h : DataW.Trod hv Try.prog W 0 (fun _ => true) true t v d p) : ∀ x ∈ p, x.block < W.heap.size := by
  obtain ⟨m, hm⟩ := h; exact DataW.trod_lt m _ _ _ hm
end
end Go.Proofs.Ytopdklmhiglehaa
