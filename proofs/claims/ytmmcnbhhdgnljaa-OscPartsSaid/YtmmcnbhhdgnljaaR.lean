/-
  From a statement's arguments to the walks' words: an oscillator that came in is its three numbers, a slice of numbers is a row of them. No condition of its own.
-/
import Derived.Test.YtmmcnbhhdgnljaaRows
import Derived.Test.YtmmcnbhhdgnljaaV
import Derived.WalkKit
import Derived.ProofKit
import Derived.OpenShut
import Derived.ChangeOld
import Derived.SizedLaws
import Derived.Carry
namespace Go.Proofs.Ytmmcnbhhdgnljaa
open Go Go.ChangeShapes Go.WideShapes Go.ChangeAt Go.RowKit

theorem own : ownKnob Try.prog.godebug = none := by kernel_rfl
theorem laidOut : laidOutB Try.prog = true := by kernel_rfl
section
variable {H : Type} {hv : TypeId × Value → H} {W : World} {base : Nat}
set_option maxRecDepth 100000 in
/-- What came in as an oscillator is three numbers of 64 bits. -/
theorem came_o {r : Reach} {v : Value} {d : DataW H} {p : List MemPlace} (hok : Value.okWide Try.prog W r base 23 v) (h : DataW.Trod hv Try.prog W 0 (fun _ => true) true 23 v d p) :
    ∃ z0 z1 z2 : Int, v = ov ⟨z0, z1, z2⟩ ∧ (-9223372036854775808 ≤ z0 ∧ z0 ≤ 9223372036854775807) ∧ (-9223372036854775808 ≤ z1 ∧ z1 ≤ 9223372036854775807) ∧ (-9223372036854775808 ≤ z2 ∧ z2 ≤ 9223372036854775807) := by
  obtain ⟨cs, rfl, _⟩ := okWide_struct Try.underlying23 hok
  obtain ⟨fuel, hf⟩ := h
  obtain ⟨xs, n, _, _, hl, hx, hf⟩ := DataW.trod_struct Try.underlying23 hf
  have hl3 : (Value.agg cs).cells.toList.length = 3 := hl.trans (by kernel_rfl)
  have hx3 : xs.length = 3 := hx
  have c2 : Try.prog.cellsOf 2 = 1 := by kernel_rfl
  have f0 : DataW.trod hv Try.prog W 0 (fun _ => true) true n 2 (((Value.agg cs).cells.toList.drop 0).take (Try.prog.cellsOf 2)) = xs[0]? := hf 0 _ rfl
  have f1 : DataW.trod hv Try.prog W 0 (fun _ => true) true n 2 (((Value.agg cs).cells.toList.drop 1).take (Try.prog.cellsOf 2)) = xs[1]? := hf 1 _ rfl
  have f2 : DataW.trod hv Try.prog W 0 (fun _ => true) true n 2 (((Value.agg cs).cells.toList.drop 2).take (Try.prog.cellsOf 2)) = xs[2]? := hf 2 _ rfl
  rw [c2] at f0 f1 f2
  rw [List.getElem?_eq_getElem (by omega)] at f0 f1 f2
  obtain ⟨z0, e0, _, w0⟩ := DataW.trod_int Try.underlying2 f0
  obtain ⟨z1, e1, _, w1⟩ := DataW.trod_int Try.underlying2 f1
  obtain ⟨z2, e2, _, w2⟩ := DataW.trod_int Try.underlying2 f2
  refine ⟨z0, z1, z2, ?_, bounds_i64 w0, bounds_i64 w1, bounds_i64 w2⟩
  have hcs : (Value.agg cs).cells = cs := rfl
  rw [hcs] at hl3 e0 e1 e2
  obtain ⟨cl⟩ := cs
  match cl, hl3 with
  | [a0, a1, a2], _ =>
    simp at e0 e1 e2
    subst e0 e1 e2
    rfl
theorem trod_lt0 {t : TypeId} {v : Value} {d : DataW H} {p : List MemPlace} (h : DataW.Trod hv Try.prog W 0 (fun _ => true) true t v d p) : ∀ x ∈ p, x.block < W.heap.size := by
  obtain ⟨m, hm⟩ := h; exact DataW.trod_lt m _ _ _ hm
end
/-- What is known of a slice of numbers of a kind that came in. -/
def Came (k : IntKind) (w : World) (A : Option Addr) (n c : Nat) (zs : List Int) : Prop :=
  zs.length = n ∧ n ≤ c ∧ Row w w.heap.size A n (zs.map (Value.int k)) ∧ ∀ z ∈ zs, (Lit.int k z).wf = true
theorem came_of {H : Type} {enc : TypeId × Value → H} {W : World} {t e : TypeId} {k : IntKind} (ht : Try.prog.underlying t = some (.slice e)) (he : Try.prog.underlying e = some (.int k)) (hc : Try.prog.cellsOf e = 1)
    {A : Option Addr} {n c : Nat} {d : DataW H} {p : List MemPlace} (h : DataW.Trod enc Try.prog W 0 (fun _ => true) true t (.slice A n c) d p) :
    ∃ zs, Came k W A n c zs ∧ (d = .nil ∧ c = 0 ∨ ∃ l r, d = .slice l r ∧ l.length + r.length = c) := by
  obtain ⟨fuel, hf⟩ := h
  rcases open_ints ht he hc hf with ⟨hcs, hx⟩ | ⟨x, l, c', zs, hcs, _, hl, hm, hz, hx, hcell, hwz⟩
  · simp [Value.cells] at hcs
    obtain ⟨rfl, rfl, rfl⟩ := hcs
    have hd : d = .nil := (Prod.mk.inj hx).1
    exact ⟨[], ⟨rfl, Nat.le_refl _, Row.nil _ _ _, by intro z hz; cases hz⟩, .inl ⟨hd, rfl⟩⟩
  · simp [Value.cells] at hcs
    obtain ⟨rfl, rfl, rfl⟩ := hcs
    have hz' : zs.length = c := by simpa using hz
    have hd : d = .slice (lits k (zs.take n)) (lits k (zs.drop n)) := (Prod.mk.inj hx).1
    refine ⟨zs.take n, ⟨by rw [List.length_take]; omega, hl, ⟨by rw [List.length_map, List.length_take]; omega, fun hp => ?_⟩, fun z hz => hwz z (List.mem_of_mem_take hz)⟩, .inr ⟨_, _, hd, by simp [lits]; omega⟩⟩
    obtain ⟨b, off, spot⟩ := x
    have hc0 := hcell 0 (by omega)
    have hspot : spot = none := by simpa [Addr.add] using World.cell?_spot hc0
    subst hspot
    rw [plain_add] at hc0
    refine ⟨b, off, rfl, World.block_lt_of_cell? W _ hc0, fun j u hu => ?_⟩
    rw [List.getElem?_map] at hu
    obtain ⟨z, hz1, rfl⟩ := Option.map_eq_some_iff.1 hu
    rw [List.getElem?_take] at hz1
    split at hz1
    · rename_i hj
      have := hcell j (by omega)
      rw [plain_add] at this
      rw [this]
      simp [List.getD, hz1]
    · cases hz1
theorem came_i64 {w : World} {A : Option Addr} {n c : Nat} {zs : List Int} (h : Came .i64 w A n c zs) : Row w w.heap.size A n (sv zs) ∧ ∀ x ∈ zs, -9223372036854775808 ≤ x ∧ x ≤ 9223372036854775807 :=
  ⟨h.2.2.1, fun z hz => by have := h.2.2.2 z hz; have := bounds_i64 this; omega⟩
end Go.Proofs.Ytmmcnbhhdgnljaa
