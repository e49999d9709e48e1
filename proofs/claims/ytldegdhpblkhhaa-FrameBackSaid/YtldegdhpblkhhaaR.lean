/-
  From a statement's arguments to the walks' words: a slice of numbers that came in is a row of them, a frame is its four numbers; and back: what the walks leave is what the row asks. No condition of its own.
-/
import Derived.Test.YtldegdhpblkhhaaRows
import Derived.Test.YtldegdhpblkhhaaV
import Derived.WalkKit
import Derived.ProofKit
import Derived.OpenShut
import Derived.ChangeOld
import Derived.SizedLaws
import Derived.Carry
namespace Go.Proofs.Ytldegdhpblkhhaa
open Go Go.ChangeShapes Go.WideShapes Go.ChangeAt Go.RowKit

theorem own : ownKnob Try.prog.godebug = none := by kernel_rfl
theorem laidOut : laidOutB Try.prog = true := by kernel_rfl

/-- What is known of a slice of numbers of a kind that came in. -/
def Came (k : IntKind) (w : World) (A : Option Addr) (n c : Nat) (zs : List Int) : Prop :=
  zs.length = n ∧ n ≤ c ∧ Row w w.heap.size A n (zs.map (Value.int k)) ∧ ∀ z ∈ zs, (Lit.int k z).wf = true

theorem came_of {H : Type} {enc : TypeId × Value → H} {W : World} {t e : TypeId} {k : IntKind} (ht : Try.prog.underlying t = some (.slice e)) (he : Try.prog.underlying e = some (.int k)) (hc : Try.prog.cellsOf e = 1)
    {A : Option Addr} {n c : Nat} {d : DataW H} {p : List MemPlace} (h : DataW.Trod enc Try.prog W 0 (fun _ => true) true t (.slice A n c) d p) :
    ∃ zs, Came k W A n c zs ∧ (d = .nil ∧ c = 0 ∨ ∃ l r, d = .slice l r ∧ l.length + r.length = c) := by
  obtain ⟨fuel, hf⟩ := h
  rcases open_ints ht he hc hf with ⟨hcs, hx⟩ | ⟨x, l, c', zs, hcs, _, hl, hm, hz, hx, hcell, hwz⟩
  · simp [Value.cells] at hcs
    obtain ⟨rfl, rfl, rfl⟩ := hcs
    have hd : d = .nil := (Prod.mk.inj hx).1
    exact ⟨[], ⟨rfl, Nat.le_refl _, Row.nil _ _ _, by intro z hz; cases hz⟩, .inl ⟨hd, rfl⟩⟩
  · simp [Value.cells] at hcs
    obtain ⟨rfl, rfl, rfl⟩ := hcs
    have hz' : zs.length = c := by simpa using hz
    have hd : d = .slice (lits k (zs.take n)) (lits k (zs.drop n)) := (Prod.mk.inj hx).1
    refine ⟨zs.take n, ⟨by rw [List.length_take]; omega, hl, ⟨by rw [List.length_map, List.length_take]; omega, fun hp => ?_⟩, fun z hz => hwz z (List.mem_of_mem_take hz)⟩, .inr ⟨_, _, hd, by simp [lits]; omega⟩⟩
    obtain ⟨b, off, spot⟩ := x
    have hc0 := hcell 0 (by omega)
    have hspot : spot = none := by simpa [Addr.add] using World.cell?_spot hc0
    subst hspot
    rw [plain_add] at hc0
    refine ⟨b, off, rfl, World.block_lt_of_cell? W _ hc0, fun j u hu => ?_⟩
    rw [List.getElem?_map] at hu
    obtain ⟨z, hz1, rfl⟩ := Option.map_eq_some_iff.1 hu
    rw [List.getElem?_take] at hz1
    split at hz1
    · rename_i hj
      have := hcell j (by omega)
      rw [plain_add] at this
      rw [this]
      simp [List.getD, hz1]
    · cases hz1

/-- Bytes; unsigned numbers; signed ones. -/
theorem came_u8 {w : World} {A : Option Addr} {n c : Nat} {zs : List Int} (h : Came .u8 w A n c zs) : ∃ bs, Row w w.heap.size A n (bv bs) ∧ Oct bs := by
  have hb : ∀ z ∈ zs, 0 ≤ z ∧ z ≤ 255 := fun z hz => by have := h.2.2.2 z hz; have := bounds_u8 this; omega
  refine ⟨zs.map Int.toNat, ?_, ?_⟩
  · have e : bv (zs.map Int.toNat) = zs.map (Value.int .u8) := by
      unfold bv; rw [List.map_map]
      exact List.map_congr_left fun z hz => by have := hb z hz; simp; omega
    rw [e]; exact h.2.2.1
  · intro x hx
    obtain ⟨z, hz, rfl⟩ := List.mem_map.1 hx
    have := hb z hz; omega
theorem trod_lt0 {H : Type} {enc : TypeId × Value → H} {W : World} {t : TypeId} {v : Value} {d : DataW H} {p : List MemPlace} (h : DataW.Trod enc Try.prog W 0 (fun _ => true) true t v d p) : ∀ x ∈ p, x.block < W.heap.size := by
  obtain ⟨m, hm⟩ := h; exact DataW.trod_lt m _ _ _ hm
/-- What is known of a number of 64 bits that came in. -/
def In64 (z : Int) : Prop := -9223372036854775808 ≤ z ∧ z ≤ 9223372036854775807
set_option maxRecDepth 100000 in
/-- What came in as a frame is four numbers. -/
theorem came_f {H : Type} {hv : TypeId × Value → H} {W : World} {base : Nat} {r : Reach} {v : Value} {d : DataW H} {p : List MemPlace} (hok : Value.okWide Try.prog W r base 25 v) (h : DataW.Trod hv Try.prog W 0 (fun _ => true) true 25 v d p) :
    ∃ x : Fr, v = fv x ∧ In64 x.k ∧ In64 x.f ∧ x.s < 18446744073709551616 ∧ x.m < 65536 := by
  obtain ⟨cs, rfl, _⟩ := okWide_struct Try.underlying25 hok
  obtain ⟨fuel, hf⟩ := h
  obtain ⟨xs, n, _, _, hl, hx, hf⟩ := DataW.trod_struct Try.underlying25 hf
  have hl5 : (Value.agg cs).cells.toList.length = 4 := hl.trans (by kernel_rfl)
  have hx5 : xs.length = 4 := hx
  have c3 : Try.prog.cellsOf 3 = 1 := by kernel_rfl
  have c22 : Try.prog.cellsOf 22 = 1 := by kernel_rfl
  have c23 : Try.prog.cellsOf 23 = 1 := by kernel_rfl
  have f0 : DataW.trod hv Try.prog W 0 (fun _ => true) true n 3 (((Value.agg cs).cells.toList.drop 0).take (Try.prog.cellsOf 3)) = xs[0]? := hf 0 _ rfl
  have f1 : DataW.trod hv Try.prog W 0 (fun _ => true) true n 3 (((Value.agg cs).cells.toList.drop 1).take (Try.prog.cellsOf 3)) = xs[1]? := hf 1 _ rfl
  have f2 : DataW.trod hv Try.prog W 0 (fun _ => true) true n 22 (((Value.agg cs).cells.toList.drop 2).take (Try.prog.cellsOf 22)) = xs[2]? := hf 2 _ rfl
  have f3 : DataW.trod hv Try.prog W 0 (fun _ => true) true n 23 (((Value.agg cs).cells.toList.drop 3).take (Try.prog.cellsOf 23)) = xs[3]? := hf 3 _ rfl
  rw [c3] at f0 f1
  rw [c22] at f2
  rw [c23] at f3
  rw [List.getElem?_eq_getElem (by omega)] at f0 f1 f2 f3
  obtain ⟨z0, e0, _, w0⟩ := DataW.trod_int Try.underlying3 f0
  obtain ⟨z1, e1, _, w1⟩ := DataW.trod_int Try.underlying3 f1
  obtain ⟨z2, e2, _, w2⟩ := DataW.trod_int Try.underlying22 f2
  obtain ⟨z3, e3, _, w3⟩ := DataW.trod_int Try.underlying23 f3
  have b2 := bounds_u64 w2
  have b3 := bounds_u16 w3
  obtain ⟨y2, rfl⟩ : ∃ y : Nat, z2 = y := ⟨z2.toNat, by omega⟩
  obtain ⟨y3, rfl⟩ : ∃ y : Nat, z3 = y := ⟨z3.toNat, by omega⟩
  refine ⟨⟨z0, z1, y2, y3⟩, ?_, bounds_i64 w0, bounds_i64 w1, by simp only; omega, by simp only; omega⟩
  have hcs : (Value.agg cs).cells = cs := rfl
  rw [hcs] at hl5 e0 e1 e2 e3
  obtain ⟨cl⟩ := cs
  match cl, hl5 with
  | [a0, a1, a2, a3], _ =>
    simp at e0 e1 e2 e3
    subst e0 e1 e2 e3
    rfl
end Go.Proofs.Ytldegdhpblkhhaa
