/-
  From a statement's arguments to the walks' words: a schedule, a frame, a guardian, a slice of numbers that came in are their numbers. No condition of its own.
-/
import Derived.Test.YtpncbfhbiifncaaRows
import Derived.Test.YtpncbfhbiifncaaVF
import Derived.Test.YtpncbfhbiifncaaVG
import Derived.Test.YtpncbfhbiifncaaW
import Derived.WalkKit
import Derived.ProofKit
import Derived.OpenShut
import Derived.ChangeOld
import Derived.SizedLaws
import Derived.Carry
namespace Go.Proofs.Ytpncbfhbiifncaa
open Go Go.ChangeShapes Go.WideShapes Go.ChangeAt Go.RowKit

theorem own : ownKnob Try.prog.godebug = none := by kernel_rfl
theorem laidOut : laidOutB Try.prog = true := by kernel_rfl
/-- What is known of a number of 64 bits that came in. -/
def In64 (z : Int) : Prop := -9223372036854775808 ≤ z ∧ z ≤ 9223372036854775807
section
variable {H : Type} {hv : TypeId × Value → H} {W : World} {base : Nat}
set_option maxRecDepth 100000 in
/-- What came in as a schedule is five numbers of 64 bits. -/
theorem came_m {r : Reach} {v : Value} {d : DataW H} {p : List MemPlace} (hok : Value.okWide Try.prog W r base 26 v) (h : DataW.Trod hv Try.prog W 0 (fun _ => true) true 26 v d p) :
    ∃ z0 z1 z2 z3 z4 : Int, v = mv ⟨z0, z1, z2, z3, z4⟩ ∧ In64 z0 ∧ In64 z1 ∧ In64 z2 ∧ In64 z3 ∧ In64 z4 := by
  obtain ⟨cs, rfl, _⟩ := okWide_struct Try.underlying26 hok
  obtain ⟨fuel, hf⟩ := h
  obtain ⟨xs, n, _, _, hl, hx, hf⟩ := DataW.trod_struct Try.underlying26 hf
  have hl5 : (Value.agg cs).cells.toList.length = 5 := hl.trans (by kernel_rfl)
  have hx5 : xs.length = 5 := hx
  have c2 : Try.prog.cellsOf 2 = 1 := by kernel_rfl
  have c3 : Try.prog.cellsOf 3 = 1 := by kernel_rfl
  have f0 : DataW.trod hv Try.prog W 0 (fun _ => true) true n 3 (((Value.agg cs).cells.toList.drop 0).take (Try.prog.cellsOf 3)) = xs[0]? := hf 0 _ rfl
  have f1 : DataW.trod hv Try.prog W 0 (fun _ => true) true n 2 (((Value.agg cs).cells.toList.drop 1).take (Try.prog.cellsOf 2)) = xs[1]? := hf 1 _ rfl
  have f2 : DataW.trod hv Try.prog W 0 (fun _ => true) true n 2 (((Value.agg cs).cells.toList.drop 2).take (Try.prog.cellsOf 2)) = xs[2]? := hf 2 _ rfl
  have f3 : DataW.trod hv Try.prog W 0 (fun _ => true) true n 2 (((Value.agg cs).cells.toList.drop 3).take (Try.prog.cellsOf 2)) = xs[3]? := hf 3 _ rfl
  have f4 : DataW.trod hv Try.prog W 0 (fun _ => true) true n 2 (((Value.agg cs).cells.toList.drop 4).take (Try.prog.cellsOf 2)) = xs[4]? := hf 4 _ rfl
  rw [c2] at f1 f2 f3 f4
  rw [c3] at f0
  rw [List.getElem?_eq_getElem (by omega)] at f0 f1 f2 f3 f4
  obtain ⟨z0, e0, _, w0⟩ := DataW.trod_int Try.underlying3 f0
  obtain ⟨z1, e1, _, w1⟩ := DataW.trod_int Try.underlying2 f1
  obtain ⟨z2, e2, _, w2⟩ := DataW.trod_int Try.underlying2 f2
  obtain ⟨z3, e3, _, w3⟩ := DataW.trod_int Try.underlying2 f3
  obtain ⟨z4, e4, _, w4⟩ := DataW.trod_int Try.underlying2 f4
  refine ⟨z0, z1, z2, z3, z4, ?_, bounds_i64 w0, bounds_i64 w1, bounds_i64 w2, bounds_i64 w3, bounds_i64 w4⟩
  have hcs : (Value.agg cs).cells = cs := rfl
  rw [hcs] at hl5 e0 e1 e2 e3 e4
  obtain ⟨cl⟩ := cs
  match cl, hl5 with
  | [a0, a1, a2, a3, a4], _ =>
    simp at e0 e1 e2 e3 e4
    subst e0 e1 e2 e3 e4
    rfl
theorem trod_lt0 {t : TypeId} {v : Value} {d : DataW H} {p : List MemPlace} (h : DataW.Trod hv Try.prog W 0 (fun _ => true) true t v d p) : ∀ x ∈ p, x.block < W.heap.size := by
  obtain ⟨m, hm⟩ := h; exact DataW.trod_lt m _ _ _ hm
end
set_option maxRecDepth 100000 in
/-- What came in as a frame is four numbers. -/
theorem came_f {H : Type} {hv : TypeId × Value → H} {W : World} {base : Nat} {r : Reach} {v : Value} {d : DataW H} {p : List MemPlace} (hok : Value.okWide Try.prog W r base 37 v) (h : DataW.Trod hv Try.prog W 0 (fun _ => true) true 37 v d p) :
    ∃ x : Fr, v = fv x ∧ In64 x.k ∧ In64 x.f ∧ x.s < 18446744073709551616 ∧ x.m < 65536 := by
  obtain ⟨cs, rfl, _⟩ := okWide_struct Try.underlying37 hok
  obtain ⟨fuel, hf⟩ := h
  obtain ⟨xs, n, _, _, hl, hx, hf⟩ := DataW.trod_struct Try.underlying37 hf
  have hl5 : (Value.agg cs).cells.toList.length = 4 := hl.trans (by kernel_rfl)
  have hx5 : xs.length = 4 := hx
  have c3 : Try.prog.cellsOf 3 = 1 := by kernel_rfl
  have c25 : Try.prog.cellsOf 22 = 1 := by kernel_rfl
  have c24 : Try.prog.cellsOf 35 = 1 := by kernel_rfl
  have f0 : DataW.trod hv Try.prog W 0 (fun _ => true) true n 3 (((Value.agg cs).cells.toList.drop 0).take (Try.prog.cellsOf 3)) = xs[0]? := hf 0 _ rfl
  have f1 : DataW.trod hv Try.prog W 0 (fun _ => true) true n 3 (((Value.agg cs).cells.toList.drop 1).take (Try.prog.cellsOf 3)) = xs[1]? := hf 1 _ rfl
  have f2 : DataW.trod hv Try.prog W 0 (fun _ => true) true n 22 (((Value.agg cs).cells.toList.drop 2).take (Try.prog.cellsOf 22)) = xs[2]? := hf 2 _ rfl
  have f3 : DataW.trod hv Try.prog W 0 (fun _ => true) true n 35 (((Value.agg cs).cells.toList.drop 3).take (Try.prog.cellsOf 35)) = xs[3]? := hf 3 _ rfl
  rw [c3] at f0 f1
  rw [c25] at f2
  rw [c24] at f3
  rw [List.getElem?_eq_getElem (by omega)] at f0 f1 f2 f3
  obtain ⟨z0, e0, _, w0⟩ := DataW.trod_int Try.underlying3 f0
  obtain ⟨z1, e1, _, w1⟩ := DataW.trod_int Try.underlying3 f1
  obtain ⟨z2, e2, _, w2⟩ := DataW.trod_int Try.underlying22 f2
  obtain ⟨z3, e3, _, w3⟩ := DataW.trod_int Try.underlying35 f3
  have b2 := bounds_u64 w2
  have b3 := bounds_u16 w3
  obtain ⟨y2, rfl⟩ : ∃ y : Nat, z2 = y := ⟨z2.toNat, by omega⟩
  obtain ⟨y3, rfl⟩ : ∃ y : Nat, z3 = y := ⟨z3.toNat, by omega⟩
  refine ⟨⟨z0, z1, y2, y3⟩, ?_, bounds_i64 w0, bounds_i64 w1, by simp only; omega, by simp only; omega⟩
  have hcs : (Value.agg cs).cells = cs := rfl
  rw [hcs] at hl5 e0 e1 e2 e3
  obtain ⟨cl⟩ := cs
  match cl, hl5 with
  | [a0, a1, a2, a3], _ =>
    simp at e0 e1 e2 e3
    subst e0 e1 e2 e3
    rfl
set_option maxRecDepth 100000 in
/-- What came in as a guardian is two Bools and two numbers. -/
theorem came_g {H : Type} {hv : TypeId × Value → H} {W : World} {base : Nat} {r : Reach} {v : Value} {d : DataW H} {p : List MemPlace} (hok : Value.okWide Try.prog W r base 24 v) (h : DataW.Trod hv Try.prog W 0 (fun _ => true) true 24 v d p) :
    ∃ x : Gd, v = gv x ∧ (0 ≤ x.s ∧ x.s ≤ 18446744073709551615) ∧ In64 x.a := by
  obtain ⟨cs, rfl, _⟩ := okWide_struct Try.underlying24 hok
  obtain ⟨fuel, hf⟩ := h
  obtain ⟨xs, n, _, _, hl, hx, hf⟩ := DataW.trod_struct Try.underlying24 hf
  have hl5 : (Value.agg cs).cells.toList.length = 4 := hl.trans (by kernel_rfl)
  have hx5 : xs.length = 4 := hx
  have c2 : Try.prog.cellsOf 2 = 1 := by kernel_rfl
  have c4 : Try.prog.cellsOf 4 = 1 := by kernel_rfl
  have c22 : Try.prog.cellsOf 22 = 1 := by kernel_rfl
  have f0 : DataW.trod hv Try.prog W 0 (fun _ => true) true n 4 (((Value.agg cs).cells.toList.drop 0).take (Try.prog.cellsOf 4)) = xs[0]? := hf 0 _ rfl
  have f1 : DataW.trod hv Try.prog W 0 (fun _ => true) true n 4 (((Value.agg cs).cells.toList.drop 1).take (Try.prog.cellsOf 4)) = xs[1]? := hf 1 _ rfl
  have f2 : DataW.trod hv Try.prog W 0 (fun _ => true) true n 22 (((Value.agg cs).cells.toList.drop 2).take (Try.prog.cellsOf 22)) = xs[2]? := hf 2 _ rfl
  have f3 : DataW.trod hv Try.prog W 0 (fun _ => true) true n 2 (((Value.agg cs).cells.toList.drop 3).take (Try.prog.cellsOf 2)) = xs[3]? := hf 3 _ rfl
  rw [c4] at f0 f1
  rw [c22] at f2
  rw [c2] at f3
  rw [List.getElem?_eq_getElem (by omega)] at f0 f1 f2 f3
  obtain ⟨z0, e0, _⟩ := DataW.trod_bool Try.underlying4 f0
  obtain ⟨z1, e1, _⟩ := DataW.trod_bool Try.underlying4 f1
  obtain ⟨z2, e2, _, w2⟩ := DataW.trod_int Try.underlying22 f2
  obtain ⟨z3, e3, _, w3⟩ := DataW.trod_int Try.underlying2 f3
  have b2 := bounds_u64 w2
  refine ⟨⟨z0, z1, z2, z3⟩, ?_, by simp only; omega, bounds_i64 w3⟩
  have hcs : (Value.agg cs).cells = cs := rfl
  rw [hcs] at hl5 e0 e1 e2 e3
  obtain ⟨cl⟩ := cs
  match cl, hl5 with
  | [a0, a1, a2, a3], _ =>
    simp at e0 e1 e2 e3
    subst e0 e1 e2 e3
    rfl
/-- What is known of a slice of numbers of a kind that came in. -/
def Came (k : IntKind) (w : World) (A : Option Addr) (n c : Nat) (zs : List Int) : Prop :=
  zs.length = n ∧ n ≤ c ∧ Row w w.heap.size A n (zs.map (Value.int k)) ∧ ∀ z ∈ zs, (Lit.int k z).wf = true

theorem came_of {H : Type} {enc : TypeId × Value → H} {W : World} {t e : TypeId} {k : IntKind} (ht : Try.prog.underlying t = some (.slice e)) (he : Try.prog.underlying e = some (.int k)) (hc : Try.prog.cellsOf e = 1)
    {A : Option Addr} {n c : Nat} {d : DataW H} {p : List MemPlace} (h : DataW.Trod enc Try.prog W 0 (fun _ => true) true t (.slice A n c) d p) :
    ∃ zs, Came k W A n c zs ∧ (d = .nil ∧ c = 0 ∨ ∃ l r, d = .slice l r ∧ l.length + r.length = c) := by
  obtain ⟨fuel, hf⟩ := h
  rcases open_ints ht he hc hf with ⟨hcs, hx⟩ | ⟨x, l, c', zs, hcs, _, hl, hm, hz, hx, hcell, hwz⟩
  · simp [Value.cells] at hcs
    obtain ⟨rfl, rfl, rfl⟩ := hcs
    have hd : d = .nil := (Prod.mk.inj hx).1
    exact ⟨[], ⟨rfl, Nat.le_refl _, Row.nil _ _ _, by intro z hz; cases hz⟩, .inl ⟨hd, rfl⟩⟩
  · simp [Value.cells] at hcs
    obtain ⟨rfl, rfl, rfl⟩ := hcs
    have hz' : zs.length = c := by simpa using hz
    have hd : d = .slice (lits k (zs.take n)) (lits k (zs.drop n)) := (Prod.mk.inj hx).1
    refine ⟨zs.take n, ⟨by rw [List.length_take]; omega, hl, ⟨by rw [List.length_map, List.length_take]; omega, fun hp => ?_⟩, fun z hz => hwz z (List.mem_of_mem_take hz)⟩, .inr ⟨_, _, hd, by simp [lits]; omega⟩⟩
    obtain ⟨b, off, spot⟩ := x
    have hc0 := hcell 0 (by omega)
    have hspot : spot = none := by simpa [Addr.add] using World.cell?_spot hc0
    subst hspot
    rw [plain_add] at hc0
    refine ⟨b, off, rfl, World.block_lt_of_cell? W _ hc0, fun j u hu => ?_⟩
    rw [List.getElem?_map] at hu
    obtain ⟨z, hz1, rfl⟩ := Option.map_eq_some_iff.1 hu
    rw [List.getElem?_take] at hz1
    split at hz1
    · rename_i hj
      have := hcell j (by omega)
      rw [plain_add] at this
      rw [this]
      simp [List.getD, hz1]
    · cases hz1

end Go.Proofs.Ytpncbfhbiifncaa
