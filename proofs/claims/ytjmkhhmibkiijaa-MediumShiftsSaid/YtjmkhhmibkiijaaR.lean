/-
  From a statement's arguments to the walks' words: an api.Air that came in, a slice of such, a slice of slices of numbers. No condition of its own.
-/
import Derived.Test.YtjmkhhmibkiijaaRows
import Derived.Test.YtjmkhhmibkiijaaE
import Derived.WalkKit
import Derived.ProofKit
import Derived.OpenShut
import Derived.ChangeOld
import Derived.SizedLaws
import Derived.Carry
import Derived.Deep.Slices
namespace Go.Proofs.Ytjmkhhmibkiijaa
open Go Go.ChangeShapes Go.WideShapes Go.ChangeAt Go.RowKit

theorem own : ownKnob Try.prog.godebug = none := by kernel_rfl
theorem laidOut : laidOutB Try.prog = true := by kernel_rfl
/-- Of one: its numbers are of their kinds, its bytes are bytes. -/
structure AirOk (x : Ar) : Prop where
  id : 0 ≤ x.id ∧ x.id ≤ 18446744073709551615
  fr : -9223372036854775808 ≤ x.fr ∧ x.fr ≤ 9223372036854775807
  sa : -9223372036854775808 ≤ x.sa ∧ x.sa ≤ 9223372036854775807
  en : -9223372036854775808 ≤ x.en ∧ x.en ≤ 9223372036854775807
  lf : -9223372036854775808 ≤ x.lf ∧ x.lf ≤ 9223372036854775807
  oct : Oct x.b
  n : x.n ≤ x.c
  c : x.c ≤ 9223372036854775807
theorem pick {α : Type} [Inhabited α] {n : Nat} {P : Nat → α → Prop} (h : ∀ i, i < n → ∃ x, P i x) : ∃ f : Nat → α, ∀ i, i < n → P i (f i) :=
  ⟨fun i => if h' : i < n then (h i h').choose else default, fun i hi => by simp only [dif_pos hi]; exact (h i hi).choose_spec⟩
section
variable {H : Type} {hv : TypeId × Value → H} {W : World}
theorem row_of {vs : List Value} {A : Addr} {n : Nat} (hl : vs.length = n) (h : ∀ j u, vs[j]? = some u → W.cell? (A.add j) = some u) : Row W W.heap.size (some A) n vs := by
  refine ⟨hl, fun hn => ?_⟩
  obtain ⟨b, off, spot⟩ := A
  have h0 := h 0 (vs[0]'(by omega)) (List.getElem?_eq_getElem (by omega))
  have hspot : spot = none := by simpa [Addr.add] using World.cell?_spot h0
  subst hspot
  rw [plain_add] at h0
  exact ⟨b, off, rfl, World.block_lt_of_cell? W _ h0, fun j u hu => by have := h j u hu; rwa [plain_add] at this⟩
set_option maxRecDepth 100000 in
theorem bytes_of {fuel : Nat} {cs : List Value} {x : DataW H × List MemPlace} (hf : DataW.trod hv Try.prog W 0 (fun _ => true) true fuel 23 cs = some x) :
    ∃ A n c bs, cs = [.slice A n c] ∧ Row W W.heap.size A n (bv bs) ∧ Oct bs ∧ n ≤ c ∧ c ≤ 9223372036854775807 := by
  rcases Deep.open_slice1 Try.underlying23 (by kernel_rfl) hf with ⟨hcs, hx⟩ | ⟨a, n, c, m, k, V, D, Pl, hcs, _, hl, hm, hmm, hx, hi⟩
  · exact ⟨none, 0, 0, [], hcs, Row.nil _ _ _, (fun x hx => by cases hx), Nat.le_refl _, by decide⟩
  · simp only [if_true] at hmm
    rw [hmm] at hi
    obtain ⟨f, hf'⟩ := pick (α := Nat) (n := c) (P := fun i z => V i = .int .u8 (z : Int) ∧ z < 256) (fun i hi' => by
      obtain ⟨_, ht⟩ := hi i hi'
      obtain ⟨z, e, _, wf⟩ := DataW.trod_int Try.underlying5 ht
      have hb := bounds_u8 wf
      simp at e
      exact ⟨z.toNat, by rw [e, Int.toNat_of_nonneg hb.1], by omega⟩)
    refine ⟨some a, n, c, (List.range n).map f, hcs, row_of (by simp [bv]) fun j u hu => ?_, fun x hx => ?_, hl, by unfold maxLen at hm; omega⟩
    · unfold bv at hu
      rw [List.getElem?_map] at hu
      obtain ⟨z, hz, rfl⟩ := Option.map_eq_some_iff.1 hu
      rw [List.getElem?_map] at hz
      obtain ⟨i, hi2, rfl⟩ := Option.map_eq_some_iff.1 hz
      have hj : j < n := by have := (List.getElem?_eq_some_iff.1 hi2).1; simpa using this
      rw [List.getElem?_range hj] at hi2
      injection hi2 with hi2; subst hi2
      rw [(hi j (by omega)).1, (hf' j (by omega)).1]
    · obtain ⟨i, hi2, rfl⟩ := List.mem_map.1 hx
      exact (hf' i (by have := List.mem_range.1 hi2; omega)).2
set_option maxRecDepth 100000 in
theorem nums_of {fuel : Nat} {cs : List Value} {x : DataW H × List MemPlace} (hf : DataW.trod hv Try.prog W 0 (fun _ => true) true fuel 46 cs = some x) :
    ∃ r : Ro, cs = [rv r] ∧ Row W W.heap.size r.A r.n (sv r.zs) := by
  rcases Deep.open_slice1 Try.underlying46 (by kernel_rfl) hf with ⟨hcs, hx⟩ | ⟨a, n, c, m, k, V, D, Pl, hcs, _, hl, hm, hmm, hx, hi⟩
  · exact ⟨rz, hcs, Row.nil _ _ _⟩
  · simp only [if_true] at hmm
    rw [hmm] at hi
    obtain ⟨f, hf'⟩ := pick (α := Int) (n := c) (P := fun i z => V i = .int .i64 z) (fun i hi' => by
      obtain ⟨_, ht⟩ := hi i hi'
      obtain ⟨z, e, _, wf⟩ := DataW.trod_int Try.underlying2 ht
      simp at e
      exact ⟨z, e⟩)
    refine ⟨⟨some a, n, c, (List.range n).map f⟩, hcs, row_of (by simp [sv]) fun j u hu => ?_⟩
    unfold sv at hu
    rw [List.getElem?_map] at hu
    obtain ⟨z, hz, rfl⟩ := Option.map_eq_some_iff.1 hu
    rw [List.getElem?_map] at hz
    obtain ⟨i, hi2, rfl⟩ := Option.map_eq_some_iff.1 hz
    have hj : j < n := by have := (List.getElem?_eq_some_iff.1 hi2).1; simpa using this
    rw [List.getElem?_range hj] at hi2
    injection hi2 with hi2; subst hi2
    rw [(hi j (by omega)).1, hf' j (by omega)]
set_option maxRecDepth 100000 in
theorem rows_of {fuel : Nat} {cs : List Value} {x : DataW H × List MemPlace} (hf : DataW.trod hv Try.prog W 0 (fun _ => true) true fuel 26 cs = some x) :
    ∃ A n c rs, cs = [.slice A n c] ∧ Mx W W.heap.size A n rs ∧ n ≤ 9223372036854775807 := by
  rcases Deep.open_slice1 Try.underlying26 (by kernel_rfl) hf with ⟨hcs, hx⟩ | ⟨a, n, c, m, k, V, D, Pl, hcs, _, hl, hm, hmm, hx, hi⟩
  · exact ⟨none, 0, 0, [], hcs, ⟨Row.nil _ _ _, fun x hx => by cases hx⟩, by decide⟩
  · simp only [if_true] at hmm
    rw [hmm] at hi
    obtain ⟨f, hf'⟩ := pick (α := Ro) (n := c) (P := fun i r => V i = rv r ∧ Row W W.heap.size r.A r.n (sv r.zs)) (fun i hi' => by
      obtain ⟨_, ht⟩ := hi i hi'
      obtain ⟨r, e, hr⟩ := nums_of ht
      simp at e
      exact ⟨r, e, hr⟩)
    refine ⟨some a, n, c, (List.range n).map f, hcs, ⟨row_of (by simp) fun j u hu => ?_, fun r hr => ?_⟩, by unfold maxLen at hm; omega⟩
    · rw [List.getElem?_map] at hu
      obtain ⟨z, hz, rfl⟩ := Option.map_eq_some_iff.1 hu
      rw [List.getElem?_map] at hz
      obtain ⟨i, hi2, rfl⟩ := Option.map_eq_some_iff.1 hz
      have hj : j < n := by have := (List.getElem?_eq_some_iff.1 hi2).1; simpa using this
      rw [List.getElem?_range hj] at hi2
      injection hi2 with hi2; subst hi2
      rw [(hi j (by omega)).1, (hf' j (by omega)).1]
    · obtain ⟨i, hi2, rfl⟩ := List.mem_map.1 hr
      exact (hf' i (by have := List.mem_range.1 hi2; omega)).2
set_option maxRecDepth 100000 in
/-- What reads as one is one's eight cells. -/
theorem air_of {fuel : Nat} {cs : List Value} {x : DataW H × List MemPlace} (h : DataW.trod hv Try.prog W 0 (fun _ => true) true fuel 25 cs = some x) : ∃ z : Ar, cs = enc z ∧ Row W W.heap.size z.A z.n (bv z.b) ∧ AirOk z := by
  obtain ⟨xs, n, _, _, hl, hx, hf⟩ := DataW.trod_struct Try.underlying25 h
  have hl8 : cs.length = 8 := hl.trans (by kernel_rfl)
  have hx8 : xs.length = 8 := hx
  have c22 : Try.prog.cellsOf 22 = 1 := by kernel_rfl
  have c3 : Try.prog.cellsOf 3 = 1 := by kernel_rfl
  have c2 : Try.prog.cellsOf 2 = 1 := by kernel_rfl
  have c23 : Try.prog.cellsOf 23 = 1 := by kernel_rfl
  have c4 : Try.prog.cellsOf 4 = 1 := by kernel_rfl
  have f0 : DataW.trod hv Try.prog W 0 (fun _ => true) true n 22 ((cs.drop 0).take (Try.prog.cellsOf 22)) = xs[0]? := hf 0 _ rfl
  have f1 : DataW.trod hv Try.prog W 0 (fun _ => true) true n 3 ((cs.drop 1).take (Try.prog.cellsOf 3)) = xs[1]? := hf 1 _ rfl
  have f2 : DataW.trod hv Try.prog W 0 (fun _ => true) true n 3 ((cs.drop 2).take (Try.prog.cellsOf 3)) = xs[2]? := hf 2 _ rfl
  have f3 : DataW.trod hv Try.prog W 0 (fun _ => true) true n 2 ((cs.drop 3).take (Try.prog.cellsOf 2)) = xs[3]? := hf 3 _ rfl
  have f4 : DataW.trod hv Try.prog W 0 (fun _ => true) true n 2 ((cs.drop 4).take (Try.prog.cellsOf 2)) = xs[4]? := hf 4 _ rfl
  have f5 : DataW.trod hv Try.prog W 0 (fun _ => true) true n 23 ((cs.drop 5).take (Try.prog.cellsOf 23)) = xs[5]? := hf 5 _ rfl
  have f6 : DataW.trod hv Try.prog W 0 (fun _ => true) true n 4 ((cs.drop 6).take (Try.prog.cellsOf 4)) = xs[6]? := hf 6 _ rfl
  have f7 : DataW.trod hv Try.prog W 0 (fun _ => true) true n 3 ((cs.drop 7).take (Try.prog.cellsOf 3)) = xs[7]? := hf 7 _ rfl
  rw [c22] at f0; rw [c3] at f1 f2 f7; rw [c2] at f3 f4; rw [c23] at f5; rw [c4] at f6
  rw [List.getElem?_eq_getElem (by omega)] at f0 f1 f2 f3 f4 f5 f6 f7
  obtain ⟨z0, e0, _, w0⟩ := DataW.trod_int Try.underlying22 f0
  obtain ⟨z1, e1, _, w1⟩ := DataW.trod_int Try.underlying3 f1
  obtain ⟨z2, e2, _, w2⟩ := DataW.trod_int Try.underlying3 f2
  obtain ⟨z3, e3, _, w3⟩ := DataW.trod_int Try.underlying2 f3
  obtain ⟨z4, e4, _, w4⟩ := DataW.trod_int Try.underlying2 f4
  obtain ⟨A, m, c, bs, e5, hr, ho, hn, hc⟩ := bytes_of f5
  obtain ⟨z6, e6, _⟩ := DataW.trod_bool Try.underlying4 f6
  obtain ⟨z7, e7, _, w7⟩ := DataW.trod_int Try.underlying3 f7
  match cs, hl8 with
  | [a0, a1, a2, a3, a4, a5, a6, a7], _ =>
    simp at e0 e1 e2 e3 e4 e5 e6 e7
    refine ⟨⟨z0, z1, z2, z3, z4, A, m, c, z6, z7, bs⟩, by subst e0 e1 e2 e3 e4 e5 e6 e7; rfl, hr, ⟨bounds_u64 w0, ?_, ?_, ?_, ?_, ho, hn, hc⟩⟩
    · have := bounds_i64 w1; exact (show -9223372036854775808 ≤ z1 ∧ z1 ≤ 9223372036854775807 by omega)
    · have := bounds_i64 w3; exact (show -9223372036854775808 ≤ z3 ∧ z3 ≤ 9223372036854775807 by omega)
    · have := bounds_i64 w4; exact (show -9223372036854775808 ≤ z4 ∧ z4 ≤ 9223372036854775807 by omega)
    · have := bounds_i64 w7; exact (show -9223372036854775808 ≤ z7 ∧ z7 ≤ 9223372036854775807 by omega)
set_option maxRecDepth 100000 in
theorem airs_of {fuel : Nat} {cs : List Value} {x : DataW H × List MemPlace} (hf : DataW.trod hv Try.prog W 0 (fun _ => true) true fuel 34 cs = some x) :
    ∃ A n c xs, cs = [.slice A n c] ∧ RA W W.heap.size A n xs ∧ n ≤ c ∧ c ≤ 9223372036854775807 ∧ ∀ x ∈ xs, AirOk x := by
  rcases Deep.open_slice Try.underlying34 hf with ⟨hcs, hx⟩ | ⟨a, n, c, m, k, D, Pl, hcs, _, hl, hm, hmm, hx, hi⟩
  · exact ⟨none, 0, 0, [], hcs, RA.nil _ _ _, Nat.le_refl _, by decide, fun x hx => by cases hx⟩
  · have hC : Try.prog.cellsOf 25 = 8 := by kernel_rfl
    simp only [if_true] at hmm
    rw [hmm] at hi
    obtain ⟨f, hf'⟩ := pick (α := Ar) (n := c) (P := fun i z => (∀ j, j < 8 → W.cell? (a.add (i * 8 + j)) = (enc z)[j]?) ∧ Row W W.heap.size z.A z.n (bv z.b) ∧ AirOk z) (fun i hic => by
      obtain ⟨cs', hcells, ht⟩ := hi i hic
      obtain ⟨z, rfl, hz⟩ := air_of ht
      rw [hC] at hcells
      obtain ⟨_, _, hat⟩ := World.cells?_some hcells
      exact ⟨z, fun j hj => by rw [← Deep.add_add]; exact hat j hj, hz⟩)
    refine ⟨some a, n, c, (List.range n).map f, hcs, ⟨⟨by simp, fun hp => ?_⟩, fun x hx => ?_⟩, hl, by unfold maxLen at hm; omega, fun x hx => ?_⟩
    · have hr : Row W W.heap.size (some a) (n * 8) (flat ((List.range n).map f)) := row_of (by rw [flat_len]; simp) fun j u hu => by
        have hj : j < n * 8 := by have := (List.getElem?_eq_some_iff.1 hu).1; rw [flat_len] at this; simpa using this
        have h1 := flat_at ((List.range n).map f) (j / 8) (j % 8) (by simp; omega) (by omega)
        rw [show j / 8 * 8 + j % 8 = j by omega] at h1
        have h2 : nth ((List.range n).map f) (j / 8) = f (j / 8) := nth_of (by rw [List.getElem?_map, List.getElem?_range (by omega)]; rfl)
        rw [h2, hu] at h1
        have h3 := (hf' (j / 8) (by omega)).1 (j % 8) (by omega)
        rw [show j / 8 * 8 + j % 8 = j by omega, ← h1] at h3
        exact h3
      exact hr.2 (by omega)
    · obtain ⟨i, hi2, rfl⟩ := List.mem_map.1 hx
      exact (hf' i (by have := List.mem_range.1 hi2; omega)).2.1
    · obtain ⟨i, hi2, rfl⟩ := List.mem_map.1 hx
      exact (hf' i (by have := List.mem_range.1 hi2; omega)).2.2
/-- One that came in as an argument. -/
theorem came_air {r : Reach} {base : Nat} {v : Value} {d : DataW H} {p : List MemPlace} (hok : Value.okWide Try.prog W r base 25 v) (h : DataW.Trod hv Try.prog W 0 (fun _ => true) true 25 v d p) :
    ∃ z : Ar, v = itv z ∧ Row W W.heap.size z.A z.n (bv z.b) ∧ AirOk z := by
  obtain ⟨cs, rfl, _⟩ := okWide_struct Try.underlying25 hok
  obtain ⟨fuel, hf⟩ := h
  obtain ⟨z, hz, hr, ho⟩ := air_of hf
  refine ⟨z, ?_, hr, ho⟩
  have e : (Value.agg cs).cells = cs := rfl
  rw [e] at hz
  unfold itv
  rw [← hz]
theorem came_airs {A : Option Addr} {n c : Nat} {d : DataW H} {p : List MemPlace} (h : DataW.Trod hv Try.prog W 0 (fun _ => true) true 34 (.slice A n c) d p) :
    ∃ xs, RA W W.heap.size A n xs ∧ n ≤ c ∧ c ≤ 9223372036854775807 ∧ ∀ x ∈ xs, AirOk x := by
  obtain ⟨fuel, hf⟩ := h
  obtain ⟨A', n', c', xs, e, hr⟩ := airs_of hf
  have e' : [Value.slice A n c] = [Value.slice A' n' c'] := e
  simp at e'
  obtain ⟨rfl, rfl, rfl⟩ := e'
  exact ⟨xs, hr⟩
theorem came_rows {A : Option Addr} {n c : Nat} {d : DataW H} {p : List MemPlace} (h : DataW.Trod hv Try.prog W 0 (fun _ => true) true 26 (.slice A n c) d p) :
    ∃ rs, Mx W W.heap.size A n rs ∧ n ≤ 9223372036854775807 := by
  obtain ⟨fuel, hf⟩ := h
  obtain ⟨A', n', c', rs, e, hr⟩ := rows_of hf
  have e' : [Value.slice A n c] = [Value.slice A' n' c'] := e
  simp at e'
  obtain ⟨rfl, rfl, rfl⟩ := e'
  exact ⟨rs, hr⟩
theorem trod_lt0 {t : TypeId} {v : Value} {d : DataW H} {p : List MemPlace} (h : DataW.Trod hv Try.prog W 0 (fun _ => true) true t v d p) : ∀ x ∈ p, x.block < W.heap.size := by
  obtain ⟨m, hm⟩ := h; exact DataW.trod_lt m _ _ _ hm
end
end Go.Proofs.Ytjmkhhmibkiijaa
