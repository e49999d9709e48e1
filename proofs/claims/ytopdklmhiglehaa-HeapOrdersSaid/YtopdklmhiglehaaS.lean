/-
  A slice of bytes that came in. No condition of its own.
-/
import Derived.Test.YtopdklmhiglehaaR
namespace Go.Proofs.Ytopdklmhiglehaa
open Go Go.ChangeShapes Go.WideShapes Go.ChangeAt Go.RowKit
/-- A slice of bytes that came in. -/
def Bytes (w : World) (A : Option Addr) (n : Nat) (zs : List Nat) : Prop := zs.length = n ∧ (∀ z ∈ zs, z < 256) ∧ (0 < n → ∃ b o, A = some ⟨b, o, none⟩ ∧ b < w.heap.size ∧ ∀ j, j < n → w.cell? ⟨b, o + j, none⟩ = some (.int .u8 ((zs.getD j 0 : Nat) : Int)))
theorem came_u8s {H : Type} {hv : TypeId × Value → H} {W : World} {A : Option Addr} {n c : Nat} {d : DataW H} {p : List MemPlace} (h : DataW.Trod hv Try.prog W 0 (fun _ => true) true 44 (.slice A n c) d p) : ∃ zs, Bytes W A n zs ∧ n ≤ 9223372036854775807 := by
  obtain ⟨fuel, hf⟩ := h
  rcases open_ints Try.underlying44 Try.underlying5 (by kernel_rfl) hf with ⟨hcs, hx⟩ | ⟨x, l, c', zs, hcs, _, hl, hm, hz, hx, hcell, hwz⟩
  · simp [Value.cells] at hcs
    obtain ⟨rfl, rfl, rfl⟩ := hcs
    exact ⟨[], ⟨rfl, fun z hz => absurd hz (by simp), fun h => absurd h (by omega)⟩, by decide⟩
  · simp [Value.cells] at hcs
    obtain ⟨rfl, rfl, rfl⟩ := hcs
    have hz' : zs.length = c := by simpa using hz
    have hb : ∀ z ∈ zs, 0 ≤ z ∧ z ≤ 255 := fun z hz => by have := hwz z hz; have := bounds_u8 this; omega
    refine ⟨(zs.take n).map Int.toNat, ⟨by rw [List.length_map, List.length_take]; omega, fun z hz => ?_, fun hp => ?_⟩, by unfold maxLen at hm; omega⟩
    · obtain ⟨y, hy, rfl⟩ := List.mem_map.1 hz
      have := hb y (List.mem_of_mem_take hy)
      omega
    · obtain ⟨b, off, spot⟩ := x
      have hc0 := hcell 0 (by omega)
      have hspot : spot = none := by simpa [Addr.add] using World.cell?_spot hc0
      subst hspot
      rw [plain_add] at hc0
      refine ⟨b, off, rfl, World.block_lt_of_cell? W _ hc0, fun j hj => ?_⟩
      have := hcell j (by omega)
      rw [plain_add] at this
      rw [this]
      have hjl : j < zs.length := by omega
      have h0 := hb zs[j] (List.getElem_mem hjl)
      simp [List.getD, List.getElem?_map, hj, List.getElem?_eq_getElem hjl]
      omega
end Go.Proofs.Ytopdklmhiglehaa
