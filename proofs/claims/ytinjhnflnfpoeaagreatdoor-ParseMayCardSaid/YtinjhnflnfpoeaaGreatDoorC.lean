/-
  Contracts of pico.greatest: which unit is the greatest of which a number is a whole one; under: the table of units, and of powers of ten, hold what the program lays (LaidW); the divisions by the units are given in its head.
-/
import Derived.Test.YtinjhnflnfpoeaaGreatDoorB
import Derived.Lib.SmallJoins
import Derived.Laws.Rows
import Derived.Deep.Light
import Derived.Deep.MidRow
import Derived.Shelf.Unicode.DecodeSlow
namespace Go.Proofs.YtinjhnflnfpoeaaGreatDoor
open Go Go.RowKit Go.Joins

def unitCells : Array Value := #[.string ⟨#[112, 115]⟩, .int .i64 1, .string ⟨#[110, 115]⟩, .int .i64 1000, .string ⟨#[117, 115]⟩, .int .i64 1000000, .string ⟨#[109, 115]⟩, .int .i64 1000000000, .string ⟨#[115]⟩, .int .i64 1000000000000]
theorem gUnits : Tryz.prog.globalNamed "pallet/pico.units" = some 1 := by kernel_rfl
theorem gPow : Tryz.prog.globalNamed "internal/strconv.uint64pow10" = some 9 := by kernel_rfl
theorem gFirst : Tryz.prog.globalNamed "pallet/lex.first" = some 0 := by kernel_rfl
structure LaidW (w : World) : Prop where
  first : w.var? Tryz.prog "pallet/lex.first" = some #[.int .i64 1, .int .i64 1]
  utf : Lib.Utf8Tabs 2 3 w
  units : w.var? Tryz.prog "pallet/pico.units" = some unitCells
  pow : Lib.TabIs Tryz.prog w "internal/strconv.uint64pow10" .u64 Lib.pow10Tab
theorem utf_below {w w' : World} {a b : Nat} (h : Lib.Utf8Tabs a b w) (hb : Below w.heap.size w w') : Lib.Utf8Tabs a b w' := by
  have hlt : ∀ {g : Nat} {v : Value}, w.cell? ⟨g, 0, none⟩ = some v → g < w.heap.size := fun h => World.block_lt_of_cell? w _ h
  have ha := hlt (h.1 0 (by omega))
  have hb' : b < w.heap.size := hlt (h.2 0 (by omega)).1
  refine ⟨fun c hc => (hb.cell (p := ⟨a, c, none⟩) ha).trans (h.1 c hc), fun i hi => ⟨(hb.cell (p := ⟨b, 2 * i, none⟩) hb').trans (h.2 i hi).1, (hb.cell (p := ⟨b, 2 * i + 1, none⟩) hb').trans (h.2 i hi).2⟩⟩
theorem LaidW.below {w w' : World} (h : LaidW w) (hb : Below w.heap.size w w') : LaidW w' :=
  ⟨var_stays gFirst h.first hb (Nat.le_refl _), utf_below h.utf hb, var_stays gUnits h.units hb (Nat.le_refl _), var_stays gPow h.pow hb (Nat.le_refl _)⟩
theorem LaidW.block {w : World} (h : LaidW w) : ∃ t fr, w.heap[1]? = some (.cells unitCells t fr) := by
  have hu := h.units
  unfold World.var? at hu
  rw [gUnits] at hu
  simp only [Option.bind_some] at hu
  split at hu
  · rename_i cs t fr hh
    cases hu
    exact ⟨t, fr, hh⟩
  · cases hu

theorem LaidW.cells {w : World} (h : LaidW w) : w.cell? ⟨1, 0, none⟩ = some (.string ⟨#[112, 115]⟩) ∧ w.cell? ⟨1, 1, none⟩ = some (.int .i64 1) ∧ w.cell? ⟨1, 2, none⟩ = some (.string ⟨#[110, 115]⟩) ∧ w.cell? ⟨1, 3, none⟩ = some (.int .i64 1000) ∧ w.cell? ⟨1, 4, none⟩ = some (.string ⟨#[117, 115]⟩) ∧ w.cell? ⟨1, 5, none⟩ = some (.int .i64 1000000) ∧ w.cell? ⟨1, 6, none⟩ = some (.string ⟨#[109, 115]⟩) ∧ w.cell? ⟨1, 7, none⟩ = some (.int .i64 1000000000) ∧ w.cell? ⟨1, 8, none⟩ = some (.string ⟨#[115]⟩) ∧ w.cell? ⟨1, 9, none⟩ = some (.int .i64 1000000000000) := by
  obtain ⟨t0, fr, hg⟩ := h.block
  refine ⟨?_, ?_, ?_, ?_, ?_, ?_, ?_, ?_, ?_, ?_⟩ <;> (rw [cell_of_row w 1 _ _ t0 fr hg]; rfl)
theorem LaidW.pos {w : World} (h : LaidW w) : 1 < w.heap.size := by
  obtain ⟨t0, fr, hg⟩ := h.block
  rcases Nat.lt_or_ge 1 w.heap.size with h | h
  · exact h
  · rw [Array.getElem?_eq_none h] at hg; cases hg

theorem unit_at0 (w : World) : (Instr.index 118 (.agg #[.string ⟨#[112, 115]⟩, .int .i64 1, .string ⟨#[110, 115]⟩, .int .i64 1000, .string ⟨#[117, 115]⟩, .int .i64 1000000, .string ⟨#[109, 115]⟩, .int .i64 1000000000, .string ⟨#[115]⟩, .int .i64 1000000000000]) (.int .i64 0)).run Tryz.prog w = .ok (.agg #[.string ⟨#[112, 115]⟩, .int .i64 1]) w := by kernel_rfl
theorem unit_at1 (w : World) : (Instr.index 118 (.agg #[.string ⟨#[112, 115]⟩, .int .i64 1, .string ⟨#[110, 115]⟩, .int .i64 1000, .string ⟨#[117, 115]⟩, .int .i64 1000000, .string ⟨#[109, 115]⟩, .int .i64 1000000000, .string ⟨#[115]⟩, .int .i64 1000000000000]) (.int .i64 1)).run Tryz.prog w = .ok (.agg #[.string ⟨#[110, 115]⟩, .int .i64 1000]) w := by kernel_rfl
theorem unit_at2 (w : World) : (Instr.index 118 (.agg #[.string ⟨#[112, 115]⟩, .int .i64 1, .string ⟨#[110, 115]⟩, .int .i64 1000, .string ⟨#[117, 115]⟩, .int .i64 1000000, .string ⟨#[109, 115]⟩, .int .i64 1000000000, .string ⟨#[115]⟩, .int .i64 1000000000000]) (.int .i64 2)).run Tryz.prog w = .ok (.agg #[.string ⟨#[117, 115]⟩, .int .i64 1000000]) w := by kernel_rfl
theorem unit_at3 (w : World) : (Instr.index 118 (.agg #[.string ⟨#[112, 115]⟩, .int .i64 1, .string ⟨#[110, 115]⟩, .int .i64 1000, .string ⟨#[117, 115]⟩, .int .i64 1000000, .string ⟨#[109, 115]⟩, .int .i64 1000000000, .string ⟨#[115]⟩, .int .i64 1000000000000]) (.int .i64 3)).run Tryz.prog w = .ok (.agg #[.string ⟨#[109, 115]⟩, .int .i64 1000000000]) w := by kernel_rfl
theorem unit_at4 (w : World) : (Instr.index 118 (.agg #[.string ⟨#[112, 115]⟩, .int .i64 1, .string ⟨#[110, 115]⟩, .int .i64 1000, .string ⟨#[117, 115]⟩, .int .i64 1000000, .string ⟨#[109, 115]⟩, .int .i64 1000000000, .string ⟨#[115]⟩, .int .i64 1000000000000]) (.int .i64 4)).run Tryz.prog w = .ok (.agg #[.string ⟨#[115]⟩, .int .i64 1000000000000]) w := by kernel_rfl

end Go.Proofs.YtinjhnflnfpoeaaGreatDoor
