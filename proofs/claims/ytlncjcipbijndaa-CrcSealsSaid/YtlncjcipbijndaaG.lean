/-
  The chapter's examples (live), as each statement asks them.
-/
import Derived.Test.YtlncjcipbijndaaF
import Derived.Lib.SlBytesConst
namespace Go.Proofs.Ytlncjcipbijndaa
open Go Go.RowKit

def LiveP (w : World) (e : Ending) (w' : World) : Prop := e = .returned (.bool true) ∧ Below w.heap.size w w'

def nine : List Nat := [49, 50, 51, 52, 53, 54, 55, 56, 57]
theorem nine24 : sum24 nine = 2215682 := by decide +kernel
theorem nine32 : sum32 nine = 3421780262 := by decide +kernel
theorem nine_oct : Oct nine := by intro x hx; simp [nine] at hx; omega

set_option maxHeartbeats 400000 in
theorem live_any (w : World) : Calls Try.prog 8 #[] w (LiveP w) := by
  have hcv := Lib.run_convert_bytes_const (P := Try.prog) w 22 5 #[Value.int IntKind.u8 49, Value.int IntKind.u8 50, Value.int IntKind.u8 51, Value.int IntKind.u8 52, Value.int IntKind.u8 53, Value.int IntKind.u8 54, Value.int IntKind.u8 55, Value.int IntKind.u8 56, Value.int IntKind.u8 57] 9 9 Try.underlying22 Try.underlying5
  have hz : (w.alloc (Obj.cells #[Value.int IntKind.u8 49, Value.int IntKind.u8 50, Value.int IntKind.u8 51, Value.int IntKind.u8 52, Value.int IntKind.u8 53, Value.int IntKind.u8 54, Value.int IntKind.u8 55, Value.int IntKind.u8 56, Value.int IntKind.u8 57] 5 (9, 10))).heap.size = w.heap.size + 1 := by simp
  have HB0 : Hid (Below w.heap.size w (w.alloc (Obj.cells #[Value.int IntKind.u8 49, Value.int IntKind.u8 50, Value.int IntKind.u8 51, Value.int IntKind.u8 52, Value.int IntKind.u8 53, Value.int IntKind.u8 54, Value.int IntKind.u8 55, Value.int IntKind.u8 56, Value.int IntKind.u8 57] 5 (9, 10)))) := hid ((Below.refl _ w).alloc (Nat.le_refl _) _)
  have HR0 : Hid (Row (w.alloc (Obj.cells #[Value.int IntKind.u8 49, Value.int IntKind.u8 50, Value.int IntKind.u8 51, Value.int IntKind.u8 52, Value.int IntKind.u8 53, Value.int IntKind.u8 54, Value.int IntKind.u8 55, Value.int IntKind.u8 56, Value.int IntKind.u8 57] 5 (9, 10))) (w.heap.size + 1) (some ⟨w.heap.size, 0, none⟩) 9 (bv nine)) := hid ⟨rfl, fun _ => ⟨w.heap.size, 0, rfl, by omega, fun j u hu => by
    rw [cell_of_row _ w.heap.size (0 + j) _ 5 (9, 10) (heap_alloc_new w _), ← hu, Nat.zero_add]; exact List.getElem?_toArray (xs := bv nine)⟩⟩
  generalize w.alloc (Obj.cells #[Value.int IntKind.u8 49, Value.int IntKind.u8 50, Value.int IntKind.u8 51, Value.int IntKind.u8 52, Value.int IntKind.u8 53, Value.int IntKind.u8 54, Value.int IntKind.u8 55, Value.int IntKind.u8 56, Value.int IntKind.u8 57] 5 (9, 10)) = W at *
  go_enter Try.func8, Try.ntmps8
  go_wp2_with fail
  refine (seal24_ok none 0 0 0 [] W (Row.nil _ _ _) (Nat.zero_le _) Oct.nil (by omega)).mono ?_
  rintro e w1 ⟨A1, n1, c1, rfl, own1, bel1⟩
  have hn1 : n1 = 3 := by rw [← own1.len, bv_len]; rfl
  subst hn1
  have HR1 : Hid (Row w1 (w.heap.size + 1) (some ⟨w.heap.size, 0, none⟩) 9 (bv nine)) := hid (HR0.out.below (bel1.mono (by omega)))
  have HB1 : Hid (Below w.heap.size w w1) := hid (HB0.out.trans (bel1.mono (by omega)))
  have h1 : w.heap.size + 1 ≤ w1.heap.size := by have := bel1.size; omega
  clear own1 bel1 HR0 HB0 hz hcv
  go_wp2_with fail
  refine (sum24_any _ 9 9 (w.heap.size + 1) nine w1 HR1.out h1 nine_oct (by omega)).mono ?_
  rintro e w2 ⟨rfl, bel2⟩
  rw [nine24]
  have HR2 : Hid (Row w2 (w.heap.size + 1) (some ⟨w.heap.size, 0, none⟩) 9 (bv nine)) := hid (HR1.out.below (bel2.mono h1))
  have HB2 : Hid (Below w.heap.size w w2) := hid (HB1.out.trans (bel2.mono (by omega)))
  have h2 : w.heap.size + 1 ≤ w2.heap.size := by have := bel2.size; omega
  clear bel2 HR1 HB1 h1
  go_wp2_with fail
  refine (sum32_any _ 9 9 (w.heap.size + 1) nine w2 HR2.out h2 nine_oct (by omega)).mono ?_
  rintro e w3 ⟨rfl, bel3⟩
  rw [nine32]
  have HB3 : Hid (Below w.heap.size w w3) := hid (HB2.out.trans (bel3.mono (by omega)))
  clear bel3 HR2 HB2 h2
  go_wp2_with fail
  go_ret
  exact ⟨rfl, HB3.out⟩
end Go.Proofs.Ytlncjcipbijndaa
