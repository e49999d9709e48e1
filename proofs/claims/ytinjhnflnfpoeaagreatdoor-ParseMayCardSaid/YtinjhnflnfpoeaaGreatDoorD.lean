/-
  Contracts of pico.Text (every number) and of the law functions' live: the text of a time is its number of the greatest unit and that unit; under: the tables hold what the program lays (LaidW).
-/
import Derived.Test.YtinjhnflnfpoeaaGreatDoorC
import Derived.Lib.QuietBelow
import Derived.IntWalk
import Derived.Lib.AppendIntMem
import Derived.Shelf.Strconv.Itoa4
namespace Go.Proofs.YtinjhnflnfpoeaaGreatDoor
open Go Go.RowKit Go.Joins

theorem tdiv_range (t ps : Int) (h1 : -1152921504606846976 ≤ t) (h2 : t ≤ 1152921504606846976) : -1152921504606846976 ≤ t.tdiv ps ∧ t.tdiv ps ≤ 1152921504606846976 := by
  have h := Int.natAbs_tdiv t ps
  have h' : t.natAbs / ps.natAbs ≤ t.natAbs := Nat.div_le_self _ _
  have h3 : (t.tdiv ps).natAbs ≤ t.natAbs := by rw [h]; exact h'
  omega

theorem decDigits_le (u : Nat) : (Lib.decDigits u).length ≤ u + 1 := by
  induction u using Nat.strongRecOn with
  | ind u ih =>
    unfold Lib.decDigits
    split
    · simp
    · have := ih (u / 10) (by omega)
      simp only [List.length_append, List.length_cons, List.length_nil]
      omega
theorem itoa_le (n : Int) : (Lib.itoa n).length ≤ n.natAbs + 2 := by
  unfold Lib.itoa
  split
  · have := decDigits_le n.natAbs
    simp only [List.length_cons]; omega
  · have := decDigits_le n.toNat
    omega

/-- the five units -/
def UnitIs (nm : ByteArray) (ps : Int) : Prop :=
  (nm = ⟨#[112, 115]⟩ ∧ ps = 1) ∨ (nm = ⟨#[110, 115]⟩ ∧ ps = 1000) ∨ (nm = ⟨#[117, 115]⟩ ∧ ps = 1000000) ∨ (nm = ⟨#[109, 115]⟩ ∧ ps = 1000000000) ∨ (nm = ⟨#[115]⟩ ∧ ps = 1000000000000)

theorem tm (t : Int) (p : Int) (h : t.tmod p = 0) : (t.tmod p == 0) = true := by simp [h]
theorem tmn (t : Int) (p : Int) (h : ¬ t.tmod p = 0) : (t.tmod p == 0) = false := by simp [h]
theorem tmod_dvd {t p : Int} (h : t.tmod p = 0) : p ∣ t := Int.dvd_of_tmod_eq_zero h
theorem dvd_tmod {t p : Int} (h : p ∣ t) : t.tmod p = 0 := Int.tmod_eq_zero_of_dvd h

theorem unit_size {nm : ByteArray} {ps : Int} (h : UnitIs nm ps) : 0 < ps ∧ nm.size ≤ 2 := by
  rcases h with ⟨rfl, rfl⟩ | ⟨rfl, rfl⟩ | ⟨rfl, rfl⟩ | ⟨rfl, rfl⟩ | ⟨rfl, rfl⟩ <;> decide

theorem div_low (p d : Nat) (h : p < 18446744073709551616) (hd : 1 ≤ d) (hd2 : d < 18446744073709551616) : DivSaid p d := fun w => by
  have e1 : p / 18446744073709551616 = 0 := Nat.div_eq_of_lt h
  have e2 : p % 18446744073709551616 = p := Nat.mod_eq_of_lt h
  rw [e1, e2]
  exact div64_low p d w h hd hd2

end Go.Proofs.YtinjhnflnfpoeaaGreatDoor
