/-
  Contracts of lex.isSign, lex.isBroken, strings.Clone and pico.Unit, at every text (strings.Clone's of at most 2^48 bytes; pico.Unit's under: the tables hold what the program lays).
-/
import Derived.Test.YtinjhnflnfpoeaaGreatDoorLB
import Derived.Test.YtinjhnflnfpoeaaGreatDoorI
namespace Go.Proofs.YtinjhnflnfpoeaaGreatDoor
open Go Go.RowKit Go.Joins

theorem clone_any (s : ByteArray) (w : World) (hs : s.size ≤ 281474976710656) : Calls Tryz.prog 47 #[.string s] w fun e w' => e = .returned (.string s) ∧ Below w.heap.size w w' := by
  go_enter Tryz.func47, Tryz.ntmps47
  go_wp2_with (first | (go_at_call 61; refine (Tryz.stringslite_Clone s _ hs).mono ?_; rintro e w' ⟨rfl, hb⟩))
  go_ret
  exact ⟨rfl, hb⟩

theorem index_byte (c : UInt8) : decide (0 ≤ Lib.indexByte ([59, 123, 125] : List UInt8) c) = sgB c := by
  have key : ∀ n : Fin 256, decide (0 ≤ Lib.indexByte ([59, 123, 125] : List UInt8) (UInt8.ofNat n.val)) = sgB (UInt8.ofNat n.val) := by decide +kernel
  have := key ⟨c.toNat, c.toNat_lt⟩
  simpa using this

def signL (l : List UInt8) : Bool := match l with
  | [c] => sgB c
  | _ => false
theorem sign_any (s : ByteArray) (w : World) : Calls Tryz.prog 52 #[.string s] w fun e w' => e = .returned (.bool (signL s.data.toList)) ∧ w' = w := by
  by_cases h1 : s.size = 1
  · obtain ⟨c, rfl⟩ : ∃ c, s = ⟨#[c]⟩ := by
      have hl : s.data.toList.length = 1 := h1
      match hm : s.data.toList, hl with
      | [c], _ => exact ⟨c, by apply ByteArray.ext; apply Array.ext'; rw [hm]⟩
    have hc := Tryz.strings_Contains_one ⟨#[59, 123, 125]⟩ c
    have e : ∀ b, decide (0 ≤ Lib.indexByte (⟨#[59, 123, 125]⟩ : ByteArray).data.toList c) = b → signL (⟨#[c]⟩ : ByteArray).data.toList = b := fun b hb => by rw [← hb]; exact (index_byte c).symm
    generalize decide (0 ≤ Lib.indexByte (⟨#[59, 123, 125]⟩ : ByteArray).data.toList c) = b at *
    have HE := hid (e b rfl)
    have HC := hid hc
    clear e hc h1
    go_enter Tryz.func52, Tryz.ntmps52
    go_wp2_with (first | (go_at_call 65; refine (HC.out _).mono ?_; rintro e w' ⟨rfl, rfl⟩))
    go_ret
    exact ⟨ret_bool (by rw [HE.out]), rfl⟩
  · have hb : ((s.size : Int) == 1) = false := beq_eq_false_iff_ne.2 (by omega)
    have HE : Hid (signL s.data.toList = false) := hid (by
      have hl : s.data.toList.length ≠ 1 := h1
      match hm : s.data.toList with
      | [] => rfl
      | [c] => rw [hm] at hl; exact absurd rfl hl
      | _ :: _ :: _ => rfl)
    go_enter Tryz.func52, Tryz.ntmps52
    go_wp2
    go_ret
    exact ⟨ret_bool (by rw [HE.out]), rfl⟩

theorem broken_any (s : ByteArray) (w : World) (x : Nat) (hx : (dec s.data.toList).1 = x) : Calls Tryz.prog 35 #[.string s, .int .i32 x] w fun e w' => e = .returned (.bool (brok s.data.toList)) ∧ w' = w := by
  have hc := Tryz.strings_HasPrefix s ⟨#[239, 191, 189]⟩
  have e : brok s.data.toList = ((dec s.data.toList).1 == 65533 && !Lib.hasPrefix s.data.toList (⟨#[239, 191, 189]⟩ : ByteArray).data.toList) := rfl
  rw [hx] at e
  generalize Lib.hasPrefix s.data.toList (⟨#[239, 191, 189]⟩ : ByteArray).data.toList = b at *
  have HE := hid e
  have HC := hid hc
  clear e hc hx
  by_cases h : x = 65533
  · subst h
    go_enter Tryz.func35, Tryz.ntmps35
    go_wp2_with (first | (go_at_call 51; refine (HC.out _).mono ?_; rintro e w' ⟨rfl, rfl⟩))
    go_ret
    exact ⟨ret_bool (by rw [HE.out]; simp), rfl⟩
  · have hb : ((x : Int) == 65533) = false := beq_eq_false_iff_ne.2 (by omega)
    have hb2 : (x == 65533) = false := beq_eq_false_iff_ne.2 h
    rw [hb2] at HE
    go_enter Tryz.func35, Tryz.ntmps35
    go_wp2
    go_ret
    exact ⟨ret_bool (by rw [HE.out]; simp), rfl⟩

theorem unit_is {s : ByteArray} {ps : Int} (h : unitF s.data.toList = some ps) : UnitIs s ps := by
  have ext : ∀ a : ByteArray, s.data.toList = a.data.toList → s = a := fun a h => by apply ByteArray.ext; exact Array.ext' h
  have h : (if s.data.toList = [112, 115] then some 1 else if s.data.toList = [110, 115] then some 1000 else if s.data.toList = [117, 115] then some 1000000 else if s.data.toList = [109, 115] then some 1000000000 else if s.data.toList = [115] then some 1000000000000 else none) = some ps := h
  by_cases h1 : s.data.toList = [112, 115]
  · rw [if_pos h1] at h; cases h; exact .inl ⟨ext ⟨#[112, 115]⟩ h1, rfl⟩
  rw [if_neg h1] at h
  by_cases h2 : s.data.toList = [110, 115]
  · rw [if_pos h2] at h; cases h; exact .inr (.inl ⟨ext ⟨#[110, 115]⟩ h2, rfl⟩)
  rw [if_neg h2] at h
  by_cases h3 : s.data.toList = [117, 115]
  · rw [if_pos h3] at h; cases h; exact .inr (.inr (.inl ⟨ext ⟨#[117, 115]⟩ h3, rfl⟩))
  rw [if_neg h3] at h
  by_cases h4 : s.data.toList = [109, 115]
  · rw [if_pos h4] at h; cases h; exact .inr (.inr (.inr (.inl ⟨ext ⟨#[109, 115]⟩ h4, rfl⟩)))
  rw [if_neg h4] at h
  by_cases h5 : s.data.toList = [115]
  · rw [if_pos h5] at h; cases h; exact .inr (.inr (.inr (.inr ⟨ext ⟨#[115]⟩ h5, rfl⟩)))
  rw [if_neg h5] at h
  cases h
theorem unit_not {s : ByteArray} (h : unitF s.data.toList = none) : s.data.toList ≠ [112, 115] ∧ s.data.toList ≠ [110, 115] ∧ s.data.toList ≠ [117, 115] ∧ s.data.toList ≠ [109, 115] ∧ s.data.toList ≠ [115] := by
  have h : (if s.data.toList = [112, 115] then some 1 else if s.data.toList = [110, 115] then some 1000 else if s.data.toList = [117, 115] then some 1000000 else if s.data.toList = [109, 115] then some 1000000000 else if s.data.toList = [115] then some 1000000000000 else none) = (none : Option Int) := h
  refine ⟨fun e => ?_, fun e => ?_, fun e => ?_, fun e => ?_, fun e => ?_⟩ <;> (rw [e] at h; cases h)

set_option maxRecDepth 100000 in
theorem unit_none (s : ByteArray) (w : World) (hL : LaidW w) (h : unitF s.data.toList = none) : Calls Tryz.prog 68 #[.string s] w fun e w' => e = .returned (.tuple #[.int .i64 0, .bool false]) ∧ Below w.heap.size w w' := by
  obtain ⟨h1, h2, h3, h4, h5⟩ := unit_not h
  have k1 : (([112, 115] : List UInt8) == s.toList) = false := beq_eq_false_iff_ne.2 (by rw [ByteArray.toList_eq]; exact h1.symm)
  have k2 : (([110, 115] : List UInt8) == s.toList) = false := beq_eq_false_iff_ne.2 (by rw [ByteArray.toList_eq]; exact h2.symm)
  have k3 : (([117, 115] : List UInt8) == s.toList) = false := beq_eq_false_iff_ne.2 (by rw [ByteArray.toList_eq]; exact h3.symm)
  have k4 : (([109, 115] : List UInt8) == s.toList) = false := beq_eq_false_iff_ne.2 (by rw [ByteArray.toList_eq]; exact h4.symm)
  have k5 : (([115] : List UInt8) == s.toList) = false := beq_eq_false_iff_ne.2 (by rw [ByteArray.toList_eq]; exact h5.symm)
  clear h h1 h2 h3 h4 h5
  obtain ⟨c0, c1, c2, c3, c4, c5, c6, c7, c8, c9⟩ := hL.cells
  have hsz := hL.pos
  have hsz0 : 0 < w.heap.size := Nat.lt_of_le_of_lt (Nat.zero_le _) hsz
  clear hL
  have i0 := unit_at0
  have i1 := unit_at1
  have i2 := unit_at2
  have i3 := unit_at3
  have i4 := unit_at4
  go_enter Tryz.func68, Tryz.ntmps68
  go_wp2
  refine wp_loop_rounds 6 ?_
  rw [rounds_succ]
  go_wp2
  rw [rounds_succ]
  go_wp2
  rw [rounds_succ]
  go_wp2
  rw [rounds_succ]
  go_wp2
  rw [rounds_succ]
  go_wp2
  rw [rounds_succ]
  go_wp2
  go_ret2
  exact ⟨rfl, (((((Below.refl _ _).alloc (Nat.le_refl _) _).alloc (by simp) _).alloc (by simp; omega) _).alloc (by simp; omega) _).alloc (by simp; omega) _⟩
end Go.Proofs.YtinjhnflnfpoeaaGreatDoor
