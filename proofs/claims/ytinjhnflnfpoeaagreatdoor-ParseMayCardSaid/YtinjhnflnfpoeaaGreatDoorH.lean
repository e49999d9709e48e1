/-
  Contracts of pico.number (digits that tell no more than the greatest time) and pico.Unit (the five units, and m), and that what strconv writes of a number are digits that tell it; Unit under: the tables hold what the program lays (LaidW).
-/
import Derived.Test.YtinjhnflnfpoeaaGreatDoorE
namespace Go.Proofs.YtinjhnflnfpoeaaGreatDoor
open Go Go.RowKit Go.Joins

/-- what digits tell -/
def decVal (l : List UInt8) : Nat := l.foldl (fun n c => 10 * n + (c.toNat - 48)) 0
def isDigits (l : List UInt8) : Prop := ∀ c ∈ l, 48 ≤ c.toNat ∧ c.toNat ≤ 57

theorem decVal_snoc (l : List UInt8) (c : UInt8) : decVal (l ++ [c]) = 10 * decVal l + (c.toNat - 48) := by
  simp [decVal, List.foldl_append]
theorem decVal_take_le (l : List UInt8) (k : Nat) : decVal (l.take k) ≤ decVal l := by
  have key : ∀ (r l : List UInt8), decVal l ≤ decVal (l ++ r) := by
    intro r
    induction r with
    | nil => intro l; simp
    | cons c r ih =>
      intro l
      have h := ih (l ++ [c])
      rw [List.append_assoc, List.singleton_append] at h
      have := decVal_snoc l c
      omega
  have := key (l.drop k) (l.take k)
  rwa [List.take_append_drop] at this

theorem take_snoc (s : ByteArray) (k : Nat) (h : k < s.size) : s.data.toList.take (k + 1) = s.data.toList.take k ++ [s[k]] := by
  rw [List.take_succ_eq_append_getElem (by simpa using h)]; rfl

set_option maxHeartbeats 400000 in
theorem number_any (s : ByteArray) (w : World) (hd : isDigits s.data.toList) (hv : decVal s.data.toList ≤ 1152921504606846976) (hs : s.size ≤ 9223372036854775807) :
    Calls Tryz.prog 90 #[.string s] w fun e w' => e = .returned (.int .i64 (decVal s.data.toList)) ∧ w = w' := by
  have HD := hid hd
  have HV := hid hv
  clear hd hv
  go_enter Tryz.func90, Tryz.ntmps90
  go_wp2
  go_loop [3, 7] (fun n i => ∃ k : Nat, k ≤ s.size ∧ i = .int .i64 k ∧ n = .int .i64 (decVal (s.data.toList.take k) : Nat)) (fun _ i => s.size - (intOf i).toNat)
  case atStart => exact ⟨0, Nat.zero_le _, rfl, rfl⟩
  case round =>
    obtain ⟨k, hk, rfl, rfl⟩ := hrel
    by_cases hlt : k < s.size
    · have h1 := decVal_snoc (s.data.toList.take k) s[k]
      rw [← take_snoc s k hlt] at h1
      have h2 := decVal_take_le s.data.toList (k + 1)
      have h3 := HD.out s[k] (by show s.data[k]'hlt ∈ s.data.toList; simp)
      have h4 := HV.out
      have b1 : decVal (s.data.toList.take k) ≤ 115292150460684697 := by omega
      have H1 := hid h1
      obtain ⟨c1, c2⟩ := h3
      clear h1 h2 h4
      generalize hm : decVal (s.data.toList.take k) = m at *
      generalize hm' : decVal (s.data.toList.take (k + 1)) = m' at *
      have HM := hid hm'
      clear hm hm'
      go_wp2
      exact ⟨⟨k + 1, by omega, by go_num, by rw [HM.out, H1.out]; go_num⟩, by simp [intOf]; omega⟩
    · have hkk : k = s.size := by omega
      have HL : Hid (s.data.toList.take k = s.data.toList) := hid (List.take_of_length_le (by rw [hkk]; exact Nat.le_refl _))
      clear hkk
      go_wp2
      go_ret
      exact ⟨ret_int (by rw [HL.out]), rfl⟩

/-! what itoa writes are digits that tell the number -/
theorem digits_dec (u : Nat) : isDigits (Lib.decDigits u) ∧ decVal (Lib.decDigits u) = u ∧ Lib.decDigits u ≠ [] := by
  induction u using Nat.strongRecOn with
  | ind u ih =>
    unfold Lib.decDigits
    split
    · rename_i h
      refine ⟨?_, ?_, by simp⟩
      · intro c hc
        simp only [List.mem_singleton] at hc
        subst hc
        have : (UInt8.ofNat (48 + u)).toNat = 48 + u := by rw [UInt8.toNat_ofNat']; omega
        omega
      · have : (UInt8.ofNat (48 + u)).toNat = 48 + u := by rw [UInt8.toNat_ofNat']; omega
        simp only [decVal, List.foldl_cons, List.foldl_nil]
        omega
    · rename_i h
      obtain ⟨h1, h2, h3⟩ := ih (u / 10) (by omega)
      have e : (UInt8.ofNat (48 + u % 10)).toNat = 48 + u % 10 := by rw [UInt8.toNat_ofNat']; omega
      refine ⟨?_, ?_, by simp⟩
      · intro c hc
        rcases List.mem_append.1 hc with hc | hc
        · exact h1 c hc
        · simp only [List.mem_singleton] at hc
          subst hc
          omega
      · rw [decVal_snoc, h2, e]
        omega

/-! pico.Unit -/
set_option maxRecDepth 100000 in
theorem unit_0 (w : World) (hL : LaidW w) : Calls Tryz.prog 68 #[.string ⟨#[112, 115]⟩] w fun e w' => e = .returned (.tuple #[.int .i64 1, .bool true]) ∧ Below w.heap.size w w' := by
  obtain ⟨c0, c1, c2, c3, c4, c5, c6, c7, c8, c9⟩ := hL.cells
  have hsz := hL.pos
  have hsz0 : 0 < w.heap.size := Nat.lt_of_le_of_lt (Nat.zero_le _) hsz
  clear hL
  have i0 := unit_at0
  have i1 := unit_at1
  have i2 := unit_at2
  have i3 := unit_at3
  have i4 := unit_at4
  go_enter Tryz.func68, Tryz.ntmps68
  go_wp2
  refine wp_loop_rounds 6 ?_
  rw [rounds_succ]
  go_wp2
  go_ret2
  exact ⟨rfl, (Below.refl _ _).alloc (Nat.le_refl _) _⟩

set_option maxRecDepth 100000 in
theorem unit_1 (w : World) (hL : LaidW w) : Calls Tryz.prog 68 #[.string ⟨#[110, 115]⟩] w fun e w' => e = .returned (.tuple #[.int .i64 1000, .bool true]) ∧ Below w.heap.size w w' := by
  obtain ⟨c0, c1, c2, c3, c4, c5, c6, c7, c8, c9⟩ := hL.cells
  have hsz := hL.pos
  have hsz0 : 0 < w.heap.size := Nat.lt_of_le_of_lt (Nat.zero_le _) hsz
  clear hL
  have i0 := unit_at0
  have i1 := unit_at1
  have i2 := unit_at2
  have i3 := unit_at3
  have i4 := unit_at4
  go_enter Tryz.func68, Tryz.ntmps68
  go_wp2
  refine wp_loop_rounds 6 ?_
  rw [rounds_succ]
  go_wp2
  rw [rounds_succ]
  go_wp2
  go_ret2
  exact ⟨rfl, ((Below.refl _ _).alloc (Nat.le_refl _) _).alloc (by simp) _⟩

set_option maxRecDepth 100000 in
theorem unit_2 (w : World) (hL : LaidW w) : Calls Tryz.prog 68 #[.string ⟨#[117, 115]⟩] w fun e w' => e = .returned (.tuple #[.int .i64 1000000, .bool true]) ∧ Below w.heap.size w w' := by
  obtain ⟨c0, c1, c2, c3, c4, c5, c6, c7, c8, c9⟩ := hL.cells
  have hsz := hL.pos
  have hsz0 : 0 < w.heap.size := Nat.lt_of_le_of_lt (Nat.zero_le _) hsz
  clear hL
  have i0 := unit_at0
  have i1 := unit_at1
  have i2 := unit_at2
  have i3 := unit_at3
  have i4 := unit_at4
  go_enter Tryz.func68, Tryz.ntmps68
  go_wp2
  refine wp_loop_rounds 6 ?_
  rw [rounds_succ]
  go_wp2
  rw [rounds_succ]
  go_wp2
  rw [rounds_succ]
  go_wp2
  go_ret2
  exact ⟨rfl, (((Below.refl _ _).alloc (Nat.le_refl _) _).alloc (by simp) _).alloc (by simp; omega) _⟩

set_option maxRecDepth 100000 in
theorem unit_3 (w : World) (hL : LaidW w) : Calls Tryz.prog 68 #[.string ⟨#[109, 115]⟩] w fun e w' => e = .returned (.tuple #[.int .i64 1000000000, .bool true]) ∧ Below w.heap.size w w' := by
  obtain ⟨c0, c1, c2, c3, c4, c5, c6, c7, c8, c9⟩ := hL.cells
  have hsz := hL.pos
  have hsz0 : 0 < w.heap.size := Nat.lt_of_le_of_lt (Nat.zero_le _) hsz
  clear hL
  have i0 := unit_at0
  have i1 := unit_at1
  have i2 := unit_at2
  have i3 := unit_at3
  have i4 := unit_at4
  go_enter Tryz.func68, Tryz.ntmps68
  go_wp2
  refine wp_loop_rounds 6 ?_
  rw [rounds_succ]
  go_wp2
  rw [rounds_succ]
  go_wp2
  rw [rounds_succ]
  go_wp2
  rw [rounds_succ]
  go_wp2
  go_ret2
  exact ⟨rfl, ((((Below.refl _ _).alloc (Nat.le_refl _) _).alloc (by simp) _).alloc (by simp; omega) _).alloc (by simp; omega) _⟩

set_option maxRecDepth 100000 in
theorem unit_4 (w : World) (hL : LaidW w) : Calls Tryz.prog 68 #[.string ⟨#[115]⟩] w fun e w' => e = .returned (.tuple #[.int .i64 1000000000000, .bool true]) ∧ Below w.heap.size w w' := by
  obtain ⟨c0, c1, c2, c3, c4, c5, c6, c7, c8, c9⟩ := hL.cells
  have hsz := hL.pos
  have hsz0 : 0 < w.heap.size := Nat.lt_of_le_of_lt (Nat.zero_le _) hsz
  clear hL
  have i0 := unit_at0
  have i1 := unit_at1
  have i2 := unit_at2
  have i3 := unit_at3
  have i4 := unit_at4
  go_enter Tryz.func68, Tryz.ntmps68
  go_wp2
  refine wp_loop_rounds 6 ?_
  rw [rounds_succ]
  go_wp2
  rw [rounds_succ]
  go_wp2
  rw [rounds_succ]
  go_wp2
  rw [rounds_succ]
  go_wp2
  rw [rounds_succ]
  go_wp2
  go_ret2
  exact ⟨rfl, (((((Below.refl _ _).alloc (Nat.le_refl _) _).alloc (by simp) _).alloc (by simp; omega) _).alloc (by simp; omega) _).alloc (by simp; omega) _⟩

set_option maxRecDepth 100000 in
theorem unit_m (w : World) (hL : LaidW w) : Calls Tryz.prog 68 #[.string ⟨#[109]⟩] w fun e w' => e = .returned (.tuple #[.int .i64 0, .bool false]) ∧ Below w.heap.size w w' := by
  obtain ⟨c0, c1, c2, c3, c4, c5, c6, c7, c8, c9⟩ := hL.cells
  have hsz := hL.pos
  have hsz0 : 0 < w.heap.size := Nat.lt_of_le_of_lt (Nat.zero_le _) hsz
  clear hL
  have i0 := unit_at0
  have i1 := unit_at1
  have i2 := unit_at2
  have i3 := unit_at3
  have i4 := unit_at4
  go_enter Tryz.func68, Tryz.ntmps68
  go_wp2
  refine wp_loop_rounds 6 ?_
  rw [rounds_succ]
  go_wp2
  rw [rounds_succ]
  go_wp2
  rw [rounds_succ]
  go_wp2
  rw [rounds_succ]
  go_wp2
  rw [rounds_succ]
  go_wp2
  rw [rounds_succ]
  go_wp2
  go_ret2
  exact ⟨rfl, (((((Below.refl _ _).alloc (Nat.le_refl _) _).alloc (by simp) _).alloc (by simp; omega) _).alloc (by simp; omega) _).alloc (by simp; omega) _⟩


end Go.Proofs.YtinjhnflnfpoeaaGreatDoor
