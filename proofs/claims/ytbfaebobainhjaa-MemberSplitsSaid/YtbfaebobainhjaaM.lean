/-
  Contracts of frame's Has, With, Without, Count and of the document's own.
-/
import Derived.Test.YtbfaebobainhjaaV
import Derived.Test.YtbfaebobainhjaaMP
import Derived.Deep.RegionHeld3
import Derived.BigQuiet
import Derived.Deep.QuietTactic
import Derived.Deep.DeepCutAuto
import Derived.Lib.QuietBelow
namespace Go.Proofs.Ytbfaebobainhjaa
open Go Go.RowKit

/-- No node. -/
def Out (q : Int) : Prop := q < 0 ∨ 15 < q
theorem isNode_in (k : Nat) (w : World) (hk : k ≤ 15) : Calls Try.prog 40 #[.int .i64 (k : Int)] w fun e w' => e = .returned (.bool true) ∧ w = w' := by
  go_enter Try.func40, Try.ntmps40
  go_wp2
  go_ret
  exact ⟨ret_bool (by simp; omega), rfl⟩
theorem isNode_out (q : Int) (w : World) (hq : Out q) : Calls Try.prog 40 #[.int .i64 q] w fun e w' => e = .returned (.bool false) ∧ w = w' := by
  unfold Out at hq
  by_cases h : 0 ≤ q
  · have hq2 : 15 < q := by omega
    clear hq
    go_enter Try.func40, Try.ntmps40
    go_wp2
    go_ret
    exact ⟨ret_bool (by simp; omega), rfl⟩
  · clear hq
    go_enter Try.func40, Try.ntmps40
    go_wp2
    go_ret
    exact ⟨ret_bool (by simp), rfl⟩
theorem wrap_pow (k : Nat) (hk : k ≤ 15) : IntKind.u16.wrap ((2 : Int) ^ k) = ((2 ^ k : Nat) : Int) := by
  have hp := pow15 k hk
  have e : (2 : Int) ^ k = ((2 ^ k : Nat) : Int) := by norm_cast
  rw [IntKind.wrap_u16, e]
  generalize 2 ^ k = p at hp
  omega
theorem bit_in (k : Nat) (w : World) (hk : k ≤ 15) : Calls Try.prog 39 #[.int .i64 (k : Int)] w fun e w' => e = .returned (.int .u16 ((2 ^ k : Nat) : Int)) ∧ w = w' := by
  have hp := pow15 k hk
  have HP := hid (wrap_pow k hk)
  have HK := hid hk
  go_enter Try.func39, Try.ntmps39
  go_wp2_with (go_at_call 40; refine (isNode_in k _ HK.out).mono ?_; rintro e w' ⟨rfl, rfl⟩)
  go_ret
  exact ⟨ret_int HP.out, rfl⟩
theorem bit_out (q : Int) (w : World) (hq : Out q) : Calls Try.prog 39 #[.int .i64 q] w fun e w' => e = .returned (.int .u16 0) ∧ w = w' := by
  have HK := hid hq
  clear hq
  go_enter Try.func39, Try.ntmps39
  go_wp2_with (go_at_call 40; refine (isNode_out q _ HK.out).mono ?_; rintro e w' ⟨rfl, rfl⟩)
  go_ret
  exact ⟨rfl, rfl⟩
theorem ne_of_hs (m k : Nat) : (((m &&& 2 ^ k : Nat) : Int) != 0) = hs m k := by
  have hp := Nat.two_pow_pos k
  rw [and_pow]
  cases h : hs m k
  · rfl
  · rw [if_pos rfl, bne_iff_ne]; omega
theorem has_in (m k : Nat) (w : World) (hm : m < 65536) (hk : k ≤ 15) : Calls Try.prog 22 #[.int .u16 (m : Int), .int .i64 (k : Int)] w fun e w' => e = .returned (.bool (hs m k)) ∧ w = w' := by
  have hp := pow15 k hk
  have hb := u16_and_nat m (2 ^ k) hm (by omega)
  have HR := hid (ne_of_hs m k)
  have HBT := hid (fun w => bit_in k w hk)
  generalize m &&& 2 ^ k = y at hb HR
  generalize 2 ^ k = p at *
  go_enter Try.func22, Try.ntmps22
  go_wp2_with (go_at_call 39; refine (HBT.out _).mono ?_; rintro e w' ⟨rfl, rfl⟩)
  go_ret
  exact ⟨ret_bool HR.out, rfl⟩
theorem has_out (m : Nat) (q : Int) (w : World) (hm : m < 65536) (hq : Out q) : Calls Try.prog 22 #[.int .u16 (m : Int), .int .i64 q] w fun e w' => e = .returned (.bool false) ∧ w = w' := by
  have hb := u16_and_nat m 0 hm (by omega)
  rw [Nat.and_zero] at hb
  have HBT := hid (fun w => bit_out q w hq)
  clear hq
  go_enter Try.func22, Try.ntmps22
  go_wp2_with (go_at_call 39; refine (HBT.out _).mono ?_; rintro e w' ⟨rfl, rfl⟩)
  go_ret
  exact ⟨ret_bool (by have h : bits .and .u16 (m : Int) 0 = 0 := hb
                      rw [h]; rfl), rfl⟩
theorem with_in (m k : Nat) (w : World) (hm : m < 65536) (hk : k ≤ 15) : Calls Try.prog 23 #[.int .u16 (m : Int), .int .i64 (k : Int)] w fun e w' => e = .returned (.int .u16 (addb m k : Nat)) ∧ w = w' := by
  have hp := pow15 k hk
  have hb := u16_or_nat m (2 ^ k) hm (by omega)
  rw [or_pow] at hb
  have HBT := hid (fun w => bit_in k w hk)
  generalize addb m k = y at hb ⊢
  generalize 2 ^ k = p at *
  go_enter Try.func23, Try.ntmps23
  go_wp2_with (go_at_call 39; refine (HBT.out _).mono ?_; rintro e w' ⟨rfl, rfl⟩)
  go_ret
  exact ⟨rfl, rfl⟩
theorem with_out (m : Nat) (q : Int) (w : World) (hm : m < 65536) (hq : Out q) : Calls Try.prog 23 #[.int .u16 (m : Int), .int .i64 q] w fun e w' => e = .returned (.int .u16 (m : Int)) ∧ w = w' := by
  have hb := u16_or_nat m 0 hm (by omega)
  rw [Nat.or_zero] at hb
  have HBT := hid (fun w => bit_out q w hq)
  clear hq
  go_enter Try.func23, Try.ntmps23
  go_wp2_with (go_at_call 39; refine (HBT.out _).mono ?_; rintro e w' ⟨rfl, rfl⟩)
  go_ret
  exact ⟨ret_int hb, rfl⟩
theorem without_in (m k : Nat) (w : World) (hm : m < 65536) (hk : k ≤ 15) : Calls Try.prog 24 #[.int .u16 (m : Int), .int .i64 (k : Int)] w fun e w' => e = .returned (.int .u16 (subb m k : Nat)) ∧ w = w' := by
  have hp := pow15 k hk
  have hb := u16_andNot_nat m (2 ^ k) hm (by omega)
  rw [andNot_pow m k hm hk] at hb
  have HBT := hid (fun w => bit_in k w hk)
  generalize subb m k = y at hb ⊢
  generalize 2 ^ k = p at *
  go_enter Try.func24, Try.ntmps24
  go_wp2_with (go_at_call 39; refine (HBT.out _).mono ?_; rintro e w' ⟨rfl, rfl⟩)
  go_ret
  exact ⟨rfl, rfl⟩
theorem without_out (m : Nat) (q : Int) (w : World) (hm : m < 65536) (hq : Out q) : Calls Try.prog 24 #[.int .u16 (m : Int), .int .i64 q] w fun e w' => e = .returned (.int .u16 (m : Int)) ∧ w = w' := by
  have hb := u16_andNot_nat m 0 hm (by omega)
  rw [Nat.sub_zero, and_self0, Nat.mod_eq_of_lt hm] at hb
  have HBT := hid (fun w => bit_out q w hq)
  clear hq
  go_enter Try.func24, Try.ntmps24
  go_wp2_with (go_at_call 39; refine (HBT.out _).mono ?_; rintro e w' ⟨rfl, rfl⟩)
  go_ret
  exact ⟨ret_int hb, rfl⟩
theorem shr_hs (m k : Nat) : (((m : Int) / 2 ^ k).tmod 2 == 1) = hs m k := by
  have e : (m : Int) / 2 ^ k = ((m / 2 ^ k : Nat) : Int) := by norm_cast
  rw [e, Int.tmod_eq_emod_of_nonneg (Int.natCast_nonneg _)]; unfold hs
  rw [Bool.eq_iff_iff, beq_iff_eq, decide_eq_true_eq]
  generalize m / 2 ^ k = p
  omega
theorem refhas_in (m k : Nat) (w : World) (_hm : m < 65536) (hk : k ≤ 15) : Calls Try.prog 32 #[.int .u16 (m : Int), .int .i64 (k : Int)] w fun e w' => e = .returned (.bool (hs m k)) ∧ w = w' := by
  have HR := hid (shr_hs m k)
  go_enter Try.func32, Try.ntmps32
  go_wp2
  go_ret
  exact ⟨ret_bool HR.out, rfl⟩
theorem refhas_out (m : Nat) (q : Int) (w : World) (hq : Out q) : Calls Try.prog 32 #[.int .u16 (m : Int), .int .i64 q] w fun e w' => e = .returned (.bool false) ∧ w = w' := by
  unfold Out at hq
  by_cases h : 0 ≤ q
  · have hq2 : 15 < q := by omega
    clear hq
    go_enter Try.func32, Try.ntmps32
    go_wp2
    go_ret
    exact ⟨ret_bool (by simp), rfl⟩
  · clear hq
    go_enter Try.func32, Try.ntmps32
    go_wp2
    go_ret
    exact ⟨ret_bool (by simp), rfl⟩
theorem refwith_in (m k : Nat) (w : World) (hm : m < 65536) (hk : k ≤ 15) : Calls Try.prog 31 #[.int .u16 (m : Int), .int .i64 (k : Int)] w fun e w' => e = .returned (.int .u16 (addb m k : Nat)) ∧ w = w' := by
  have hp := pow15 k hk
  have ha := addb_lt m k hm hk
  have HBT := hid (fun w => refhas_in m k w hm hk)
  unfold addb at ha ⊢
  cases h : hs m k with
  | true =>
    rw [h] at HBT
    go_enter Try.func31, Try.ntmps31
    go_wp2_with (go_at_call 32; refine (HBT.out _).mono ?_; rintro e w' ⟨rfl, rfl⟩)
    go_ret
    exact ⟨rfl, rfl⟩
  | false =>
    rw [h] at HBT ha
    simp only [Bool.false_eq_true, if_false] at ha ⊢
    have HP : Hid (IntKind.u16.wrap ((m : Int) + IntKind.u16.wrap ((2 : Int) ^ k)) = ((m + 2 ^ k : Nat) : Int)) := hid (by
      rw [wrap_pow k hk, IntKind.wrap_u16]
      generalize 2 ^ k = p at *
      omega)
    clear ha h hp
    go_enter Try.func31, Try.ntmps31
    go_wp2_with (go_at_call 32; refine (HBT.out _).mono ?_; rintro e w' ⟨rfl, rfl⟩)
    go_ret
    exact ⟨ret_int HP.out, rfl⟩
theorem refwith_out (m : Nat) (q : Int) (w : World) (hq : Out q) : Calls Try.prog 31 #[.int .u16 (m : Int), .int .i64 q] w fun e w' => e = .returned (.int .u16 (m : Int)) ∧ w = w' := by
  unfold Out at hq
  by_cases h : 0 ≤ q
  · have hq2 : 15 < q := by omega
    clear hq
    go_enter Try.func31, Try.ntmps31
    go_wp2_with fail
    go_ret
    exact ⟨rfl, rfl⟩
  · clear hq
    go_enter Try.func31, Try.ntmps31
    go_wp2_with fail
    go_ret
    exact ⟨rfl, rfl⟩
theorem refwithout_in (m k : Nat) (w : World) (hm : m < 65536) (hk : k ≤ 15) : Calls Try.prog 33 #[.int .u16 (m : Int), .int .i64 (k : Int)] w fun e w' => e = .returned (.int .u16 (subb m k : Nat)) ∧ w = w' := by
  have hp := pow15 k hk
  have HBT := hid (fun w => refhas_in m k w hm hk)
  unfold subb
  cases h : hs m k with
  | true =>
    have h2 : 2 ^ k ≤ m := by
      have h1 : m / 2 ^ k % 2 = 1 := by rw [one_bit, if_pos h]
      apply Nat.le_of_not_lt; intro hlt
      rw [Nat.div_eq_of_lt hlt] at h1; omega
    rw [h] at HBT
    simp only [if_true]
    have HP : Hid (IntKind.u16.wrap ((m : Int) - IntKind.u16.wrap ((2 : Int) ^ k)) = ((m - 2 ^ k : Nat) : Int)) := hid (by
      rw [wrap_pow k hk, IntKind.wrap_u16]
      generalize 2 ^ k = p at *
      omega)
    clear h hp h2
    go_enter Try.func33, Try.ntmps33
    go_wp2_with (go_at_call 32; refine (HBT.out _).mono ?_; rintro e w' ⟨rfl, rfl⟩)
    go_ret
    exact ⟨ret_int HP.out, rfl⟩
  | false =>
    rw [h] at HBT
    simp only [Bool.false_eq_true, if_false]
    go_enter Try.func33, Try.ntmps33
    go_wp2_with (go_at_call 32; refine (HBT.out _).mono ?_; rintro e w' ⟨rfl, rfl⟩)
    go_ret
    exact ⟨rfl, rfl⟩
theorem refwithout_out (m : Nat) (q : Int) (w : World) (hq : Out q) : Calls Try.prog 33 #[.int .u16 (m : Int), .int .i64 q] w fun e w' => e = .returned (.int .u16 (m : Int)) ∧ w = w' := by
  have HBT := hid (fun w => refhas_out m q w hq)
  clear hq
  go_enter Try.func33, Try.ntmps33
  go_wp2_with (go_at_call 32; refine (HBT.out _).mono ?_; rintro e w' ⟨rfl, rfl⟩)
  go_ret
  exact ⟨rfl, rfl⟩
end Go.Proofs.Ytbfaebobainhjaa
