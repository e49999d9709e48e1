/-
  Contracts of frame's Has, With, Without, Count and of the document's own.
-/
import Derived.Test.YtldegdhpblkhhaaA
import Derived.Test.YtldegdhpblkhhaaMP
import Derived.Deep.RegionHeld3
import Derived.BigQuiet
import Derived.Deep.QuietTactic
import Derived.Deep.DeepCutAuto
import Derived.Lib.QuietBelow
namespace Go.Proofs.Ytldegdhpblkhhaa
open Go Go.RowKit

/-- No node. -/
def Out (q : Int) : Prop := q < 0 ∨ 15 < q
theorem isNode_in (k : Nat) (w : World) (hk : k ≤ 15) : Calls Try.prog 36 #[.int .i64 (k : Int)] w fun e w' => e = .returned (.bool true) ∧ w = w' := by
  go_enter Try.func36, Try.ntmps36
  go_wp2
  go_ret
  exact ⟨ret_bool (by simp; omega), rfl⟩
theorem isNode_out (q : Int) (w : World) (hq : Out q) : Calls Try.prog 36 #[.int .i64 q] w fun e w' => e = .returned (.bool false) ∧ w = w' := by
  unfold Out at hq
  by_cases h : 0 ≤ q
  · have hq2 : 15 < q := by omega
    clear hq
    go_enter Try.func36, Try.ntmps36
    go_wp2
    go_ret
    exact ⟨ret_bool (by simp; omega), rfl⟩
  · clear hq
    go_enter Try.func36, Try.ntmps36
    go_wp2
    go_ret
    exact ⟨ret_bool (by simp), rfl⟩
theorem wrap_pow (k : Nat) (hk : k ≤ 15) : IntKind.u16.wrap ((2 : Int) ^ k) = ((2 ^ k : Nat) : Int) := by
  have hp := pow15 k hk
  have e : (2 : Int) ^ k = ((2 ^ k : Nat) : Int) := by norm_cast
  rw [IntKind.wrap_u16, e]
  generalize 2 ^ k = p at hp
  omega
theorem bit_in (k : Nat) (w : World) (hk : k ≤ 15) : Calls Try.prog 37 #[.int .i64 (k : Int)] w fun e w' => e = .returned (.int .u16 ((2 ^ k : Nat) : Int)) ∧ w = w' := by
  have hp := pow15 k hk
  have HP := hid (wrap_pow k hk)
  have HK := hid hk
  go_enter Try.func37, Try.ntmps37
  go_wp2_with (go_at_call 36; refine (isNode_in k _ HK.out).mono ?_; rintro e w' ⟨rfl, rfl⟩)
  go_ret
  exact ⟨ret_int HP.out, rfl⟩
theorem bit_out (q : Int) (w : World) (hq : Out q) : Calls Try.prog 37 #[.int .i64 q] w fun e w' => e = .returned (.int .u16 0) ∧ w = w' := by
  have HK := hid hq
  clear hq
  go_enter Try.func37, Try.ntmps37
  go_wp2_with (go_at_call 36; refine (isNode_out q _ HK.out).mono ?_; rintro e w' ⟨rfl, rfl⟩)
  go_ret
  exact ⟨rfl, rfl⟩
theorem ne_of_hs (m k : Nat) : (((m &&& 2 ^ k : Nat) : Int) != 0) = hs m k := by
  have hp := Nat.two_pow_pos k
  rw [and_pow]
  cases h : hs m k
  · rfl
  · rw [if_pos rfl, bne_iff_ne]; omega
theorem has_in (m k : Nat) (w : World) (hm : m < 65536) (hk : k ≤ 15) : Calls Try.prog 17 #[.int .u16 (m : Int), .int .i64 (k : Int)] w fun e w' => e = .returned (.bool (hs m k)) ∧ w = w' := by
  have hp := pow15 k hk
  have hb := u16_and_nat m (2 ^ k) hm (by omega)
  have HR := hid (ne_of_hs m k)
  have HBT := hid (fun w => bit_in k w hk)
  generalize m &&& 2 ^ k = y at hb HR
  generalize 2 ^ k = p at *
  go_enter Try.func17, Try.ntmps17
  go_wp2_with (go_at_call 37; refine (HBT.out _).mono ?_; rintro e w' ⟨rfl, rfl⟩)
  go_ret
  exact ⟨ret_bool HR.out, rfl⟩
theorem has_out (m : Nat) (q : Int) (w : World) (hm : m < 65536) (hq : Out q) : Calls Try.prog 17 #[.int .u16 (m : Int), .int .i64 q] w fun e w' => e = .returned (.bool false) ∧ w = w' := by
  have hb := u16_and_nat m 0 hm (by omega)
  rw [Nat.and_zero] at hb
  have HBT := hid (fun w => bit_out q w hq)
  clear hq
  go_enter Try.func17, Try.ntmps17
  go_wp2_with (go_at_call 37; refine (HBT.out _).mono ?_; rintro e w' ⟨rfl, rfl⟩)
  go_ret
  exact ⟨ret_bool (by have h : bits .and .u16 (m : Int) 0 = 0 := hb
                      rw [h]; rfl), rfl⟩
theorem with_in (m k : Nat) (w : World) (hm : m < 65536) (hk : k ≤ 15) : Calls Try.prog 19 #[.int .u16 (m : Int), .int .i64 (k : Int)] w fun e w' => e = .returned (.int .u16 (addb m k : Nat)) ∧ w = w' := by
  have hp := pow15 k hk
  have hb := u16_or_nat m (2 ^ k) hm (by omega)
  rw [or_pow] at hb
  have HBT := hid (fun w => bit_in k w hk)
  generalize addb m k = y at hb ⊢
  generalize 2 ^ k = p at *
  go_enter Try.func19, Try.ntmps19
  go_wp2_with (go_at_call 37; refine (HBT.out _).mono ?_; rintro e w' ⟨rfl, rfl⟩)
  go_ret
  exact ⟨rfl, rfl⟩
theorem with_out (m : Nat) (q : Int) (w : World) (hm : m < 65536) (hq : Out q) : Calls Try.prog 19 #[.int .u16 (m : Int), .int .i64 q] w fun e w' => e = .returned (.int .u16 (m : Int)) ∧ w = w' := by
  have hb := u16_or_nat m 0 hm (by omega)
  rw [Nat.or_zero] at hb
  have HBT := hid (fun w => bit_out q w hq)
  clear hq
  go_enter Try.func19, Try.ntmps19
  go_wp2_with (go_at_call 37; refine (HBT.out _).mono ?_; rintro e w' ⟨rfl, rfl⟩)
  go_ret
  exact ⟨ret_int hb, rfl⟩
theorem without_in (m k : Nat) (w : World) (hm : m < 65536) (hk : k ≤ 15) : Calls Try.prog 21 #[.int .u16 (m : Int), .int .i64 (k : Int)] w fun e w' => e = .returned (.int .u16 (subb m k : Nat)) ∧ w = w' := by
  have hp := pow15 k hk
  have hb := u16_andNot_nat m (2 ^ k) hm (by omega)
  rw [andNot_pow m k hm hk] at hb
  have HBT := hid (fun w => bit_in k w hk)
  generalize subb m k = y at hb ⊢
  generalize 2 ^ k = p at *
  go_enter Try.func21, Try.ntmps21
  go_wp2_with (go_at_call 37; refine (HBT.out _).mono ?_; rintro e w' ⟨rfl, rfl⟩)
  go_ret
  exact ⟨rfl, rfl⟩
theorem without_out (m : Nat) (q : Int) (w : World) (hm : m < 65536) (hq : Out q) : Calls Try.prog 21 #[.int .u16 (m : Int), .int .i64 q] w fun e w' => e = .returned (.int .u16 (m : Int)) ∧ w = w' := by
  have hb := u16_andNot_nat m 0 hm (by omega)
  rw [Nat.sub_zero, and_self0, Nat.mod_eq_of_lt hm] at hb
  have HBT := hid (fun w => bit_out q w hq)
  clear hq
  go_enter Try.func21, Try.ntmps21
  go_wp2_with (go_at_call 37; refine (HBT.out _).mono ?_; rintro e w' ⟨rfl, rfl⟩)
  go_ret
  exact ⟨ret_int hb, rfl⟩
theorem shr_hs (m k : Nat) : (((m : Int) / 2 ^ k).tmod 2 == 1) = hs m k := by
  have e : (m : Int) / 2 ^ k = ((m / 2 ^ k : Nat) : Int) := by norm_cast
  rw [e, Int.tmod_eq_emod_of_nonneg (Int.natCast_nonneg _)]; unfold hs
  rw [Bool.eq_iff_iff, beq_iff_eq, decide_eq_true_eq]
  generalize m / 2 ^ k = p
  omega
theorem refhas_in (m k : Nat) (w : World) (_hm : m < 65536) (hk : k ≤ 15) : Calls Try.prog 18 #[.int .u16 (m : Int), .int .i64 (k : Int)] w fun e w' => e = .returned (.bool (hs m k)) ∧ w = w' := by
  have HR := hid (shr_hs m k)
  go_enter Try.func18, Try.ntmps18
  go_wp2
  go_ret
  exact ⟨ret_bool HR.out, rfl⟩
theorem refhas_out (m : Nat) (q : Int) (w : World) (hq : Out q) : Calls Try.prog 18 #[.int .u16 (m : Int), .int .i64 q] w fun e w' => e = .returned (.bool false) ∧ w = w' := by
  unfold Out at hq
  by_cases h : 0 ≤ q
  · have hq2 : 15 < q := by omega
    clear hq
    go_enter Try.func18, Try.ntmps18
    go_wp2
    go_ret
    exact ⟨ret_bool (by simp), rfl⟩
  · clear hq
    go_enter Try.func18, Try.ntmps18
    go_wp2
    go_ret
    exact ⟨ret_bool (by simp), rfl⟩
theorem refwith_in (m k : Nat) (w : World) (hm : m < 65536) (hk : k ≤ 15) : Calls Try.prog 20 #[.int .u16 (m : Int), .int .i64 (k : Int)] w fun e w' => e = .returned (.int .u16 (addb m k : Nat)) ∧ w = w' := by
  have hp := pow15 k hk
  have ha := addb_lt m k hm hk
  have HBT := hid (fun w => refhas_in m k w hm hk)
  unfold addb at ha ⊢
  cases h : hs m k with
  | true =>
    rw [h] at HBT
    go_enter Try.func20, Try.ntmps20
    go_wp2_with (go_at_call 18; refine (HBT.out _).mono ?_; rintro e w' ⟨rfl, rfl⟩)
    go_ret
    exact ⟨rfl, rfl⟩
  | false =>
    rw [h] at HBT ha
    simp only [Bool.false_eq_true, if_false] at ha ⊢
    have HP : Hid (IntKind.u16.wrap ((m : Int) + IntKind.u16.wrap ((2 : Int) ^ k)) = ((m + 2 ^ k : Nat) : Int)) := hid (by
      rw [wrap_pow k hk, IntKind.wrap_u16]
      generalize 2 ^ k = p at *
      omega)
    clear ha h hp
    go_enter Try.func20, Try.ntmps20
    go_wp2_with (go_at_call 18; refine (HBT.out _).mono ?_; rintro e w' ⟨rfl, rfl⟩)
    go_ret
    exact ⟨ret_int HP.out, rfl⟩
theorem refwith_out (m : Nat) (q : Int) (w : World) (hq : Out q) : Calls Try.prog 20 #[.int .u16 (m : Int), .int .i64 q] w fun e w' => e = .returned (.int .u16 (m : Int)) ∧ w = w' := by
  unfold Out at hq
  by_cases h : 0 ≤ q
  · have hq2 : 15 < q := by omega
    clear hq
    go_enter Try.func20, Try.ntmps20
    go_wp2_with fail
    go_ret
    exact ⟨rfl, rfl⟩
  · clear hq
    go_enter Try.func20, Try.ntmps20
    go_wp2_with fail
    go_ret
    exact ⟨rfl, rfl⟩
theorem refwithout_in (m k : Nat) (w : World) (hm : m < 65536) (hk : k ≤ 15) : Calls Try.prog 22 #[.int .u16 (m : Int), .int .i64 (k : Int)] w fun e w' => e = .returned (.int .u16 (subb m k : Nat)) ∧ w = w' := by
  have hp := pow15 k hk
  have HBT := hid (fun w => refhas_in m k w hm hk)
  unfold subb
  cases h : hs m k with
  | true =>
    have h2 : 2 ^ k ≤ m := by
      have h1 : m / 2 ^ k % 2 = 1 := by rw [one_bit, if_pos h]
      apply Nat.le_of_not_lt; intro hlt
      rw [Nat.div_eq_of_lt hlt] at h1; omega
    rw [h] at HBT
    simp only [if_true]
    have HP : Hid (IntKind.u16.wrap ((m : Int) - IntKind.u16.wrap ((2 : Int) ^ k)) = ((m - 2 ^ k : Nat) : Int)) := hid (by
      rw [wrap_pow k hk, IntKind.wrap_u16]
      generalize 2 ^ k = p at *
      omega)
    clear h hp h2
    go_enter Try.func22, Try.ntmps22
    go_wp2_with (go_at_call 18; refine (HBT.out _).mono ?_; rintro e w' ⟨rfl, rfl⟩)
    go_ret
    exact ⟨ret_int HP.out, rfl⟩
  | false =>
    rw [h] at HBT
    simp only [Bool.false_eq_true, if_false]
    go_enter Try.func22, Try.ntmps22
    go_wp2_with (go_at_call 18; refine (HBT.out _).mono ?_; rintro e w' ⟨rfl, rfl⟩)
    go_ret
    exact ⟨rfl, rfl⟩
theorem refwithout_out (m : Nat) (q : Int) (w : World) (hq : Out q) : Calls Try.prog 22 #[.int .u16 (m : Int), .int .i64 q] w fun e w' => e = .returned (.int .u16 (m : Int)) ∧ w = w' := by
  have HBT := hid (fun w => refhas_out m q w hq)
  clear hq
  go_enter Try.func22, Try.ntmps22
  go_wp2_with (go_at_call 18; refine (HBT.out _).mono ?_; rintro e w' ⟨rfl, rfl⟩)
  go_ret
  exact ⟨rfl, rfl⟩
theorem bel_drewN {B : Nat} {a w : World} (h : Below B a w) (n : Nat) : Below B a (w.drewN n) := by
  induction n with
  | zero => exact h
  | succ n ih => exact ih.drew
/-- How many bits of a byte are 1, as the library's table has it. -/
@[reducible] def pop8 : ByteArray := ⟨(((([0, 1, 1, 2, 1, 2, 2, 3, 1, 2, 2, 3, 2, 3, 3, 4, 1, 2, 2, 3, 2, 3, 3, 4, 2, 3, 3, 4, 3, 4, 4, 5, 1, 2, 2, 3, 2, 3, 3, 4, 2, 3, 3, 4, 3, 4, 4, 5, 2, 3, 3, 4, 3, 4, 4, 5, 3, 4, 4, 5, 4, 5, 5, 6] : List UInt8).append [1, 2, 2, 3, 2, 3, 3, 4, 2, 3, 3, 4, 3, 4, 4, 5, 2, 3, 3, 4, 3, 4, 4, 5, 3, 4, 4, 5, 4, 5, 5, 6, 2, 3, 3, 4, 3, 4, 4, 5, 3, 4, 4, 5, 4, 5, 5, 6, 3, 4, 4, 5, 4, 5, 5, 6, 4, 5, 5, 6, 5, 6, 6, 7]).append ([1, 2, 2, 3, 2, 3, 3, 4, 2, 3, 3, 4, 3, 4, 4, 5, 2, 3, 3, 4, 3, 4, 4, 5, 3, 4, 4, 5, 4, 5, 5, 6, 2, 3, 3, 4, 3, 4, 4, 5, 3, 4, 4, 5, 4, 5, 5, 6, 3, 4, 4, 5, 4, 5, 5, 6, 4, 5, 5, 6, 5, 6, 6, 7].append [2, 3, 3, 4, 3, 4, 4, 5, 3, 4, 4, 5, 4, 5, 5, 6, 3, 4, 4, 5, 4, 5, 5, 6, 4, 5, 5, 6, 5, 6, 6, 7, 3, 4, 4, 5, 4, 5, 5, 6, 4, 5, 5, 6, 5, 6, 6, 7, 4, 5, 5, 6, 5, 6, 6, 7, 5, 6, 6, 7, 6, 7, 7, 8]))).toArray⟩
theorem pop8_size : pop8.size = 256 := by decide +kernel
theorem pop8_all : ∀ a : Fin 256, (pop8[a.val]'(by rw [pop8_size]; exact a.isLt)).toNat = cn a.val 8 := by decide +kernel
theorem idx8 (a : Nat) (h : a < 256) (w : World) : (Instr.index 9 (.string pop8) (.int .u16 (a : Int))).run Try.prog w = .ok (.int .u8 ((cn a 8 : Nat) : Int)) w := by
  have h2 : 0 ≤ (a : Int) ∧ (a : Int) < (pop8.size : Int) := by rw [pop8_size]; omega
  rw [run_index_string w 9 pop8 .u16 (a : Int) Try.underlying9, dif_pos h2]
  have := pop8_all ⟨a, h⟩
  simp only [Int.toNat_natCast]
  rw [this]
set_option maxRecDepth 100000 in
theorem ones_any (m : Nat) (w : World) (hm : m < 65536) : Calls Try.prog 38 #[.int .u16 (m : Int)] w fun e w' => e = .returned (.int .i64 (cn m 16 : Nat)) ∧ Below w.heap.size w w' := by
  have e1 : bits .and .u16 (m : Int) 255 = ((m % 256 : Nat) : Int) := by
    have := u16_and_nat m 255 hm (by omega)
    rw [nat_mask8] at this; exact this
  have e2 : (m : Int) / 256 = ((m / 256 : Nat) : Int) := by omega
  have i1 := idx8 (m / 256) (by omega)
  have i2 := idx8 (m % 256) (by omega)
  have c1 := cn_le (m / 256) 8
  have c2 := cn_le (m % 256) 8
  have HC := hid (cn_halves m)
  generalize cn (m / 256) 8 = x at *
  generalize cn (m % 256) 8 = y at *
  generalize cn m 16 = z at *
  generalize m / 256 = p at *
  generalize m % 256 = q at *
  obtain ⟨S, hS⟩ : ∃ S, S = pop8 := ⟨_, rfl⟩
  rw [← hS] at i1 i2
  unfold pop8 at hS
  go_enter Try.func38, Try.ntmps38
  rw [← hS]
  clear hS
  go_wp2
  go_quiet (fail)
  go_wp2
  go_ret
  exact ⟨by rw [HC.out]; simp, bel_drewN (Below.refl _ _) _⟩
theorem count_any (m : Nat) (w : World) (hm : m < 65536) : Calls Try.prog 23 #[.int .u16 (m : Int)] w fun e w' => e = .returned (.int .i64 (cn m 16 : Nat)) ∧ Below w.heap.size w w' := by
  go_enter Try.func23, Try.ntmps23
  go_wp2_with (go_at_call 38; refine (ones_any m _ hm).mono ?_; rintro e w1 ⟨rfl, b1⟩)
  go_ret
  exact ⟨rfl, b1⟩
theorem refcount_any (m : Nat) (w : World) (hm : m < 65536) : Calls Try.prog 24 #[.int .u16 (m : Int)] w fun e w' => e = .returned (.int .i64 (cn m 16 : Nat)) ∧ w = w' := by
  go_enter Try.func24, Try.ntmps24
  go_wp2
  go_loop [3, 5] (fun c i => ∃ k : Nat, k ≤ 16 ∧ i = .int .i64 (k : Int) ∧ c = .int .i64 ((cn m k : Nat) : Int)) (fun _ i => 16 - (intOf i).toNat)
  case atStart => exact ⟨0, Nat.zero_le _, rfl, rfl⟩
  case round =>
    obtain ⟨k, hk, rfl, rfl⟩ := hrel
    have hc := cn_le m k
    by_cases hlt : k < 16
    · have HC : Hid (cn m (k + 1) = cn m k + if hs m k then 1 else 0) := hid (by rw [cn, one_bit])
      have HH := hid (fun w => refhas_in m k w hm (by omega))
      generalize cn m k = y at *
      cases h : hs m k with
      | true =>
        rw [h] at HC HH
        go_wp2_with (go_at_call 18; refine (HH.out _).mono ?_; rintro e w' ⟨rfl, rfl⟩)
        go_round
        case rel => exact ⟨k + 1, by omega, by go_num, by rw [HC.out]; simp⟩
        case measure => simp [intOf]; omega
      | false =>
        rw [h] at HC HH
        go_wp2_with (go_at_call 18; refine (HH.out _).mono ?_; rintro e w' ⟨rfl, rfl⟩)
        go_round
        case rel => exact ⟨k + 1, by omega, by go_num, by rw [HC.out]; simp⟩
        case measure => simp [intOf]; omega
    · obtain rfl : k = 16 := by omega
      go_wp2
      go_ret
      exact ⟨rfl, rfl⟩
end Go.Proofs.Ytldegdhpblkhhaa
