/-
  Contracts of pico.Mul (two times, whatever their product), pico.Read (a number of at most 18 digits and a unit), lex.read, lex.number: a piece that is to be a number; under: the tables hold what the program lays (LaidW).
-/
import Derived.Test.YtinjhnflnfpoeaaGreatDoorLC
namespace Go.Proofs.YtinjhnflnfpoeaaGreatDoor
open Go Go.RowKit Go.Joins

def topB (v : Int) : Bool := decide (-1152921504606846976 ≤ v) && decide (v ≤ 1152921504606846976)
def timV (v : Int) : Int := if topB v then v else 0
def timE (v : Int) : Int := if topB v then 0 else 2

theorem mul_all (a b : Int) (w : World) (ha1 : -1152921504606846976 ≤ a) (ha2 : a ≤ 1152921504606846976) (hb1 : -1152921504606846976 ≤ b) (hb2 : b ≤ 1152921504606846976) :
    Calls Tryz.prog 92 #[.int .i64 a, .int .i64 b] w fun e w' => e = .returned (.tuple #[.int .i64 (timV (a * b)), .int .i64 (timE (a * b))]) ∧ Below w.heap.size w w' := by
  have hn : (a * b).natAbs = a.natAbs * b.natAbs := Int.natAbs_mul a b
  by_cases h : topB (a * b) = true
  · have h' : -1152921504606846976 ≤ a * b ∧ a * b ≤ 1152921504606846976 := by simpa [topB] using h
    rw [timV, timE, if_pos h, if_pos h]
    exact mul_ok a b w ha1 ha2 hb1 hb2 (div_low _ _ (by omega) (by omega) (by omega)) h'.1 h'.2
  · have h' : ¬ (-1152921504606846976 ≤ a * b ∧ a * b ≤ 1152921504606846976) := by simpa [topB] using h
    rw [timV, timE, if_neg h, if_neg h]
    have hbig : 1152921504606846976 < a.natAbs * b.natAbs := by omega
    have HS : Calls Tryz.prog 106 #[.int .i64 a, .int .i64 b, .int .i64 1] w fun e w' => e = .returned (.tuple #[.int .i64 0, .int .i64 0, .int .i64 2]) ∧ Below w.heap.size w w' := by
      rcases Nat.lt_or_ge (a.natAbs * b.natAbs) 18446744073709551616 with h2 | h2
      · exact scale_over a b 1 w ha1 ha2 hb1 hb2 (by omega) (by omega) (div_low _ _ h2 (by omega) (by omega)) (by rw [Nat.div_eq_of_lt h2]; omega) (by rw [Nat.div_one]; exact hbig)
      · exact scale_over_hi a b 1 w ha1 ha2 hb1 hb2 (by omega) (by omega) ((Nat.le_div_iff_mul_le (by omega)).2 (by omega))
    have HS := hid HS
    clear h h' hbig hn
    go_enter Tryz.func92, Tryz.ntmps92
    go_wp2_with fail
    refine HS.out.mono ?_
    rintro e w' ⟨rfl, hb⟩
    go_wp2
    go_ret2
    exact ⟨rfl, hb⟩

theorem sub_set : digitSet.data.toList = [48, 49, 50, 51, 52, 53, 54, 55, 56, 57] := rfl
theorem dig_set (c : UInt8) : ([48, 49, 50, 51, 52, 53, 54, 55, 56, 57] : List UInt8).contains c = digB c := by
  have key : ∀ n : Fin 256, ([48, 49, 50, 51, 52, 53, 54, 55, 56, 57] : List UInt8).contains (UInt8.ofNat n.val) = digB (UInt8.ofNat n.val) := by decide +kernel
  have := key ⟨c.toNat, c.toNat_lt⟩
  simpa using this
theorem trim_eq (l : List UInt8) : Lib.trimLeftS l digitSet.data.toList = l.dropWhile digB := by
  unfold Lib.trimLeftS
  rw [sub_set]
  congr 1
  funext c
  exact dig_set c
theorem size_eq (l : List UInt8) : Lib.trimPrefix l [45] = sizeF l ∧ Lib.hasPrefix l [45] = minusB l := by
  cases l with
  | nil => exact ⟨rfl, rfl⟩
  | cons c r =>
    by_cases h : c = 45
    · subst h; exact ⟨(pre_minus r).1, (pre_minus r).2⟩
    · refine ⟨by rw [(pre_none c r h).1, sizeF_cons, if_neg h], by rw [(pre_none c r h).2]; exact (beq_eq_false_iff_ne.2 h).symm⟩
theorem decV_eq (l : List UInt8) : decV l = decVal l := rfl
theorem digs_is (l : List UInt8) : isDigits (l.takeWhile digB) := fun c hc => by
  have := List.all_eq_true.1 (all_takeWhile digB l) c hc
  simpa [digB] using this
/-- so many digits tell less than that power of ten -/
theorem decV_lt (l : List UInt8) (h : isDigits l) : decV l < 10 ^ l.length := by
  have key : ∀ r : List UInt8, isDigits r.reverse → decV r.reverse < 10 ^ r.length := by
    intro r
    induction r with
    | nil => intro _; decide
    | cons c r ih =>
      intro h
      rw [List.reverse_cons] at h ⊢
      have h1 := ih fun d hd => h d (List.mem_append_left _ hd)
      have h2 := decVal_snoc r.reverse c
      have h3 := h c (by simp)
      rw [decV_eq] at h1 ⊢
      rw [h2, List.length_cons, Nat.pow_succ]
      omega
  have := key l.reverse (by rwa [List.reverse_reverse])
  rwa [List.reverse_reverse, List.length_reverse] at this
theorem decV_18 (l : List UInt8) (h : isDigits l) (hl : l.length ≤ 18) : decV l < 1000000000000000000 := by
  have h1 := decV_lt l h
  have h2 : 10 ^ l.length ≤ 10 ^ 18 := Nat.pow_le_pow_right (by omega) hl
  omega

set_option maxHeartbeats 400000 in
theorem read_gen (s rest digs nm : ByteArray) (minus : Bool) (ps v : Int) (w : World) (hL : LaidW w) (h1 : Lib.trimPrefix s.data.toList [45] = rest.data.toList) (h2 : Lib.hasPrefix s.data.toList [45] = minus)
    (hu : UnitIs nm ps) (hr : rest = digs ++ nm) (hT : Lib.trimLeftS rest.data.toList digitSet.data.toList = nm.data.toList) (hd : isDigits digs.data.toList) (hd0 : 0 < digs.size) (hsz : rest.size ≤ 9223372036854775807) (hv : decVal digs.data.toList < 1000000000000000000) (hvv : (if minus then -(decVal digs.data.toList : Int) else decVal digs.data.toList) = v) :
    Calls Tryz.prog 82 #[.string s] w fun e w' => e = .returned (.tuple #[.int .i64 (timV (v * ps)), .int .i64 (timE (v * ps))]) ∧ Below w.heap.size w w' := by
  have hsum : rest.size = digs.size + nm.size := by rw [hr, ByteArray.size_append]
  have hns : nm.size < rest.size := by omega
  have H1 := hid h1
  have H2 := hid h2
  have HR := hid hr
  have HT := hid hT
  have HS := hid hsum
  have HD := hid hd
  have HU := hid hu
  have HV := hid hv
  have HL := hid hL
  have HVV := hid hvv
  clear h1 h2 hr hT hsum hd hu hv hL hvv
  have hne : ((nm.size : Int) == (rest.size : Int)) = false := beq_eq_false_iff_ne.2 (by omega)
  go_enter Tryz.func82, Tryz.ntmps82
  go_wp2_with fail
  refine (cut_any s rest minus w H1.out H2.out).mono ?_
  rintro e w' ⟨rfl, rfl⟩
  go_wp2_with fail
  refine (trim_any rest nm _ HT.out).mono ?_
  rintro e w1 ⟨rfl, g1⟩
  go_wp2_with fail
  refine (unit_any HU.out w1 (HL.out.below g1)).mono ?_
  rintro e w2 ⟨rfl, g2⟩
  go_wp2_with fail
  have hex : rest.extract 0 (rest.size - nm.size) = digs := by
    rw [HR.out, ByteArray.size_append, Nat.add_sub_cancel]
    apply ByteArray.ext
    rw [ByteArray.data_extract, ByteArray.data_append]
    apply Array.ext'
    rw [Array.toList_extract, Array.toList_append]
    simp only [List.extract_eq_take_drop, Nat.sub_zero, List.drop_zero]
    exact List.take_left' rfl
  rw [hex]
  clear hex
  obtain ⟨hp1, hp2⟩ := unit_size HU.out
  have hp3 := unit_top HU.out
  have hv := HV.out
  have hds : digs.size ≤ 9223372036854775807 := by have := HS.out; omega
  refine (number_any digs w2 HD.out (by omega) hds).mono ?_
  rintro e w3 ⟨rfl, rfl⟩
  have hvv := HVV.out
  clear HVV
  generalize decVal digs.data.toList = u at *
  clear H1 H2 HR HT HS HD HV hns hne hsz hds
  have HM := hid (fun w => mul_all v ps w (by cases minus <;> simp at hvv <;> omega) (by cases minus <;> simp at hvv <;> omega) (by omega) (by omega))
  obtain ⟨X, hX⟩ : ∃ X, timV (v * ps) = X := ⟨_, rfl⟩
  obtain ⟨Y, hY⟩ : ∃ Y, timE (v * ps) = Y := ⟨_, rfl⟩
  rw [hX, hY] at HM
  have HX := hid hX
  have HY := hid hY
  clear hX hY
  cases minus
  · obtain rfl : (u : Int) = v := hvv
    go_wp2_with fail
    refine (may_1 _ _ (u : Int) true (timeB_yes (by omega) (by omega)) _ (by simp)).mono ?_
    rintro e w4 ⟨rfl, rfl⟩
    go_wp2_with fail
    refine (HM.out _).mono ?_
    rintro e w5 ⟨rfl, g5⟩
    go_wp2
    go_ret2
    exact ⟨ret_two HX.out.symm HY.out.symm, (g1.trans (g2.mono g1.size)).trans (((Below.refl _ _).alloc (Nat.le_refl _) _ |>.trans (g5.mono (by simp))).mono (by have := g1.size; have := g2.size; omega))⟩
  · obtain rfl : -(u : Int) = v := hvv
    go_wp2_with fail
    refine (may_1 _ _ (-(u : Int)) true (timeB_yes (by omega) (by omega)) _ (by simp)).mono ?_
    rintro e w4 ⟨rfl, rfl⟩
    go_wp2_with fail
    refine (HM.out _).mono ?_
    rintro e w5 ⟨rfl, g5⟩
    go_wp2
    go_ret2
    exact ⟨ret_two HX.out.symm HY.out.symm, (g1.trans (g2.mono g1.size)).trans (((Below.refl _ _).alloc (Nat.le_refl _) _ |>.trans (g5.mono (by simp))).mono (by have := g1.size; have := g2.size; omega))⟩
end Go.Proofs.YtinjhnflnfpoeaaGreatDoor
