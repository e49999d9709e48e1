/-
  Contracts of pico.Mul, pico.Read (what Text writes; digits, with or without a sign, and a unit; 1m): under the ranges in their heads, and Read under: the tables hold what the program lays (LaidW).
-/
import Derived.Test.YtinjhnflnfpoeaaGreatDoorH
namespace Go.Proofs.YtinjhnflnfpoeaaGreatDoor
open Go Go.RowKit Go.Joins

theorem mul_ok (a b : Int) (w : World) (ha1 : -1152921504606846976 ≤ a) (ha2 : a ≤ 1152921504606846976) (hb1 : -1152921504606846976 ≤ b) (hb2 : b ≤ 1152921504606846976)
    (hD : DivSaid (a.natAbs * b.natAbs) 1) (hq1 : -1152921504606846976 ≤ a * b) (hq2 : a * b ≤ 1152921504606846976) :
    Calls Tryz.prog 92 #[.int .i64 a, .int .i64 b] w fun e w' => e = .returned (.tuple #[.int .i64 (a * b), .int .i64 0]) ∧ Below w.heap.size w w' := by
  go_enter Tryz.func92, Tryz.ntmps92
  go_wp2_with fail
  refine (scale_ok a b 1 w ha1 ha2 hb1 hb2 (by omega) (by omega) hD (by rw [Int.ediv_one]; exact hq1) (by rw [Int.ediv_one]; exact hq2)).mono ?_
  rintro e w' ⟨rfl, hb⟩
  rw [Int.ediv_one]
  go_wp2
  go_ret2
  exact ⟨rfl, hb⟩

theorem cut_any (s rest : ByteArray) (minus : Bool) (w : World) (h1 : Lib.trimPrefix s.data.toList [45] = rest.data.toList) (h2 : Lib.hasPrefix s.data.toList [45] = minus) :
    Calls Tryz.prog 89 #[.string s, .string ⟨#[45]⟩] w fun e w' => e = .returned (.tuple #[.string rest, .bool minus]) ∧ w = w' := by
  refine (Tryz.strings_CutPrefix s ⟨#[45]⟩ w).mono ?_
  rintro e w' ⟨rfl, rfl⟩
  have e1 : Lib.trimPrefix s.data.toList (#[45] : Array UInt8).toList = rest.data.toList := h1
  have e2 : Lib.hasPrefix s.data.toList (#[45] : Array UInt8).toList = minus := h2
  refine ⟨?_, rfl⟩
  show Ending.returned (.tuple #[.string ⟨(Lib.trimPrefix s.data.toList (#[45] : Array UInt8).toList).toArray⟩, .bool (Lib.hasPrefix s.data.toList (#[45] : Array UInt8).toList)]) = _
  rw [e1, e2, Array.toArray_toList]

def digitSet : ByteArray := ⟨#[48, 49, 50, 51, 52, 53, 54, 55, 56, 57]⟩
theorem trim_any (rest nm : ByteArray) (w : World) (h : Lib.trimLeftS rest.data.toList digitSet.data.toList = nm.data.toList) :
    Calls Tryz.prog 67 #[.string rest, .string ⟨#[48, 49, 50, 51, 52, 53, 54, 55, 56, 57]⟩] w fun e w' => e = .returned (.string nm) ∧ Below w.heap.size w w' := by
  refine (Tryz.strings_TrimLeft_laid rest digitSet w (by decide) ?_).mono ?_
  · intro j b hb
    have hm := List.mem_of_getElem? hb
    have hall : digitSet.data.toList.all (fun b => decide (b.toNat < 128)) = true := by decide
    simpa using List.all_eq_true.1 hall b hm
  · rintro e w' ⟨rfl, hb⟩
    exact ⟨by rw [h, Array.toArray_toList], hb⟩

theorem digit_in (c : UInt8) (h : 48 ≤ c.toNat ∧ c.toNat ≤ 57) : digitSet.data.toList.contains c = true := by
  have : ∀ n : Nat, 48 ≤ n → n ≤ 57 → digitSet.data.toList.contains (UInt8.ofNat n) = true := by
    intro n h1 h2
    have : n = 48 ∨ n = 49 ∨ n = 50 ∨ n = 51 ∨ n = 52 ∨ n = 53 ∨ n = 54 ∨ n = 55 ∨ n = 56 ∨ n = 57 := by omega
    rcases this with rfl | rfl | rfl | rfl | rfl | rfl | rfl | rfl | rfl | rfl <;> decide
  have e := this c.toNat h.1 h.2
  rwa [UInt8.ofNat_toNat] at e

theorem unit_letters {nm : ByteArray} {ps : Int} (h : UnitIs nm ps) : ∃ c r, nm.data.toList = c :: r ∧ digitSet.data.toList.contains c = false := by
  rcases h with ⟨rfl, rfl⟩ | ⟨rfl, rfl⟩ | ⟨rfl, rfl⟩ | ⟨rfl, rfl⟩ | ⟨rfl, rfl⟩ <;> exact ⟨_, _, rfl, by decide⟩

theorem trim_digits (ds nm : List UInt8) (hd : isDigits ds) (c : UInt8) (r : List UInt8) (hn : nm = c :: r) (hc : digitSet.data.toList.contains c = false) : Lib.trimLeftS (ds ++ nm) digitSet.data.toList = nm := by
  unfold Lib.trimLeftS
  induction ds with
  | nil => rw [List.nil_append, hn, List.dropWhile_cons_of_neg (by rw [hc]; decide)]
  | cons d ds ih =>
    rw [List.cons_append, List.dropWhile_cons_of_pos (digit_in d (hd d (by simp)))]
    exact ih (fun c hc => hd c (List.mem_cons_of_mem _ hc))

theorem unit_any {nm : ByteArray} {ps : Int} (h : UnitIs nm ps) (w : World) (hL : LaidW w) : Calls Tryz.prog 68 #[.string nm] w fun e w' => e = .returned (.tuple #[.int .i64 ps, .bool true]) ∧ Below w.heap.size w w' := by
  rcases h with ⟨rfl, rfl⟩ | ⟨rfl, rfl⟩ | ⟨rfl, rfl⟩ | ⟨rfl, rfl⟩ | ⟨rfl, rfl⟩
  · exact unit_0 w hL
  · exact unit_1 w hL
  · exact unit_2 w hL
  · exact unit_3 w hL
  · exact unit_4 w hL

theorem unit_top {nm : ByteArray} {ps : Int} (h : UnitIs nm ps) : ps ≤ 1000000000000 := by
  rcases h with ⟨rfl, rfl⟩ | ⟨rfl, rfl⟩ | ⟨rfl, rfl⟩ | ⟨rfl, rfl⟩ | ⟨rfl, rfl⟩ <;> decide

set_option maxHeartbeats 400000 in
theorem read_walk (s rest digs nm : ByteArray) (minus : Bool) (ps : Int) (w : World) (hL : LaidW w) (h1 : Lib.trimPrefix s.data.toList [45] = rest.data.toList) (h2 : Lib.hasPrefix s.data.toList [45] = minus)
    (hu : UnitIs nm ps) (hr : rest = digs ++ nm) (hd : isDigits digs.data.toList) (hd0 : 0 < digs.size) (hsz : rest.size ≤ 9223372036854775807) (hv : decVal digs.data.toList * ps ≤ 1152921504606846976) :
    Calls Tryz.prog 82 #[.string s] w fun e w' => e = .returned (.tuple #[.int .i64 (if minus then -(decVal digs.data.toList * ps) else decVal digs.data.toList * ps), .int .i64 0]) ∧ Below w.heap.size w w' := by
  have htr : Lib.trimLeftS rest.data.toList digitSet.data.toList = nm.data.toList := by
    obtain ⟨c, r, hn, hc⟩ := unit_letters hu
    have e : rest.data.toList = digs.data.toList ++ nm.data.toList := by rw [hr, ByteArray.data_append, Array.toList_append]
    rw [e]
    exact trim_digits _ _ hd c r hn hc
  have hsum : rest.size = digs.size + nm.size := by rw [hr, ByteArray.size_append]
  have hns : nm.size < rest.size := by omega
  have H1 := hid h1
  have H2 := hid h2
  have HR := hid hr
  have HT := hid htr
  have HS := hid hsum
  have HD := hid hd
  have HU := hid hu
  have HV := hid hv
  have HL := hid hL
  clear h1 h2 hr htr hsum hd hu hv hL
  have hne : ((nm.size : Int) == (rest.size : Int)) = false := beq_eq_false_iff_ne.2 (by omega)
  go_enter Tryz.func82, Tryz.ntmps82
  go_wp2_with fail
  refine (cut_any s rest minus w H1.out H2.out).mono ?_
  rintro e w' ⟨rfl, rfl⟩
  go_wp2_with fail
  refine (trim_any rest nm _ HT.out).mono ?_
  rintro e w1 ⟨rfl, g1⟩
  go_wp2_with fail
  refine (unit_any HU.out w1 (HL.out.below g1)).mono ?_
  rintro e w2 ⟨rfl, g2⟩
  go_wp2_with fail
  have hex : rest.extract 0 (rest.size - nm.size) = digs := by
    rw [HR.out, ByteArray.size_append, Nat.add_sub_cancel]
    apply ByteArray.ext
    rw [ByteArray.data_extract, ByteArray.data_append]
    apply Array.ext'
    rw [Array.toList_extract, Array.toList_append]
    simp only [List.extract_eq_take_drop, Nat.sub_zero, List.drop_zero]
    exact List.take_left' rfl
  rw [hex]
  clear hex
  obtain ⟨hp1, hp2⟩ := unit_size HU.out
  have hp3 := unit_top HU.out
  have hval : (decVal digs.data.toList : Int) ≤ decVal digs.data.toList * ps := by
    have := Int.mul_le_mul_of_nonneg_left (show (1 : Int) ≤ ps by omega) (show (0 : Int) ≤ (decVal digs.data.toList : Int) by omega)
    rwa [Int.mul_one] at this
  have hv := HV.out
  have hds : digs.size ≤ 9223372036854775807 := by have := HS.out; omega
  refine (number_any digs w2 HD.out (by omega) hds).mono ?_
  rintro e w3 ⟨rfl, rfl⟩
  have hv0 : (0 : Int) ≤ decVal digs.data.toList * ps := Int.mul_nonneg (by omega) (by omega)
  have hnn : (decVal digs.data.toList * 1 : Nat) ≤ 1152921504606846976 := by omega
  have hnat : decVal digs.data.toList * ps.natAbs ≤ 1152921504606846976 := by
    have : ((decVal digs.data.toList * ps.natAbs : Nat) : Int) = decVal digs.data.toList * ps := by rw [Int.natCast_mul, show ((ps.natAbs : Nat) : Int) = ps by omega]
    omega
  generalize hvv : decVal digs.data.toList = v at *
  have HVV := hid hvv
  clear hvv
  clear H1 H2 HR HT HS HD HV hns hne hsz hds
  cases minus
  · go_wp2_with fail
    refine (may_1 _ _ (v : Int) true (timeB_yes (by omega) (by omega)) _ (by simp)).mono ?_
    rintro e w4 ⟨rfl, rfl⟩
    go_wp2_with fail
    refine (mul_ok (v : Int) ps _ (by omega) (by omega) (by omega) (by omega) (div_low _ _ (by rw [Int.natAbs_natCast]; omega) (by omega) (by omega)) (by omega) (by omega)).mono ?_
    rintro e w5 ⟨rfl, g5⟩
    go_wp2
    go_ret2
    exact ⟨ret_two (by rw [HVV.out]) rfl, (g1.trans (g2.mono g1.size)).trans (((Below.refl _ _).alloc (Nat.le_refl _) _ |>.trans (g5.mono (by simp))).mono (by have := g1.size; have := g2.size; omega))⟩
  · have hneg : -(v : Int) * ps = -(v * ps) := Int.neg_mul _ _
    have HN := hid hneg
    clear hneg
    go_wp2_with fail
    refine (may_1 _ _ (-(v : Int)) true (timeB_yes (by omega) (by omega)) _ (by simp)).mono ?_
    rintro e w4 ⟨rfl, rfl⟩
    go_wp2_with fail
    refine (mul_ok (-(v : Int)) ps _ (by omega) (by omega) (by omega) (by omega) (div_low _ _ (by rw [Int.natAbs_neg, Int.natAbs_natCast]; omega) (by omega) (by omega)) (by rw [HN.out]; omega) (by rw [HN.out]; omega)).mono ?_
    rintro e w5 ⟨rfl, g5⟩
    rw [HN.out]
    go_wp2
    go_ret2
    exact ⟨ret_two (by rw [HVV.out]) rfl, (g1.trans (g2.mono g1.size)).trans (((Below.refl _ _).alloc (Nat.le_refl _) _ |>.trans (g5.mono (by simp))).mono (by have := g1.size; have := g2.size; omega))⟩

theorem pre_minus (l : List UInt8) : Lib.trimPrefix (45 :: l) [45] = l ∧ Lib.hasPrefix (45 :: l) [45] = true := by
  have h : Lib.hasPrefix (45 :: l) [45] = true := by simp [Lib.hasPrefix]
  exact ⟨by unfold Lib.trimPrefix; rw [h]; rfl, h⟩
theorem pre_none (c : UInt8) (l : List UInt8) (hc : c ≠ 45) : Lib.trimPrefix (c :: l) [45] = c :: l ∧ Lib.hasPrefix (c :: l) [45] = false := by
  have h : Lib.hasPrefix (c :: l) [45] = false := by
    unfold Lib.hasPrefix
    simp only [List.isPrefixOf, Bool.and_true]
    exact beq_eq_false_iff_ne.2 (Ne.symm hc)
  exact ⟨by unfold Lib.trimPrefix; rw [h]; rfl, h⟩

/-- pico.Read of digits and a unit -/
theorem read_plain (digs nm : ByteArray) (ps : Int) (w : World) (hL : LaidW w) (hu : UnitIs nm ps) (hd : isDigits digs.data.toList) (hd0 : digs.data.toList ≠ []) (hsz : digs.size ≤ 4611686018427387904) (hv : decVal digs.data.toList * ps ≤ 1152921504606846976) :
    Calls Tryz.prog 82 #[.string (digs ++ nm)] w fun e w' => e = .returned (.tuple #[.int .i64 (decVal digs.data.toList * ps), .int .i64 0]) ∧ Below w.heap.size w w' := by
  have hn := (unit_size hu).2
  have hpos : 0 < digs.size := by
    rcases Nat.eq_zero_or_pos digs.size with h | h
    · exact absurd (List.eq_nil_of_length_eq_zero (show digs.data.toList.length = 0 from h)) hd0
    · exact h
  match hdl : digs.data.toList, hd0 with
  | c :: r, _ =>
    have hcd := hd c (by rw [hdl]; simp)
    have hc : c ≠ 45 := by intro h; rw [h] at hcd; exact absurd hcd.1 (by decide)
    have e : (digs ++ nm).data.toList = c :: (r ++ nm.data.toList) := by rw [ByteArray.data_append, Array.toList_append, hdl, List.cons_append]
    obtain ⟨p1, p2⟩ := pre_none c (r ++ nm.data.toList) hc
    have h := read_walk (digs ++ nm) (digs ++ nm) digs nm false ps w hL (by rw [e]; exact p1) (by rw [e]; exact p2) hu rfl hd hpos (by rw [ByteArray.size_append]; omega) hv
    rw [hdl] at h
    exact h

/-- pico.Read of a sign, digits and a unit -/
theorem read_signed (s digs nm : ByteArray) (hs : s.data.toList = 45 :: digs.data.toList) (ps : Int) (w : World) (hL : LaidW w) (hu : UnitIs nm ps) (hd : isDigits digs.data.toList) (hd0 : digs.data.toList ≠ []) (hsz : digs.size ≤ 4611686018427387904) (hv : decVal digs.data.toList * ps ≤ 1152921504606846976) :
    Calls Tryz.prog 82 #[.string (s ++ nm)] w fun e w' => e = .returned (.tuple #[.int .i64 (-(decVal digs.data.toList * ps)), .int .i64 0]) ∧ Below w.heap.size w w' := by
  have hn := (unit_size hu).2
  have hpos : 0 < digs.size := by
    rcases Nat.eq_zero_or_pos digs.size with h | h
    · exact absurd (List.eq_nil_of_length_eq_zero (show digs.data.toList.length = 0 from h)) hd0
    · exact h
  have e : (s ++ nm).data.toList = 45 :: (digs ++ nm).data.toList := by rw [ByteArray.data_append, Array.toList_append, hs, ByteArray.data_append, Array.toList_append, List.cons_append]
  obtain ⟨p1, p2⟩ := pre_minus (digs ++ nm).data.toList
  exact read_walk (s ++ nm) (digs ++ nm) digs nm true ps w hL (by rw [e]; exact p1) (by rw [e]; exact p2) hu rfl hd hpos (by rw [ByteArray.size_append]; omega) hv

/-- pico.Read of what strconv writes of a number, and a unit -/
theorem read_itoa (n ps : Int) (nm : ByteArray) (w : World) (hL : LaidW w) (hu : UnitIs nm ps) (h1 : -1152921504606846976 ≤ n * ps) (h2 : n * ps ≤ 1152921504606846976) :
    Calls Tryz.prog 82 #[.string (⟨(Lib.itoa n).toArray⟩ ++ nm)] w fun e w' => e = .returned (.tuple #[.int .i64 (n * ps), .int .i64 0]) ∧ Below w.heap.size w w' := by
  have hp := (unit_size hu).1
  have key : n.natAbs ≤ 1152921504606846976 := by
    have e1 : (n * ps).natAbs = n.natAbs * ps.natAbs := Int.natAbs_mul n ps
    have e2 : n.natAbs * 1 ≤ n.natAbs * ps.natAbs := Nat.mul_le_mul_left _ (by omega)
    omega
  obtain ⟨d1, d2, d3⟩ := digits_dec n.natAbs
  have dl := decDigits_le n.natAbs
  by_cases hn : n < 0
  · have ei : Lib.itoa n = 45 :: Lib.decDigits n.natAbs := by unfold Lib.itoa; rw [if_pos hn]
    have ev : (n.natAbs : Int) * ps = -(n * ps) := by rw [show (n.natAbs : Int) = -n by omega, Int.neg_mul]
    have h := read_signed ⟨(Lib.itoa n).toArray⟩ ⟨(Lib.decDigits n.natAbs).toArray⟩ nm (by rw [ei]) ps w hL hu (by simpa using d1) (by simpa using d3) (by show (Lib.decDigits n.natAbs).toArray.size ≤ _; rw [List.size_toArray]; omega) (by
      show ((decVal (Lib.decDigits n.natAbs) : Nat) : Int) * ps ≤ _
      rw [d2, ev]; omega)
    refine h.mono ?_
    rintro e w' ⟨rfl, hb⟩
    refine ⟨ret_two ?_ rfl, hb⟩
    show -(((decVal (Lib.decDigits n.natAbs) : Nat) : Int) * ps) = _
    rw [d2, ev, Int.neg_neg]
  · have ei : Lib.itoa n = Lib.decDigits n.natAbs := by unfold Lib.itoa; rw [if_neg hn, show n.toNat = n.natAbs by omega]
    have ev : (n.natAbs : Int) * ps = n * ps := by rw [show (n.natAbs : Int) = n by omega]
    rw [ei]
    have h := read_plain ⟨(Lib.decDigits n.natAbs).toArray⟩ nm ps w hL hu (by simpa using d1) (by simpa using d3) (by show (Lib.decDigits n.natAbs).toArray.size ≤ _; rw [List.size_toArray]; omega) (by
      show ((decVal (Lib.decDigits n.natAbs) : Nat) : Int) * ps ≤ _
      rw [d2, ev]; omega)
    refine h.mono ?_
    rintro e w' ⟨rfl, hb⟩
    refine ⟨ret_two ?_ rfl, hb⟩
    show (((decVal (Lib.decDigits n.natAbs) : Nat) : Int) * ps) = _
    rw [d2, ev]

/-- pico.Read of 1m: no unit -/
theorem read_1m (w : World) (hL : LaidW w) : Calls Tryz.prog 82 #[.string ⟨#[49, 109]⟩] w fun e w' => e = .returned (.tuple #[.int .i64 0, .int .i64 4]) ∧ Below w.heap.size w w' := by
  have HL := hid hL
  clear hL
  go_enter Tryz.func82, Tryz.ntmps82
  go_wp2_with fail
  refine (cut_any ⟨#[49, 109]⟩ ⟨#[49, 109]⟩ false w (by decide) (by decide)).mono ?_
  rintro e w' ⟨rfl, rfl⟩
  go_wp2_with fail
  refine (trim_any ⟨#[49, 109]⟩ ⟨#[109]⟩ _ (by decide)).mono ?_
  rintro e w1 ⟨rfl, g1⟩
  go_wp2_with fail
  refine (unit_m w1 (HL.out.below g1)).mono ?_
  rintro e w2 ⟨rfl, g2⟩
  go_wp2
  go_ret2
  exact ⟨rfl, g1.trans (g2.mono g1.size)⟩

end Go.Proofs.YtinjhnflnfpoeaaGreatDoor
