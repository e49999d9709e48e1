/-
  B: Contracts of pico.bounded, pico.below, bits.Div64 at a high word of 0, and pico.Scale (what it answers, by the sizes' product, given what bits.Div64 answers at that product): each under the ranges in its head.
  C: Contracts of pico.greatest: which unit is the greatest of which a number is a whole one; under: the table of units, and of powers of ten, hold what the program lays (LaidW); the divisions by the units are given in its head.
  D: Contracts of pico.Text (every number) and of the law functions' live: the text of a time is its number of the greatest unit and that unit; under: the tables hold what the program lays (LaidW).
  E: pico.Scale in whole numbers: its parts and what is left are those of the division, down, of the product; under: what bits.Div64 answers at that product is given.
  H: Contracts of pico.number (digits that tell no more than the greatest time) and pico.Unit (the five units, and m), and that what strconv writes of a number are digits that tell it; Unit under: the tables hold what the program lays (LaidW).
  I: Contracts of pico.Mul, pico.Read (what Text writes; digits, with or without a sign, and a unit; 1m): under the ranges in their heads, and Read under: the tables hold what the program lays (LaidW).
  LC: Contracts of lex.isSign, lex.isBroken, strings.Clone and pico.Unit, at every text (strings.Clone's of at most 2^48 bytes; pico.Unit's under: the tables hold what the program lays).
  LD: Contracts of pico.Mul (two times, whatever their product), pico.Read (a number of at most 18 digits and a unit), lex.read, lex.number: a piece that is to be a number; under: the tables hold what the program lays (LaidW).
-/
import Derived.Test.YtkfnkieljcipnaaGreatDoorK1
import Derived.RegionTactic
import Derived.Deep.QuietTactic
import Derived.BigQuiet
import Derived.Deep.Light
import Derived.Lib.SmallJoins
import Derived.Laws.Rows
import Derived.Deep.MidRow
import Derived.Shelf.Unicode.DecodeSlow
import Derived.Lib.QuietBelow
import Derived.IntWalk
import Derived.Lib.AppendIntMem
import Derived.Shelf.Strconv.Itoa4
/-! B -/
namespace Go.Proofs.YtkfnkieljcipnaaGreatDoor
open Go Go.RowKit

theorem bel_drewN {B : Nat} {a w : World} (h : Below B a w) (n : Nat) : Below B a (w.drewN n) := h.trans ⟨rfl, rfl, rfl, Nat.le_refl _, fun _ _ => rfl⟩
theorem ret_two {k1 k2 : IntKind} {a b c d : Int} (h : a = b) (h' : c = d) : Ending.returned (.tuple #[.int k1 a, .int k2 c]) = .returned (.tuple #[.int k1 b, .int k2 d]) := by rw [h, h']
theorem ret_three {k1 k2 k3 : IntKind} {a b c d e f : Int} (h : a = b) (h' : c = d) (h'' : e = f) : Ending.returned (.tuple #[.int k1 a, .int k2 c, .int k3 e]) = .returned (.tuple #[.int k1 b, .int k2 d, .int k3 f]) := by rw [h, h', h'']

theorem timeB_yes {n : Int} (h1 : -1152921504606846976 ≤ n) (h2 : n ≤ 1152921504606846976) : timeB n = true := by
  simp only [timeB, decide_eq_true_eq]; omega
theorem timeB_no {n : Int} (h1 : n < -1152921504606846976 ∨ 1152921504606846976 < n) : timeB n = false := by
  simp only [timeB, decide_eq_false_iff_not]; omega

theorem bounded_ok (n : Int) (w : World) (h1 : -1152921504606846976 ≤ n) (h2 : n ≤ 1152921504606846976) :
    Calls Tryz.prog 169 #[.int .i64 n] w fun e w' => e = .returned (.tuple #[.int .i64 n, .int .i64 0]) ∧ Below w.heap.size w w' := by
  go_enter Tryz.func169, Tryz.ntmps169
  go_wp2_with fail
  refine (may_1 _ _ n true (timeB_yes h1 h2) _ (by simp)).mono ?_
  rintro e w' ⟨rfl, rfl⟩
  go_wp2
  go_ret2
  exact ⟨rfl, (Below.refl _ _).alloc (Nat.le_refl _) _⟩

theorem bounded_no (n : Int) (w : World) (h : n < -1152921504606846976 ∨ 1152921504606846976 < n) :
    Calls Tryz.prog 169 #[.int .i64 n] w fun e w' => e = .returned (.tuple #[.int .i64 0, .int .i64 2]) ∧ Below w.heap.size w w' := by
  have H := hid h
  clear h
  go_enter Tryz.func169, Tryz.ntmps169
  go_wp2_with fail
  refine (may_1 _ _ n false (timeB_no H.out) _ (by simp)).mono ?_
  rintro e w' ⟨rfl, rfl⟩
  go_wp2
  go_ret2
  exact ⟨rfl, (Below.refl _ _).alloc (Nat.le_refl _) _⟩

-- below: n, rest, den with 0 ≤ n ≤ 2^60, 0 ≤ rest < den ≤ 2^60
theorem below_zero_ok (n den : Int) (w : World) (h1 : 0 ≤ n) (h2 : n ≤ 1152921504606846976) :
    Calls Tryz.prog 161 #[.int .i64 n, .int .i64 0, .int .i64 den] w fun e w' => e = .returned (.tuple #[.int .i64 (-n), .int .i64 0, .int .i64 0]) ∧ Below w.heap.size w w' := by
  go_enter Tryz.func161, Tryz.ntmps161
  go_wp2_with fail
  refine (bounded_ok (-n) _ (by omega) (by omega)).mono ?_
  rintro e w' ⟨rfl, hb⟩
  go_wp2
  go_ret3
  exact ⟨rfl, hb⟩

theorem below_ok (n rest den : Int) (w : World) (h1 : 0 ≤ n) (h2 : n < 1152921504606846976) (h3 : 0 < rest) (h4 : rest < den) (h5 : den ≤ 1152921504606846976) :
    Calls Tryz.prog 161 #[.int .i64 n, .int .i64 rest, .int .i64 den] w fun e w' => e = .returned (.tuple #[.int .i64 (-(n + 1)), .int .i64 (den - rest), .int .i64 0]) ∧ Below w.heap.size w w' := by
  go_enter Tryz.func161, Tryz.ntmps161
  go_wp2_with fail
  refine (bounded_ok (-(n + 1)) _ (by omega) (by omega)).mono ?_
  rintro e w' ⟨rfl, hb⟩
  go_wp2
  go_ret3
  exact ⟨rfl, hb⟩

theorem below_over (n rest den : Int) (w : World) (h1 : n = 1152921504606846976) (h3 : 0 < rest) (h4 : rest < den) (h5 : den ≤ 1152921504606846976) :
    Calls Tryz.prog 161 #[.int .i64 n, .int .i64 rest, .int .i64 den] w fun e w' => e = .returned (.tuple #[.int .i64 0, .int .i64 0, .int .i64 2]) ∧ Below w.heap.size w w' := by
  subst h1
  go_enter Tryz.func161, Tryz.ntmps161
  go_wp2_with fail
  refine (bounded_no _ _ (by omega)).mono ?_
  rintro e w' ⟨rfl, hb⟩
  go_wp2
  go_ret3
  exact ⟨rfl, hb⟩

-- Div64 where the high word is 0
theorem div64_low (lo y : Nat) (w : World) (h1 : lo < 18446744073709551616) (h2 : 0 < y) (h3 : y < 18446744073709551616) :
    Calls Tryz.prog 160 #[.int .u64 0, .int .u64 lo, .int .u64 y] w fun e w' => e = .returned (.tuple #[.int .u64 ((lo / y : Nat) : Int), .int .u64 ((lo % y : Nat) : Int)]) ∧ Below w.heap.size w w' := by
  have hy : ((y : Int) == 0) = false := beq_eq_false_iff_ne.2 (by omega)
  have hy2 : decide ((y : Int) ≤ 0) = false := by simp; omega
  go_enter Tryz.func160, Tryz.ntmps160
  go_wp2
  go_quiet (fail)
  go_wp2
  go_ret2
  refine ⟨ret_two (by rw [← Int.natCast_ediv]; exact Go.Proofs.Mul64.wrapN _ (Nat.lt_of_le_of_lt (Nat.div_le_self _ _) h1)) (by omega), bel_drewN (Below.refl _ _) _⟩

/-- what Div64 answers at a high word that is less than what it divides by -/
def DivSaid (p d : Nat) : Prop := ∀ w : World, Calls Tryz.prog 160 #[.int .u64 ((p / 18446744073709551616 : Nat) : Int), .int .u64 ((p % 18446744073709551616 : Nat) : Int), .int .u64 (d : Int)] w fun e w' => e = .returned (.tuple #[.int .u64 ((p / d : Nat) : Int), .int .u64 ((p % d : Nat) : Int)]) ∧ Below w.heap.size w w'

set_option maxHeartbeats 400000 in
theorem scale_same (a b : Int) (d : Nat) (w : World) (ha1 : -1152921504606846976 ≤ a) (ha2 : a ≤ 1152921504606846976) (hb1 : -1152921504606846976 ≤ b) (hb2 : b ≤ 1152921504606846976)
    (hd1 : 1 ≤ d) (hd2 : d ≤ 1152921504606846976) (hs : (a < 0 ↔ b < 0)) (hD : DivSaid (a.natAbs * b.natAbs) d) (hhi : a.natAbs * b.natAbs / 18446744073709551616 < d) (hq : a.natAbs * b.natAbs / d ≤ 1152921504606846976) :
    Calls Tryz.prog 142 #[.int .i64 a, .int .i64 b, .int .i64 d] w fun e w' => e = .returned (.tuple #[.int .i64 ((a.natAbs * b.natAbs / d : Nat) : Int), .int .i64 ((a.natAbs * b.natAbs % d : Nat) : Int), .int .i64 0]) ∧ Below w.heap.size w w' := by
  have hr : a.natAbs * b.natAbs % d < d := Nat.mod_lt _ hd1
  have hsb : (decide (a < 0) == decide (b < 0)) = true := by simp [hs]
  clear hs
  go_enter Tryz.func142, Tryz.ntmps142
  go_wp2_with fail
  refine (may_3 _ _ a b d true (by rw [timeB_yes ha1 ha2, timeB_yes hb1 hb2, timeB_yes (by omega) (by omega)]; rfl) _ (by simp) (by simp) (by simp)).mono ?_
  rintro e w' ⟨rfl, rfl⟩
  go_wp2_with fail
  refine (size_any a _ ha1 ha2).mono ?_
  rintro e w' ⟨rfl, rfl⟩
  go_wp2_with fail
  refine (size_any b _ hb1 hb2).mono ?_
  rintro e w' ⟨rfl, rfl⟩
  go_wp2_with fail
  refine (Tryz.bits_Mul64 a.natAbs b.natAbs (by omega) (by omega) _).mono ?_
  rintro e w' ⟨rfl, rfl⟩
  generalize hp : a.natAbs * b.natAbs = p at *
  have HP := hid hp
  clear hp
  go_wp2_with fail
  refine (hD _).mono ?_
  rintro e w' ⟨rfl, hb⟩
  generalize hqq : p / d = q at *
  have HQ := hid hqq
  clear hqq
  generalize hrr : p % d = r at *
  have HR := hid hrr
  clear hrr
  go_wp2
  go_ret3
  exact ⟨ret_three (by rw [HP.out, HQ.out]) (by rw [HP.out, HR.out]) rfl, ((Below.refl _ _).alloc (Nat.le_refl _) _).trans (hb.mono (by simp))⟩

set_option maxHeartbeats 400000 in
theorem scale_opp0 (a b : Int) (d : Nat) (w : World) (ha1 : -1152921504606846976 ≤ a) (ha2 : a ≤ 1152921504606846976) (hb1 : -1152921504606846976 ≤ b) (hb2 : b ≤ 1152921504606846976)
    (hd1 : 1 ≤ d) (hd2 : d ≤ 1152921504606846976) (hs : ¬ (a < 0 ↔ b < 0)) (hD : DivSaid (a.natAbs * b.natAbs) d) (hhi : a.natAbs * b.natAbs / 18446744073709551616 < d) (hq : a.natAbs * b.natAbs / d ≤ 1152921504606846976) (hr0 : a.natAbs * b.natAbs % d = 0) :
    Calls Tryz.prog 142 #[.int .i64 a, .int .i64 b, .int .i64 d] w fun e w' => e = .returned (.tuple #[.int .i64 (-((a.natAbs * b.natAbs / d : Nat) : Int)), .int .i64 0, .int .i64 0]) ∧ Below w.heap.size w w' := by
  have hr : a.natAbs * b.natAbs % d < d := Nat.mod_lt _ hd1
  have hsb : (decide (a < 0) == decide (b < 0)) = false := by rw [beq_eq_false_iff_ne, ne_eq, decide_eq_decide]; exact hs
  clear hs
  go_enter Tryz.func142, Tryz.ntmps142
  go_wp2_with fail
  refine (may_3 _ _ a b d true (by rw [timeB_yes ha1 ha2, timeB_yes hb1 hb2, timeB_yes (by omega) (by omega)]; rfl) _ (by simp) (by simp) (by simp)).mono ?_
  rintro e w' ⟨rfl, rfl⟩
  go_wp2_with fail
  refine (size_any a _ ha1 ha2).mono ?_
  rintro e w' ⟨rfl, rfl⟩
  go_wp2_with fail
  refine (size_any b _ hb1 hb2).mono ?_
  rintro e w' ⟨rfl, rfl⟩
  go_wp2_with fail
  refine (Tryz.bits_Mul64 a.natAbs b.natAbs (by omega) (by omega) _).mono ?_
  rintro e w' ⟨rfl, rfl⟩
  generalize hp : a.natAbs * b.natAbs = p at *
  have HP := hid hp
  clear hp
  go_wp2_with fail
  refine (hD _).mono ?_
  rintro e w' ⟨rfl, hb⟩
  generalize hqq : p / d = q at *
  have HQ := hid hqq
  clear hqq
  generalize hrr : p % d = r at *
  have HR := hid hrr
  clear hrr
  subst hr0
  go_wp2_with fail
  refine (below_zero_ok (q : Int) _ _ (by omega) (by omega)).mono ?_
  rintro e w' ⟨rfl, hb'⟩
  go_wp2
  go_ret3
  exact ⟨ret_three (by rw [HP.out, HQ.out]) rfl rfl, (((Below.refl _ _).alloc (Nat.le_refl _) _).trans (hb.mono (by simp))).trans (hb'.mono (by have := hb.size; simp at this; omega))⟩

set_option maxHeartbeats 400000 in
theorem scale_opp (a b : Int) (d : Nat) (w : World) (ha1 : -1152921504606846976 ≤ a) (ha2 : a ≤ 1152921504606846976) (hb1 : -1152921504606846976 ≤ b) (hb2 : b ≤ 1152921504606846976)
    (hd1 : 1 ≤ d) (hd2 : d ≤ 1152921504606846976) (hs : ¬ (a < 0 ↔ b < 0)) (hD : DivSaid (a.natAbs * b.natAbs) d) (hhi : a.natAbs * b.natAbs / 18446744073709551616 < d) (hq : a.natAbs * b.natAbs / d < 1152921504606846976) (hr0 : 0 < a.natAbs * b.natAbs % d) :
    Calls Tryz.prog 142 #[.int .i64 a, .int .i64 b, .int .i64 d] w fun e w' => e = .returned (.tuple #[.int .i64 (-(((a.natAbs * b.natAbs / d : Nat) : Int) + 1)), .int .i64 ((d : Int) - ((a.natAbs * b.natAbs % d : Nat) : Int)), .int .i64 0]) ∧ Below w.heap.size w w' := by
  have hr : a.natAbs * b.natAbs % d < d := Nat.mod_lt _ hd1
  have hsb : (decide (a < 0) == decide (b < 0)) = false := by rw [beq_eq_false_iff_ne, ne_eq, decide_eq_decide]; exact hs
  clear hs
  go_enter Tryz.func142, Tryz.ntmps142
  go_wp2_with fail
  refine (may_3 _ _ a b d true (by rw [timeB_yes ha1 ha2, timeB_yes hb1 hb2, timeB_yes (by omega) (by omega)]; rfl) _ (by simp) (by simp) (by simp)).mono ?_
  rintro e w' ⟨rfl, rfl⟩
  go_wp2_with fail
  refine (size_any a _ ha1 ha2).mono ?_
  rintro e w' ⟨rfl, rfl⟩
  go_wp2_with fail
  refine (size_any b _ hb1 hb2).mono ?_
  rintro e w' ⟨rfl, rfl⟩
  go_wp2_with fail
  refine (Tryz.bits_Mul64 a.natAbs b.natAbs (by omega) (by omega) _).mono ?_
  rintro e w' ⟨rfl, rfl⟩
  generalize hp : a.natAbs * b.natAbs = p at *
  have HP := hid hp
  clear hp
  go_wp2_with fail
  refine (hD _).mono ?_
  rintro e w' ⟨rfl, hb⟩
  generalize hqq : p / d = q at *
  have HQ := hid hqq
  clear hqq
  generalize hrr : p % d = r at *
  have HR := hid hrr
  clear hrr
  go_wp2_with fail
  refine (below_ok (q : Int) (r : Int) d _ (by omega) (by omega) (by omega) (by omega) (by omega)).mono ?_
  rintro e w' ⟨rfl, hb'⟩
  go_wp2
  go_ret3
  exact ⟨ret_three (by rw [HP.out, HQ.out]) (by rw [HP.out, HR.out]) rfl, (((Below.refl _ _).alloc (Nat.le_refl _) _).trans (hb.mono (by simp))).trans (hb'.mono (by have := hb.size; simp at this; omega))⟩

set_option maxHeartbeats 400000 in
theorem scale_opp_over (a b : Int) (d : Nat) (w : World) (ha1 : -1152921504606846976 ≤ a) (ha2 : a ≤ 1152921504606846976) (hb1 : -1152921504606846976 ≤ b) (hb2 : b ≤ 1152921504606846976)
    (hd1 : 1 ≤ d) (hd2 : d ≤ 1152921504606846976) (hs : ¬ (a < 0 ↔ b < 0)) (hD : DivSaid (a.natAbs * b.natAbs) d) (hhi : a.natAbs * b.natAbs / 18446744073709551616 < d) (hq : a.natAbs * b.natAbs / d = 1152921504606846976) (hr0 : 0 < a.natAbs * b.natAbs % d) :
    Calls Tryz.prog 142 #[.int .i64 a, .int .i64 b, .int .i64 d] w fun e w' => e = .returned (.tuple #[.int .i64 0, .int .i64 0, .int .i64 2]) ∧ Below w.heap.size w w' := by
  have hr : a.natAbs * b.natAbs % d < d := Nat.mod_lt _ hd1
  have hsb : (decide (a < 0) == decide (b < 0)) = false := by rw [beq_eq_false_iff_ne, ne_eq, decide_eq_decide]; exact hs
  clear hs
  go_enter Tryz.func142, Tryz.ntmps142
  go_wp2_with fail
  refine (may_3 _ _ a b d true (by rw [timeB_yes ha1 ha2, timeB_yes hb1 hb2, timeB_yes (by omega) (by omega)]; rfl) _ (by simp) (by simp) (by simp)).mono ?_
  rintro e w' ⟨rfl, rfl⟩
  go_wp2_with fail
  refine (size_any a _ ha1 ha2).mono ?_
  rintro e w' ⟨rfl, rfl⟩
  go_wp2_with fail
  refine (size_any b _ hb1 hb2).mono ?_
  rintro e w' ⟨rfl, rfl⟩
  go_wp2_with fail
  refine (Tryz.bits_Mul64 a.natAbs b.natAbs (by omega) (by omega) _).mono ?_
  rintro e w' ⟨rfl, rfl⟩
  generalize hp : a.natAbs * b.natAbs = p at *
  have HP := hid hp
  clear hp
  go_wp2_with fail
  refine (hD _).mono ?_
  rintro e w' ⟨rfl, hb⟩
  generalize hqq : p / d = q at *
  have HQ := hid hqq
  clear hqq
  generalize hrr : p % d = r at *
  have HR := hid hrr
  clear hrr
  subst hq
  go_wp2_with fail
  refine (below_over _ (r : Int) d _ rfl (by omega) (by omega) (by omega)).mono ?_
  rintro e w' ⟨rfl, hb'⟩
  go_wp2
  go_ret3
  exact ⟨rfl, (((Below.refl _ _).alloc (Nat.le_refl _) _).trans (hb.mono (by simp))).trans (hb'.mono (by have := hb.size; simp at this; omega))⟩

set_option maxHeartbeats 400000 in
theorem scale_over_hi (a b : Int) (d : Nat) (w : World) (ha1 : -1152921504606846976 ≤ a) (ha2 : a ≤ 1152921504606846976) (hb1 : -1152921504606846976 ≤ b) (hb2 : b ≤ 1152921504606846976)
    (hd1 : 1 ≤ d) (hd2 : d ≤ 1152921504606846976) (hhi : d ≤ a.natAbs * b.natAbs / 18446744073709551616) :
    Calls Tryz.prog 142 #[.int .i64 a, .int .i64 b, .int .i64 d] w fun e w' => e = .returned (.tuple #[.int .i64 0, .int .i64 0, .int .i64 2]) ∧ Below w.heap.size w w' := by
  go_enter Tryz.func142, Tryz.ntmps142
  go_wp2_with fail
  refine (may_3 _ _ a b d true (by rw [timeB_yes ha1 ha2, timeB_yes hb1 hb2, timeB_yes (by omega) (by omega)]; rfl) _ (by simp) (by simp) (by simp)).mono ?_
  rintro e w' ⟨rfl, rfl⟩
  go_wp2_with fail
  refine (size_any a _ ha1 ha2).mono ?_
  rintro e w' ⟨rfl, rfl⟩
  go_wp2_with fail
  refine (size_any b _ hb1 hb2).mono ?_
  rintro e w' ⟨rfl, rfl⟩
  go_wp2_with fail
  refine (Tryz.bits_Mul64 a.natAbs b.natAbs (by omega) (by omega) _).mono ?_
  rintro e w' ⟨rfl, rfl⟩
  generalize hp : a.natAbs * b.natAbs = p at *
  have HP := hid hp
  clear hp
  go_wp2
  go_ret3
  exact ⟨rfl, (Below.refl _ _).alloc (Nat.le_refl _) _⟩

set_option maxHeartbeats 400000 in
theorem scale_over (a b : Int) (d : Nat) (w : World) (ha1 : -1152921504606846976 ≤ a) (ha2 : a ≤ 1152921504606846976) (hb1 : -1152921504606846976 ≤ b) (hb2 : b ≤ 1152921504606846976)
    (hd1 : 1 ≤ d) (hd2 : d ≤ 1152921504606846976) (hD : DivSaid (a.natAbs * b.natAbs) d) (hhi : a.natAbs * b.natAbs / 18446744073709551616 < d) (hq : 1152921504606846976 < a.natAbs * b.natAbs / d) :
    Calls Tryz.prog 142 #[.int .i64 a, .int .i64 b, .int .i64 d] w fun e w' => e = .returned (.tuple #[.int .i64 0, .int .i64 0, .int .i64 2]) ∧ Below w.heap.size w w' := by
  go_enter Tryz.func142, Tryz.ntmps142
  go_wp2_with fail
  refine (may_3 _ _ a b d true (by rw [timeB_yes ha1 ha2, timeB_yes hb1 hb2, timeB_yes (by omega) (by omega)]; rfl) _ (by simp) (by simp) (by simp)).mono ?_
  rintro e w' ⟨rfl, rfl⟩
  go_wp2_with fail
  refine (size_any a _ ha1 ha2).mono ?_
  rintro e w' ⟨rfl, rfl⟩
  go_wp2_with fail
  refine (size_any b _ hb1 hb2).mono ?_
  rintro e w' ⟨rfl, rfl⟩
  go_wp2_with fail
  refine (Tryz.bits_Mul64 a.natAbs b.natAbs (by omega) (by omega) _).mono ?_
  rintro e w' ⟨rfl, rfl⟩
  generalize hp : a.natAbs * b.natAbs = p at *
  have HP := hid hp
  clear hp
  go_wp2_with fail
  refine (hD _).mono ?_
  rintro e w' ⟨rfl, hb⟩
  generalize hqq : p / d = q at *
  have HQ := hid hqq
  clear hqq
  generalize hrr : p % d = r at *
  have HR := hid hrr
  clear hrr
  go_wp2
  go_ret3
  exact ⟨rfl, ((Below.refl _ _).alloc (Nat.le_refl _) _).trans (hb.mono (by simp))⟩

set_option maxHeartbeats 400000 in
theorem scale_arg (a b d : Int) (w : World) (h : (timeB a && (timeB b && timeB d)) = false) :
    Calls Tryz.prog 142 #[.int .i64 a, .int .i64 b, .int .i64 d] w fun e w' => e = .returned (.tuple #[.int .i64 0, .int .i64 0, .int .i64 1]) ∧ Below w.heap.size w w' := by
  have H := hid h
  clear h
  go_enter Tryz.func142, Tryz.ntmps142
  go_wp2_with fail
  refine (may_3 _ _ a b d false H.out _ (by simp) (by simp) (by simp)).mono ?_
  rintro e w' ⟨rfl, rfl⟩
  go_wp2
  go_ret3
  exact ⟨rfl, (Below.refl _ _).alloc (Nat.le_refl _) _⟩

set_option maxHeartbeats 400000 in
theorem scale_arg_den (a b d : Int) (w : World) (h : (timeB a && (timeB b && timeB d)) = true) (hd : d < 1) :
    Calls Tryz.prog 142 #[.int .i64 a, .int .i64 b, .int .i64 d] w fun e w' => e = .returned (.tuple #[.int .i64 0, .int .i64 0, .int .i64 1]) ∧ Below w.heap.size w w' := by
  have H := hid h
  clear h
  go_enter Tryz.func142, Tryz.ntmps142
  go_wp2_with fail
  refine (may_3 _ _ a b d true H.out _ (by simp) (by simp) (by simp)).mono ?_
  rintro e w' ⟨rfl, rfl⟩
  go_wp2
  go_ret3
  exact ⟨rfl, (Below.refl _ _).alloc (Nat.le_refl _) _⟩
end Go.Proofs.YtkfnkieljcipnaaGreatDoor

/-! C -/
namespace Go.Proofs.YtkfnkieljcipnaaGreatDoor
open Go Go.RowKit Go.Joins

def unitCells : Array Value := #[.string ⟨#[112, 115]⟩, .int .i64 1, .string ⟨#[110, 115]⟩, .int .i64 1000, .string ⟨#[117, 115]⟩, .int .i64 1000000, .string ⟨#[109, 115]⟩, .int .i64 1000000000, .string ⟨#[115]⟩, .int .i64 1000000000000]
theorem gUnits : Tryz.prog.globalNamed "pallet/pico.units" = some 1 := by kernel_rfl
theorem gPow : Tryz.prog.globalNamed "internal/strconv.uint64pow10" = some 5 := by kernel_rfl
theorem gFirst : Tryz.prog.globalNamed "pallet/lex.first" = some 0 := by kernel_rfl
structure LaidW (w : World) : Prop where
  first : w.var? Tryz.prog "pallet/lex.first" = some #[.int .i64 1, .int .i64 1]
  utf : Lib.Utf8Tabs 2 3 w
  units : w.var? Tryz.prog "pallet/pico.units" = some unitCells
  pow : Lib.TabIs Tryz.prog w "internal/strconv.uint64pow10" .u64 Lib.pow10Tab
theorem utf_below {w w' : World} {a b : Nat} (h : Lib.Utf8Tabs a b w) (hb : Below w.heap.size w w') : Lib.Utf8Tabs a b w' := by
  have hlt : ∀ {g : Nat} {v : Value}, w.cell? ⟨g, 0, none⟩ = some v → g < w.heap.size := fun h => World.block_lt_of_cell? w _ h
  have ha := hlt (h.1 0 (by omega))
  have hb' : b < w.heap.size := hlt (h.2 0 (by omega)).1
  refine ⟨fun c hc => (hb.cell (p := ⟨a, c, none⟩) ha).trans (h.1 c hc), fun i hi => ⟨(hb.cell (p := ⟨b, 2 * i, none⟩) hb').trans (h.2 i hi).1, (hb.cell (p := ⟨b, 2 * i + 1, none⟩) hb').trans (h.2 i hi).2⟩⟩
theorem LaidW.below {w w' : World} (h : LaidW w) (hb : Below w.heap.size w w') : LaidW w' :=
  ⟨var_stays gFirst h.first hb (Nat.le_refl _), utf_below h.utf hb, var_stays gUnits h.units hb (Nat.le_refl _), var_stays gPow h.pow hb (Nat.le_refl _)⟩
theorem LaidW.block {w : World} (h : LaidW w) : ∃ t fr, w.heap[1]? = some (.cells unitCells t fr) := by
  have hu := h.units
  unfold World.var? at hu
  rw [gUnits] at hu
  simp only [Option.bind_some] at hu
  split at hu
  · rename_i cs t fr hh
    cases hu
    exact ⟨t, fr, hh⟩
  · cases hu

theorem LaidW.cells {w : World} (h : LaidW w) : w.cell? ⟨1, 0, none⟩ = some (.string ⟨#[112, 115]⟩) ∧ w.cell? ⟨1, 1, none⟩ = some (.int .i64 1) ∧ w.cell? ⟨1, 2, none⟩ = some (.string ⟨#[110, 115]⟩) ∧ w.cell? ⟨1, 3, none⟩ = some (.int .i64 1000) ∧ w.cell? ⟨1, 4, none⟩ = some (.string ⟨#[117, 115]⟩) ∧ w.cell? ⟨1, 5, none⟩ = some (.int .i64 1000000) ∧ w.cell? ⟨1, 6, none⟩ = some (.string ⟨#[109, 115]⟩) ∧ w.cell? ⟨1, 7, none⟩ = some (.int .i64 1000000000) ∧ w.cell? ⟨1, 8, none⟩ = some (.string ⟨#[115]⟩) ∧ w.cell? ⟨1, 9, none⟩ = some (.int .i64 1000000000000) := by
  obtain ⟨t0, fr, hg⟩ := h.block
  refine ⟨?_, ?_, ?_, ?_, ?_, ?_, ?_, ?_, ?_, ?_⟩ <;> (rw [cell_of_row w 1 _ _ t0 fr hg]; rfl)
theorem LaidW.pos {w : World} (h : LaidW w) : 1 < w.heap.size := by
  obtain ⟨t0, fr, hg⟩ := h.block
  rcases Nat.lt_or_ge 1 w.heap.size with h | h
  · exact h
  · rw [Array.getElem?_eq_none h] at hg; cases hg

theorem unit_at0 (w : World) : (Instr.index 150 (.agg #[.string ⟨#[112, 115]⟩, .int .i64 1, .string ⟨#[110, 115]⟩, .int .i64 1000, .string ⟨#[117, 115]⟩, .int .i64 1000000, .string ⟨#[109, 115]⟩, .int .i64 1000000000, .string ⟨#[115]⟩, .int .i64 1000000000000]) (.int .i64 0)).run Tryz.prog w = .ok (.agg #[.string ⟨#[112, 115]⟩, .int .i64 1]) w := by kernel_rfl
theorem unit_at1 (w : World) : (Instr.index 150 (.agg #[.string ⟨#[112, 115]⟩, .int .i64 1, .string ⟨#[110, 115]⟩, .int .i64 1000, .string ⟨#[117, 115]⟩, .int .i64 1000000, .string ⟨#[109, 115]⟩, .int .i64 1000000000, .string ⟨#[115]⟩, .int .i64 1000000000000]) (.int .i64 1)).run Tryz.prog w = .ok (.agg #[.string ⟨#[110, 115]⟩, .int .i64 1000]) w := by kernel_rfl
theorem unit_at2 (w : World) : (Instr.index 150 (.agg #[.string ⟨#[112, 115]⟩, .int .i64 1, .string ⟨#[110, 115]⟩, .int .i64 1000, .string ⟨#[117, 115]⟩, .int .i64 1000000, .string ⟨#[109, 115]⟩, .int .i64 1000000000, .string ⟨#[115]⟩, .int .i64 1000000000000]) (.int .i64 2)).run Tryz.prog w = .ok (.agg #[.string ⟨#[117, 115]⟩, .int .i64 1000000]) w := by kernel_rfl
theorem unit_at3 (w : World) : (Instr.index 150 (.agg #[.string ⟨#[112, 115]⟩, .int .i64 1, .string ⟨#[110, 115]⟩, .int .i64 1000, .string ⟨#[117, 115]⟩, .int .i64 1000000, .string ⟨#[109, 115]⟩, .int .i64 1000000000, .string ⟨#[115]⟩, .int .i64 1000000000000]) (.int .i64 3)).run Tryz.prog w = .ok (.agg #[.string ⟨#[109, 115]⟩, .int .i64 1000000000]) w := by kernel_rfl
theorem unit_at4 (w : World) : (Instr.index 150 (.agg #[.string ⟨#[112, 115]⟩, .int .i64 1, .string ⟨#[110, 115]⟩, .int .i64 1000, .string ⟨#[117, 115]⟩, .int .i64 1000000, .string ⟨#[109, 115]⟩, .int .i64 1000000000, .string ⟨#[115]⟩, .int .i64 1000000000000]) (.int .i64 4)).run Tryz.prog w = .ok (.agg #[.string ⟨#[115]⟩, .int .i64 1000000000000]) w := by kernel_rfl

set_option maxRecDepth 100000 in
theorem greatest_zero (w : World) (hL : LaidW w)  :
    Calls Tryz.prog 119 #[.int .i64 0] w fun e w' => e = .returned (.agg #[.string ⟨#[112, 115]⟩, .int .i64 1]) ∧ Below w.heap.size w w' := by
  obtain ⟨c0, c1, c2, c3, c4, c5, c6, c7, c8, c9⟩ := hL.cells
  have hsz := hL.pos
  have hsz0 : 0 < w.heap.size := Nat.lt_of_le_of_lt (Nat.zero_le _) hsz
  clear hL
  have i0 := unit_at0
  have i1 := unit_at1
  have i2 := unit_at2
  have i3 := unit_at3
  have i4 := unit_at4
  go_enter Tryz.func119, Tryz.ntmps119
  go_wp2
  refine wp_loop_rounds 6 ?_
  rw [rounds_succ]
  go_wp2
  rw [rounds_succ]
  go_wp2
  rw [rounds_succ]
  go_wp2
  rw [rounds_succ]
  go_wp2
  rw [rounds_succ]
  go_wp2
  rw [rounds_succ]
  go_wp2
  exact bodyPost_ret (v := .agg #[.string ⟨#[112, 115]⟩, .int .i64 1]) (by simp [results, Tryz.results119, go_sem]) rfl ⟨rfl, (((((((Below.refl _ _).alloc (Nat.le_refl _) _).alloc (by simp) _).alloc (by simp; omega) _).alloc (by simp; omega) _).alloc (by simp; omega) _).alloc (by simp; omega) _).alloc (by simp; omega) _⟩

set_option maxRecDepth 100000 in
theorem greatest_0 (t : Int) (w : World) (hL : LaidW w) (hz : (t != 0) = true) (h1 : (t.tmod 1000 == 0) = false) (h2 : (t.tmod 1000000 == 0) = false) (h3 : (t.tmod 1000000000 == 0) = false) (h4 : (t.tmod 1000000000000 == 0) = false) :
    Calls Tryz.prog 119 #[.int .i64 t] w fun e w' => e = .returned (.agg #[.string ⟨#[112, 115]⟩, .int .i64 1]) ∧ Below w.heap.size w w' := by
  obtain ⟨c0, c1, c2, c3, c4, c5, c6, c7, c8, c9⟩ := hL.cells
  have hsz := hL.pos
  have hsz0 : 0 < w.heap.size := Nat.lt_of_le_of_lt (Nat.zero_le _) hsz
  clear hL
  have i0 := unit_at0
  have i1 := unit_at1
  have i2 := unit_at2
  have i3 := unit_at3
  have i4 := unit_at4
  go_enter Tryz.func119, Tryz.ntmps119
  go_wp2
  refine wp_loop_rounds 6 ?_
  rw [rounds_succ]
  go_wp2
  rw [rounds_succ]
  go_wp2
  rw [rounds_succ]
  go_wp2
  rw [rounds_succ]
  go_wp2
  rw [rounds_succ]
  go_wp2
  rw [rounds_succ]
  go_wp2
  exact bodyPost_ret (v := .agg #[.string ⟨#[112, 115]⟩, .int .i64 1]) (by simp [results, Tryz.results119, go_sem]) rfl ⟨rfl, (((((((Below.refl _ _).alloc (Nat.le_refl _) _).alloc (by simp) _).alloc (by simp; omega) _).alloc (by simp; omega) _).alloc (by simp; omega) _).alloc (by simp; omega) _).alloc (by simp; omega) _⟩

set_option maxRecDepth 100000 in
theorem greatest_1 (t : Int) (w : World) (hL : LaidW w) (hz : (t != 0) = true) (h1 : (t.tmod 1000 == 0) = true) (h2 : (t.tmod 1000000 == 0) = false) (h3 : (t.tmod 1000000000 == 0) = false) (h4 : (t.tmod 1000000000000 == 0) = false) :
    Calls Tryz.prog 119 #[.int .i64 t] w fun e w' => e = .returned (.agg #[.string ⟨#[110, 115]⟩, .int .i64 1000]) ∧ Below w.heap.size w w' := by
  obtain ⟨c0, c1, c2, c3, c4, c5, c6, c7, c8, c9⟩ := hL.cells
  have hsz := hL.pos
  have hsz0 : 0 < w.heap.size := Nat.lt_of_le_of_lt (Nat.zero_le _) hsz
  clear hL
  have i0 := unit_at0
  have i1 := unit_at1
  have i2 := unit_at2
  have i3 := unit_at3
  have i4 := unit_at4
  go_enter Tryz.func119, Tryz.ntmps119
  go_wp2
  refine wp_loop_rounds 6 ?_
  rw [rounds_succ]
  go_wp2
  rw [rounds_succ]
  go_wp2
  rw [rounds_succ]
  go_wp2
  rw [rounds_succ]
  go_wp2
  rw [rounds_succ]
  go_wp2
  rw [rounds_succ]
  go_wp2
  exact bodyPost_ret (v := .agg #[.string ⟨#[110, 115]⟩, .int .i64 1000]) (by simp [results, Tryz.results119, go_sem]) rfl ⟨rfl, (((((((Below.refl _ _).alloc (Nat.le_refl _) _).alloc (by simp) _).alloc (by simp; omega) _).alloc (by simp; omega) _).alloc (by simp; omega) _).alloc (by simp; omega) _).alloc (by simp; omega) _⟩

set_option maxRecDepth 100000 in
theorem greatest_2 (t : Int) (w : World) (hL : LaidW w) (hz : (t != 0) = true) (h1 : (t.tmod 1000 == 0) = true) (h2 : (t.tmod 1000000 == 0) = true) (h3 : (t.tmod 1000000000 == 0) = false) (h4 : (t.tmod 1000000000000 == 0) = false) :
    Calls Tryz.prog 119 #[.int .i64 t] w fun e w' => e = .returned (.agg #[.string ⟨#[117, 115]⟩, .int .i64 1000000]) ∧ Below w.heap.size w w' := by
  obtain ⟨c0, c1, c2, c3, c4, c5, c6, c7, c8, c9⟩ := hL.cells
  have hsz := hL.pos
  have hsz0 : 0 < w.heap.size := Nat.lt_of_le_of_lt (Nat.zero_le _) hsz
  clear hL
  have i0 := unit_at0
  have i1 := unit_at1
  have i2 := unit_at2
  have i3 := unit_at3
  have i4 := unit_at4
  go_enter Tryz.func119, Tryz.ntmps119
  go_wp2
  refine wp_loop_rounds 6 ?_
  rw [rounds_succ]
  go_wp2
  rw [rounds_succ]
  go_wp2
  rw [rounds_succ]
  go_wp2
  rw [rounds_succ]
  go_wp2
  rw [rounds_succ]
  go_wp2
  rw [rounds_succ]
  go_wp2
  exact bodyPost_ret (v := .agg #[.string ⟨#[117, 115]⟩, .int .i64 1000000]) (by simp [results, Tryz.results119, go_sem]) rfl ⟨rfl, (((((((Below.refl _ _).alloc (Nat.le_refl _) _).alloc (by simp) _).alloc (by simp; omega) _).alloc (by simp; omega) _).alloc (by simp; omega) _).alloc (by simp; omega) _).alloc (by simp; omega) _⟩

set_option maxRecDepth 100000 in
theorem greatest_3 (t : Int) (w : World) (hL : LaidW w) (hz : (t != 0) = true) (h1 : (t.tmod 1000 == 0) = true) (h2 : (t.tmod 1000000 == 0) = true) (h3 : (t.tmod 1000000000 == 0) = true) (h4 : (t.tmod 1000000000000 == 0) = false) :
    Calls Tryz.prog 119 #[.int .i64 t] w fun e w' => e = .returned (.agg #[.string ⟨#[109, 115]⟩, .int .i64 1000000000]) ∧ Below w.heap.size w w' := by
  obtain ⟨c0, c1, c2, c3, c4, c5, c6, c7, c8, c9⟩ := hL.cells
  have hsz := hL.pos
  have hsz0 : 0 < w.heap.size := Nat.lt_of_le_of_lt (Nat.zero_le _) hsz
  clear hL
  have i0 := unit_at0
  have i1 := unit_at1
  have i2 := unit_at2
  have i3 := unit_at3
  have i4 := unit_at4
  go_enter Tryz.func119, Tryz.ntmps119
  go_wp2
  refine wp_loop_rounds 6 ?_
  rw [rounds_succ]
  go_wp2
  rw [rounds_succ]
  go_wp2
  rw [rounds_succ]
  go_wp2
  rw [rounds_succ]
  go_wp2
  rw [rounds_succ]
  go_wp2
  rw [rounds_succ]
  go_wp2
  exact bodyPost_ret (v := .agg #[.string ⟨#[109, 115]⟩, .int .i64 1000000000]) (by simp [results, Tryz.results119, go_sem]) rfl ⟨rfl, (((((((Below.refl _ _).alloc (Nat.le_refl _) _).alloc (by simp) _).alloc (by simp; omega) _).alloc (by simp; omega) _).alloc (by simp; omega) _).alloc (by simp; omega) _).alloc (by simp; omega) _⟩

set_option maxRecDepth 100000 in
theorem greatest_4 (t : Int) (w : World) (hL : LaidW w) (hz : (t != 0) = true) (h1 : (t.tmod 1000 == 0) = true) (h2 : (t.tmod 1000000 == 0) = true) (h3 : (t.tmod 1000000000 == 0) = true) (h4 : (t.tmod 1000000000000 == 0) = true) :
    Calls Tryz.prog 119 #[.int .i64 t] w fun e w' => e = .returned (.agg #[.string ⟨#[115]⟩, .int .i64 1000000000000]) ∧ Below w.heap.size w w' := by
  obtain ⟨c0, c1, c2, c3, c4, c5, c6, c7, c8, c9⟩ := hL.cells
  have hsz := hL.pos
  have hsz0 : 0 < w.heap.size := Nat.lt_of_le_of_lt (Nat.zero_le _) hsz
  clear hL
  have i0 := unit_at0
  have i1 := unit_at1
  have i2 := unit_at2
  have i3 := unit_at3
  have i4 := unit_at4
  go_enter Tryz.func119, Tryz.ntmps119
  go_wp2
  refine wp_loop_rounds 6 ?_
  rw [rounds_succ]
  go_wp2
  rw [rounds_succ]
  go_wp2
  rw [rounds_succ]
  go_wp2
  rw [rounds_succ]
  go_wp2
  rw [rounds_succ]
  go_wp2
  rw [rounds_succ]
  go_wp2
  exact bodyPost_ret (v := .agg #[.string ⟨#[115]⟩, .int .i64 1000000000000]) (by simp [results, Tryz.results119, go_sem]) rfl ⟨rfl, (((((((Below.refl _ _).alloc (Nat.le_refl _) _).alloc (by simp) _).alloc (by simp; omega) _).alloc (by simp; omega) _).alloc (by simp; omega) _).alloc (by simp; omega) _).alloc (by simp; omega) _⟩

end Go.Proofs.YtkfnkieljcipnaaGreatDoor

/-! D -/
namespace Go.Proofs.YtkfnkieljcipnaaGreatDoor
open Go Go.RowKit Go.Joins

theorem fmt_any (n : Int) (w : World) (hL : LaidW w) (h0 : -9223372036854775808 ≤ n) (h1 : n ≤ 9223372036854775807) :
    Calls Tryz.prog 106 #[.int .i64 n, .int .i64 10] w fun e w' => e = .returned (.string ⟨(Lib.itoa n).toArray⟩) ∧ Below w.heap.size w w' := by
  refine (Tryz.strconv_FormatInt_10 n h0 h1 w hL.pow).mono ?_
  rintro e w' ⟨rfl, k, os, rfl⟩
  exact ⟨rfl, Lib.below_grow _ _ (Nat.le_refl _) _ _⟩

theorem tdiv_range (t ps : Int) (h1 : -1152921504606846976 ≤ t) (h2 : t ≤ 1152921504606846976) : -1152921504606846976 ≤ t.tdiv ps ∧ t.tdiv ps ≤ 1152921504606846976 := by
  have h := Int.natAbs_tdiv t ps
  have h' : t.natAbs / ps.natAbs ≤ t.natAbs := Nat.div_le_self _ _
  have h3 : (t.tdiv ps).natAbs ≤ t.natAbs := by rw [h]; exact h'
  omega

theorem decDigits_le (u : Nat) : (Lib.decDigits u).length ≤ u + 1 := by
  induction u using Nat.strongRecOn with
  | ind u ih =>
    unfold Lib.decDigits
    split
    · simp
    · have := ih (u / 10) (by omega)
      simp only [List.length_append, List.length_cons, List.length_nil]
      omega
theorem itoa_le (n : Int) : (Lib.itoa n).length ≤ n.natAbs + 2 := by
  unfold Lib.itoa
  split
  · have := decDigits_le n.natAbs
    simp only [List.length_cons]; omega
  · have := decDigits_le n.toNat
    omega

def GreatestSaid (t : Int) (nm : ByteArray) (ps : Int) : Prop := ∀ w : World, LaidW w → Calls Tryz.prog 119 #[.int .i64 t] w fun e w' => e = .returned (.agg #[.string nm, .int .i64 ps]) ∧ Below w.heap.size w w'

set_option maxRecDepth 100000 in
theorem text_ok (t ps : Int) (nm : ByteArray) (w : World) (hL : LaidW w) (h1 : -1152921504606846976 ≤ t) (h2 : t ≤ 1152921504606846976) (hp1 : 0 < ps) (hnm : nm.size ≤ 2) (hG : GreatestSaid t nm ps) :
    Calls Tryz.prog 107 #[.int .i64 t] w fun e w' => e = .returned (.tuple #[.string (⟨(Lib.itoa (t.tdiv ps)).toArray⟩ ++ nm), .int .i64 0]) ∧ Below w.heap.size w w' := by
  go_enter Tryz.func107, Tryz.ntmps107
  go_wp2_with fail
  refine (may_1 _ _ t true (timeB_yes h1 h2) _ (by simp)).mono ?_
  rintro e w' ⟨rfl, rfl⟩
  go_wp2_with fail
  refine (hG _ (hL.below ((Below.refl _ _).alloc (Nat.le_refl _) _))).mono ?_
  rintro e w1 ⟨rfl, hb⟩
  go_wp2_with fail
  have hLW : LaidW (w1.alloc (Obj.cells #[Value.string nm, Value.int IntKind.i64 ps] 149)) := ((hL.below ((Below.refl _ _).alloc (Nat.le_refl _) _)).below hb).below ((Below.refl _ _).alloc (Nat.le_refl _) _)
  have hc0 : (w1.alloc (Obj.cells #[Value.string nm, Value.int IntKind.i64 ps] 149)).cell? ⟨w1.heap.size, 0, none⟩ = some (.string nm) := by simp
  have hc1 : (w1.alloc (Obj.cells #[Value.string nm, Value.int IntKind.i64 ps] 149)).cell? ⟨w1.heap.size, 1, none⟩ = some (.int .i64 ps) := by simp
  have hB : w1.heap.size < (w1.alloc (Obj.cells #[Value.string nm, Value.int IntKind.i64 ps] 149)).heap.size := by simp
  have HbW : Hid (Below w.heap.size w (w1.alloc (Obj.cells #[Value.string nm, Value.int IntKind.i64 ps] 149))) := hid ((((Below.refl _ _).alloc (Nat.le_refl _) _).trans (hb.mono (by simp))).alloc (by have := hb.size; simp at this; omega) _)
  have hdiv : IntKind.i64.wrap (t.tdiv ps) = t.tdiv ps := IntWalk.i64_quo' t ps ⟨by omega, by omega, by omega⟩
  have HD := hid hdiv
  clear hdiv
  have hlo : -9223372036854775808 ≤ t.tdiv ps ∧ t.tdiv ps ≤ 9223372036854775807 := by have := tdiv_range t ps h1 h2; omega
  have hnz : ¬ ps = 0 := by omega
  clear hb
  generalize w1.alloc (Obj.cells #[Value.string nm, Value.int IntKind.i64 ps] 149) = W at *
  generalize w1.heap.size = B at *
  have k0 := cell_regrown hc0
  have k1 := cell_regrown hc1
  have cF : ∀ d os, Calls Tryz.prog 106 #[.int .i64 (IntKind.i64.wrap (t.tdiv ps)), .int .i64 10] (Sort.grow (redrawn W d) os) fun e w'' => e = .returned (.string ⟨(Lib.itoa (t.tdiv ps)).toArray⟩) ∧ ∃ p : Regrown, w'' = Sort.grow (redrawn W p.d) p.os := fun d os => by
    rw [HD.out]
    exact Calls.regrown_of (fmt_any _ _ (hLW.below (below_regrown W d os)) hlo.1 hlo.2)
  have hlen := itoa_le (t.tdiv ps)
  have hrng := tdiv_range t ps h1 h2
  have n1 : ¬ 9223372036854775807 < (⟨(Lib.itoa (t.tdiv ps)).toArray⟩ : ByteArray).size + nm.size := by simp only [ByteArray.size, List.size_toArray] at hnm ⊢; omega
  clear hlo hLW hlen hrng hL
  generalize hsx : (⟨(Lib.itoa (t.tdiv ps)).toArray⟩ : ByteArray) = sx at *
  have HS := hid hsx
  clear hsx
  refine wp_region_quiet_below (by kernel_rfl) (by kernel_rfl) ?_
  repeat (quiet_step (exact cF _ _))
  refine wpQuiet_nil ?_
  intro _ hw'
  obtain ⟨⟨dq, osq⟩, hw''⟩ := hw'
  subst hw''
  go_wp2
  refine bodyPost_ret (v := .tuple #[.string (sx ++ nm), .int .i64 0]) (by simp [results, Tryz.results107, go_sem]) rfl ⟨by rw [HS.out], HbW.out.trans (below_regrown W dq osq |>.mono HbW.out.size)⟩

theorem text_no (t : Int) (w : World) (h : t < -1152921504606846976 ∨ 1152921504606846976 < t) :
    Calls Tryz.prog 107 #[.int .i64 t] w fun e w' => e = .returned (.tuple #[.string ⟨#[]⟩, .int .i64 1]) ∧ Below w.heap.size w w' := by
  have H := hid h
  clear h
  go_enter Tryz.func107, Tryz.ntmps107
  go_wp2_with fail
  refine (may_1 _ _ t false (timeB_no H.out) _ (by simp)).mono ?_
  rintro e w' ⟨rfl, rfl⟩
  go_wp2
  go_ret2
  exact ⟨rfl, (Below.refl _ _).alloc (Nat.le_refl _) _⟩

/-- the five units -/
def UnitIs (nm : ByteArray) (ps : Int) : Prop :=
  (nm = ⟨#[112, 115]⟩ ∧ ps = 1) ∨ (nm = ⟨#[110, 115]⟩ ∧ ps = 1000) ∨ (nm = ⟨#[117, 115]⟩ ∧ ps = 1000000) ∨ (nm = ⟨#[109, 115]⟩ ∧ ps = 1000000000) ∨ (nm = ⟨#[115]⟩ ∧ ps = 1000000000000)

theorem tm (t : Int) (p : Int) (h : t.tmod p = 0) : (t.tmod p == 0) = true := by simp [h]
theorem tmn (t : Int) (p : Int) (h : ¬ t.tmod p = 0) : (t.tmod p == 0) = false := by simp [h]
theorem tmod_dvd {t p : Int} (h : t.tmod p = 0) : p ∣ t := Int.dvd_of_tmod_eq_zero h
theorem dvd_tmod {t p : Int} (h : p ∣ t) : t.tmod p = 0 := Int.tmod_eq_zero_of_dvd h

theorem greatest_some (t : Int) : ∃ nm ps, UnitIs nm ps ∧ t.tdiv ps * ps = t ∧ GreatestSaid t nm ps := by
  by_cases h0 : t = 0
  · subst h0
    exact ⟨_, _, .inl ⟨rfl, rfl⟩, by decide, fun w hL => greatest_zero w hL⟩
  have hz : (t != 0) = true := by simp [h0]
  by_cases h1 : t.tmod 1000 = 0
  · by_cases h2 : t.tmod 1000000 = 0
    · by_cases h3 : t.tmod 1000000000 = 0
      · by_cases h4 : t.tmod 1000000000000 = 0
        · exact ⟨_, _, .inr (.inr (.inr (.inr ⟨rfl, rfl⟩))), by have := Int.tdiv_mul_cancel (tmod_dvd h4); exact this, fun w hL => greatest_4 t w hL hz (tm _ _ h1) (tm _ _ h2) (tm _ _ h3) (tm _ _ h4)⟩
        · exact ⟨_, _, .inr (.inr (.inr (.inl ⟨rfl, rfl⟩))), by have := Int.tdiv_mul_cancel (tmod_dvd h3); exact this, fun w hL => greatest_3 t w hL hz (tm _ _ h1) (tm _ _ h2) (tm _ _ h3) (tmn _ _ h4)⟩
      · have h4 : ¬ t.tmod 1000000000000 = 0 := fun h => h3 (dvd_tmod (Int.dvd_trans ⟨1000, by decide⟩ (tmod_dvd h)))
        exact ⟨_, _, .inr (.inr (.inl ⟨rfl, rfl⟩)), by have := Int.tdiv_mul_cancel (tmod_dvd h2); exact this, fun w hL => greatest_2 t w hL hz (tm _ _ h1) (tm _ _ h2) (tmn _ _ h3) (tmn _ _ h4)⟩
    · have h3 : ¬ t.tmod 1000000000 = 0 := fun h => h2 (dvd_tmod (Int.dvd_trans ⟨1000, by decide⟩ (tmod_dvd h)))
      have h4 : ¬ t.tmod 1000000000000 = 0 := fun h => h2 (dvd_tmod (Int.dvd_trans ⟨1000000, by decide⟩ (tmod_dvd h)))
      exact ⟨_, _, .inr (.inl ⟨rfl, rfl⟩), by have := Int.tdiv_mul_cancel (tmod_dvd h1); exact this, fun w hL => greatest_1 t w hL hz (tm _ _ h1) (tmn _ _ h2) (tmn _ _ h3) (tmn _ _ h4)⟩
  · have h2 : ¬ t.tmod 1000000 = 0 := fun h => h1 (dvd_tmod (Int.dvd_trans ⟨1000, by decide⟩ (tmod_dvd h)))
    have h3 : ¬ t.tmod 1000000000 = 0 := fun h => h1 (dvd_tmod (Int.dvd_trans ⟨1000000, by decide⟩ (tmod_dvd h)))
    have h4 : ¬ t.tmod 1000000000000 = 0 := fun h => h1 (dvd_tmod (Int.dvd_trans ⟨1000000000, by decide⟩ (tmod_dvd h)))
    exact ⟨_, _, .inl ⟨rfl, rfl⟩, by simp, fun w hL => greatest_0 t w hL hz (tmn _ _ h1) (tmn _ _ h2) (tmn _ _ h3) (tmn _ _ h4)⟩

theorem unit_size {nm : ByteArray} {ps : Int} (h : UnitIs nm ps) : 0 < ps ∧ nm.size ≤ 2 := by
  rcases h with ⟨rfl, rfl⟩ | ⟨rfl, rfl⟩ | ⟨rfl, rfl⟩ | ⟨rfl, rfl⟩ | ⟨rfl, rfl⟩ <;> decide

theorem text_5000 (w : World) (hL : LaidW w) : Calls Tryz.prog 107 #[.int .i64 5000] w fun e w' => e = .returned (.tuple #[.string ⟨#[53, 110, 115]⟩, .int .i64 0]) ∧ Below w.heap.size w w' := by
  have hs : (⟨(Lib.itoa ((5000 : Int).tdiv 1000)).toArray⟩ ++ ⟨#[110, 115]⟩ : ByteArray) = ⟨#[53, 110, 115]⟩ := by decide +kernel
  refine (text_ok 5000 1000 ⟨#[110, 115]⟩ w hL (by omega) (by omega) (by omega) (by decide) (fun w hL => greatest_1 5000 w hL rfl rfl rfl rfl rfl)).mono ?_
  rintro e w' ⟨rfl, hb⟩
  exact ⟨by rw [hs], hb⟩

theorem div_low (p d : Nat) (h : p < 18446744073709551616) (hd : 1 ≤ d) (hd2 : d < 18446744073709551616) : DivSaid p d := fun w => by
  have e1 : p / 18446744073709551616 = 0 := Nat.div_eq_of_lt h
  have e2 : p % 18446744073709551616 = p := Nat.mod_eq_of_lt h
  rw [e1, e2]
  exact div64_low p d w h hd hd2

end Go.Proofs.YtkfnkieljcipnaaGreatDoor

/-! E -/
namespace Go.Proofs.YtkfnkieljcipnaaGreatDoor
open Go Go.RowKit Go.Joins

theorem same_mul (a b : Int) (h : a < 0 ↔ b < 0) : a * b = ((a.natAbs * b.natAbs : Nat) : Int) := by
  rw [Int.natCast_mul]
  by_cases ha : a < 0
  · have hb := h.1 ha
    rw [show (a.natAbs : Int) = -a by omega, show (b.natAbs : Int) = -b by omega, Int.neg_mul_neg]
  · have hb : ¬ b < 0 := fun x => ha (h.2 x)
    rw [show (a.natAbs : Int) = a by omega, show (b.natAbs : Int) = b by omega]
theorem opp_mul (a b : Int) (h : ¬ (a < 0 ↔ b < 0)) : a * b = -((a.natAbs * b.natAbs : Nat) : Int) := by
  rw [Int.natCast_mul]
  by_cases ha : a < 0
  · have hb : ¬ b < 0 := fun x => h ⟨fun _ => x, fun _ => ha⟩
    rw [show (a.natAbs : Int) = -a by omega, show (b.natAbs : Int) = b by omega, Int.neg_mul, Int.neg_neg]
  · have hb : b < 0 := Classical.byContradiction fun x => h ⟨fun y => absurd y ha, fun y => absurd y x⟩
    rw [show (a.natAbs : Int) = a by omega, show (b.natAbs : Int) = -b by omega, Int.mul_neg, Int.neg_neg]

/-- division of a number below 0, down -/
theorem neg_div0 (p d : Nat) (hd : 1 ≤ d) (h : p % d = 0) : -(p : Int) / (d : Int) = -((p / d : Nat) : Int) ∧ -(p : Int) % (d : Int) = 0 := by
  have e : p = d * (p / d) := by have := Nat.div_add_mod p d; omega
  generalize p / d = q at *
  subst e
  have hd0 : (d : Int) ≠ 0 := by omega
  refine ⟨?_, ?_⟩
  · rw [show (-((d * q : Nat) : Int)) = (d : Int) * (-(q : Int)) by rw [Int.natCast_mul, Int.mul_neg], Int.mul_ediv_cancel_left _ hd0]
  · rw [show (-((d * q : Nat) : Int)) = (d : Int) * (-(q : Int)) by rw [Int.natCast_mul, Int.mul_neg], Int.mul_emod_right]
theorem neg_div1 (p d : Nat) (hd : 1 ≤ d) (h : 0 < p % d) : -(p : Int) / (d : Int) = -(((p / d : Nat) : Int) + 1) ∧ -(p : Int) % (d : Int) = (d : Int) - ((p % d : Nat) : Int) := by
  have hm : p % d < d := Nat.mod_lt _ hd
  have e : p = d * (p / d) + p % d := (Nat.div_add_mod p d).symm
  generalize p / d = q at *
  generalize p % d = r at *
  subst e
  have hd0 : 0 < (d : Int) := by omega
  have key : (-((d * q + r : Nat) : Int)) = ((d : Int) - r) + (-((q : Int) + 1)) * (d : Int) := by
    rw [Int.natCast_add, Int.natCast_mul, Int.neg_mul, Int.add_mul, Int.one_mul, Int.mul_comm (q : Int) (d : Int)]; omega
  refine ⟨?_, ?_⟩
  · rw [key, Int.add_mul_ediv_right _ _ (by omega), Int.ediv_eq_zero_of_lt (by omega) (by omega)]; omega
  · rw [key, Int.add_mul_emod_self_right, Int.emod_eq_of_lt (by omega) (by omega)]

theorem hi_lt (p d : Nat) (hd : 1 ≤ d) (h : p / d ≤ 1152921504606846976) : p / 18446744073709551616 < d := by
  have h1 : p < d * 1152921504606846977 := by
    have := (Nat.div_lt_iff_lt_mul hd).1 (Nat.lt_succ_of_le h)
    rw [Nat.mul_comm]; exact this
  exact Nat.div_lt_of_lt_mul (by omega)

/-- pico.Scale, where the parts are a time -/
theorem scale_ok (a b d : Int) (w : World) (ha1 : -1152921504606846976 ≤ a) (ha2 : a ≤ 1152921504606846976) (hb1 : -1152921504606846976 ≤ b) (hb2 : b ≤ 1152921504606846976)
    (hd1 : 1 ≤ d) (hd2 : d ≤ 1152921504606846976) (hD : DivSaid (a.natAbs * b.natAbs) d.toNat) (hq1 : -1152921504606846976 ≤ a * b / d) (hq2 : a * b / d ≤ 1152921504606846976) :
    Calls Tryz.prog 142 #[.int .i64 a, .int .i64 b, .int .i64 d] w fun e w' => e = .returned (.tuple #[.int .i64 (a * b / d), .int .i64 (a * b % d), .int .i64 0]) ∧ Below w.heap.size w w' := by
  obtain ⟨n, rfl⟩ := Int.eq_ofNat_of_zero_le (show 0 ≤ d by omega)
  rw [Int.toNat_natCast] at hD
  by_cases hs : (a < 0 ↔ b < 0)
  · have hm := same_mul a b hs
    rw [hm] at hq1 hq2 ⊢
    rw [← Int.natCast_ediv] at hq1 hq2
    rw [← Int.natCast_ediv, ← Int.natCast_emod]
    have hq : a.natAbs * b.natAbs / n ≤ 1152921504606846976 := by omega
    exact scale_same a b n w ha1 ha2 hb1 hb2 (by omega) (by omega) hs hD (hi_lt _ _ (by omega) hq) hq
  · have hm := opp_mul a b hs
    rw [hm] at hq1 hq2 ⊢
    by_cases hr : a.natAbs * b.natAbs % n = 0
    · obtain ⟨e1, e2⟩ := neg_div0 _ n (by omega) hr
      rw [e1] at hq1 hq2 ⊢
      rw [e2]
      have hq : a.natAbs * b.natAbs / n ≤ 1152921504606846976 := by omega
      exact scale_opp0 a b n w ha1 ha2 hb1 hb2 (by omega) (by omega) hs hD (hi_lt _ _ (by omega) hq) hq hr
    · obtain ⟨e1, e2⟩ := neg_div1 _ n (by omega) (Nat.pos_of_ne_zero hr)
      rw [e1] at hq1 hq2 ⊢
      rw [e2]
      have hq : a.natAbs * b.natAbs / n < 1152921504606846976 := by omega
      exact scale_opp a b n w ha1 ha2 hb1 hb2 (by omega) (by omega) hs hD (hi_lt _ _ (by omega) (by omega)) hq (Nat.pos_of_ne_zero hr)

/-- pico.Scale, where the parts are no time -/
theorem scale_ov (a b d : Int) (w : World) (ha1 : -1152921504606846976 ≤ a) (ha2 : a ≤ 1152921504606846976) (hb1 : -1152921504606846976 ≤ b) (hb2 : b ≤ 1152921504606846976)
    (hd1 : 1 ≤ d) (hd2 : d ≤ 1152921504606846976) (hD : a.natAbs * b.natAbs / 18446744073709551616 < d.toNat → DivSaid (a.natAbs * b.natAbs) d.toNat) (hq : a * b / d < -1152921504606846976 ∨ 1152921504606846976 < a * b / d) :
    Calls Tryz.prog 142 #[.int .i64 a, .int .i64 b, .int .i64 d] w fun e w' => e = .returned (.tuple #[.int .i64 0, .int .i64 0, .int .i64 2]) ∧ Below w.heap.size w w' := by
  obtain ⟨n, rfl⟩ := Int.eq_ofNat_of_zero_le (show 0 ≤ d by omega)
  rw [Int.toNat_natCast] at hD
  by_cases hh : a.natAbs * b.natAbs / 18446744073709551616 < n
  · by_cases hg : 1152921504606846976 < a.natAbs * b.natAbs / n
    · exact scale_over a b n w ha1 ha2 hb1 hb2 (by omega) (by omega) (hD hh) hh hg
    · by_cases hs : (a < 0 ↔ b < 0)
      · have hm := same_mul a b hs
        rw [hm, ← Int.natCast_ediv] at hq
        generalize a.natAbs * b.natAbs / n = q at *
        omega
      · have hm := opp_mul a b hs
        rw [hm] at hq
        by_cases hr : a.natAbs * b.natAbs % n = 0
        · obtain ⟨e1, e2⟩ := neg_div0 _ n (by omega) hr
          rw [e1] at hq
          clear e1 e2
          generalize a.natAbs * b.natAbs / n = q at *
          omega
        · obtain ⟨e1, e2⟩ := neg_div1 _ n (by omega) (Nat.pos_of_ne_zero hr)
          rw [e1] at hq
          have hv : a.natAbs * b.natAbs / n = 1152921504606846976 := by
            clear e1 e2
            generalize a.natAbs * b.natAbs / n = q at *
            omega
          exact scale_opp_over a b n w ha1 ha2 hb1 hb2 (by omega) (by omega) hs (hD hh) hh hv (Nat.pos_of_ne_zero hr)
  · exact scale_over_hi a b n w ha1 ha2 hb1 hb2 (by omega) (by omega) (by omega)

/-- pico.Scale at a small product -/
theorem mul_small {a b : Int} {A B : Nat} (ha : a.natAbs ≤ A) (hb : b.natAbs ≤ B) : a.natAbs * b.natAbs ≤ A * B := Nat.mul_le_mul ha hb
end Go.Proofs.YtkfnkieljcipnaaGreatDoor

/-! H -/
namespace Go.Proofs.YtkfnkieljcipnaaGreatDoor
open Go Go.RowKit Go.Joins

/-- what digits tell -/
def decVal (l : List UInt8) : Nat := l.foldl (fun n c => 10 * n + (c.toNat - 48)) 0
def isDigits (l : List UInt8) : Prop := ∀ c ∈ l, 48 ≤ c.toNat ∧ c.toNat ≤ 57

theorem decVal_snoc (l : List UInt8) (c : UInt8) : decVal (l ++ [c]) = 10 * decVal l + (c.toNat - 48) := by
  simp [decVal, List.foldl_append]
theorem decVal_take_le (l : List UInt8) (k : Nat) : decVal (l.take k) ≤ decVal l := by
  have key : ∀ (r l : List UInt8), decVal l ≤ decVal (l ++ r) := by
    intro r
    induction r with
    | nil => intro l; simp
    | cons c r ih =>
      intro l
      have h := ih (l ++ [c])
      rw [List.append_assoc, List.singleton_append] at h
      have := decVal_snoc l c
      omega
  have := key (l.drop k) (l.take k)
  rwa [List.take_append_drop] at this

theorem take_snoc (s : ByteArray) (k : Nat) (h : k < s.size) : s.data.toList.take (k + 1) = s.data.toList.take k ++ [s[k]] := by
  rw [List.take_succ_eq_append_getElem (by simpa using h)]; rfl

set_option maxHeartbeats 400000 in
theorem number_any (s : ByteArray) (w : World) (hd : isDigits s.data.toList) (hv : decVal s.data.toList ≤ 1152921504606846976) (hs : s.size ≤ 9223372036854775807) :
    Calls Tryz.prog 124 #[.string s] w fun e w' => e = .returned (.int .i64 (decVal s.data.toList)) ∧ w = w' := by
  have HD := hid hd
  have HV := hid hv
  clear hd hv
  go_enter Tryz.func124, Tryz.ntmps124
  go_wp2
  go_loop [3, 7] (fun n i => ∃ k : Nat, k ≤ s.size ∧ i = .int .i64 k ∧ n = .int .i64 (decVal (s.data.toList.take k) : Nat)) (fun _ i => s.size - (intOf i).toNat)
  case atStart => exact ⟨0, Nat.zero_le _, rfl, rfl⟩
  case round =>
    obtain ⟨k, hk, rfl, rfl⟩ := hrel
    by_cases hlt : k < s.size
    · have h1 := decVal_snoc (s.data.toList.take k) s[k]
      rw [← take_snoc s k hlt] at h1
      have h2 := decVal_take_le s.data.toList (k + 1)
      have h3 := HD.out s[k] (by show s.data[k]'hlt ∈ s.data.toList; simp)
      have h4 := HV.out
      have b1 : decVal (s.data.toList.take k) ≤ 115292150460684697 := by omega
      have H1 := hid h1
      obtain ⟨c1, c2⟩ := h3
      clear h1 h2 h4
      generalize hm : decVal (s.data.toList.take k) = m at *
      generalize hm' : decVal (s.data.toList.take (k + 1)) = m' at *
      have HM := hid hm'
      clear hm hm'
      go_wp2
      exact ⟨⟨k + 1, by omega, by go_num, by rw [HM.out, H1.out]; go_num⟩, by simp [intOf]; omega⟩
    · have hkk : k = s.size := by omega
      have HL : Hid (s.data.toList.take k = s.data.toList) := hid (List.take_of_length_le (by rw [hkk]; exact Nat.le_refl _))
      clear hkk
      go_wp2
      go_ret
      exact ⟨ret_int (by rw [HL.out]), rfl⟩

/-! what itoa writes are digits that tell the number -/
theorem digits_dec (u : Nat) : isDigits (Lib.decDigits u) ∧ decVal (Lib.decDigits u) = u ∧ Lib.decDigits u ≠ [] := by
  induction u using Nat.strongRecOn with
  | ind u ih =>
    unfold Lib.decDigits
    split
    · rename_i h
      refine ⟨?_, ?_, by simp⟩
      · intro c hc
        simp only [List.mem_singleton] at hc
        subst hc
        have : (UInt8.ofNat (48 + u)).toNat = 48 + u := by rw [UInt8.toNat_ofNat']; omega
        omega
      · have : (UInt8.ofNat (48 + u)).toNat = 48 + u := by rw [UInt8.toNat_ofNat']; omega
        simp only [decVal, List.foldl_cons, List.foldl_nil]
        omega
    · rename_i h
      obtain ⟨h1, h2, h3⟩ := ih (u / 10) (by omega)
      have e : (UInt8.ofNat (48 + u % 10)).toNat = 48 + u % 10 := by rw [UInt8.toNat_ofNat']; omega
      refine ⟨?_, ?_, by simp⟩
      · intro c hc
        rcases List.mem_append.1 hc with hc | hc
        · exact h1 c hc
        · simp only [List.mem_singleton] at hc
          subst hc
          omega
      · rw [decVal_snoc, h2, e]
        omega

/-! pico.Unit -/
set_option maxRecDepth 100000 in
theorem unit_0 (w : World) (hL : LaidW w) : Calls Tryz.prog 97 #[.string ⟨#[112, 115]⟩] w fun e w' => e = .returned (.tuple #[.int .i64 1, .bool true]) ∧ Below w.heap.size w w' := by
  obtain ⟨c0, c1, c2, c3, c4, c5, c6, c7, c8, c9⟩ := hL.cells
  have hsz := hL.pos
  have hsz0 : 0 < w.heap.size := Nat.lt_of_le_of_lt (Nat.zero_le _) hsz
  clear hL
  have i0 := unit_at0
  have i1 := unit_at1
  have i2 := unit_at2
  have i3 := unit_at3
  have i4 := unit_at4
  go_enter Tryz.func97, Tryz.ntmps97
  go_wp2
  refine wp_loop_rounds 6 ?_
  rw [rounds_succ]
  go_wp2
  go_ret2
  exact ⟨rfl, (Below.refl _ _).alloc (Nat.le_refl _) _⟩

set_option maxRecDepth 100000 in
theorem unit_1 (w : World) (hL : LaidW w) : Calls Tryz.prog 97 #[.string ⟨#[110, 115]⟩] w fun e w' => e = .returned (.tuple #[.int .i64 1000, .bool true]) ∧ Below w.heap.size w w' := by
  obtain ⟨c0, c1, c2, c3, c4, c5, c6, c7, c8, c9⟩ := hL.cells
  have hsz := hL.pos
  have hsz0 : 0 < w.heap.size := Nat.lt_of_le_of_lt (Nat.zero_le _) hsz
  clear hL
  have i0 := unit_at0
  have i1 := unit_at1
  have i2 := unit_at2
  have i3 := unit_at3
  have i4 := unit_at4
  go_enter Tryz.func97, Tryz.ntmps97
  go_wp2
  refine wp_loop_rounds 6 ?_
  rw [rounds_succ]
  go_wp2
  rw [rounds_succ]
  go_wp2
  go_ret2
  exact ⟨rfl, ((Below.refl _ _).alloc (Nat.le_refl _) _).alloc (by simp) _⟩

set_option maxRecDepth 100000 in
theorem unit_2 (w : World) (hL : LaidW w) : Calls Tryz.prog 97 #[.string ⟨#[117, 115]⟩] w fun e w' => e = .returned (.tuple #[.int .i64 1000000, .bool true]) ∧ Below w.heap.size w w' := by
  obtain ⟨c0, c1, c2, c3, c4, c5, c6, c7, c8, c9⟩ := hL.cells
  have hsz := hL.pos
  have hsz0 : 0 < w.heap.size := Nat.lt_of_le_of_lt (Nat.zero_le _) hsz
  clear hL
  have i0 := unit_at0
  have i1 := unit_at1
  have i2 := unit_at2
  have i3 := unit_at3
  have i4 := unit_at4
  go_enter Tryz.func97, Tryz.ntmps97
  go_wp2
  refine wp_loop_rounds 6 ?_
  rw [rounds_succ]
  go_wp2
  rw [rounds_succ]
  go_wp2
  rw [rounds_succ]
  go_wp2
  go_ret2
  exact ⟨rfl, (((Below.refl _ _).alloc (Nat.le_refl _) _).alloc (by simp) _).alloc (by simp; omega) _⟩

set_option maxRecDepth 100000 in
theorem unit_3 (w : World) (hL : LaidW w) : Calls Tryz.prog 97 #[.string ⟨#[109, 115]⟩] w fun e w' => e = .returned (.tuple #[.int .i64 1000000000, .bool true]) ∧ Below w.heap.size w w' := by
  obtain ⟨c0, c1, c2, c3, c4, c5, c6, c7, c8, c9⟩ := hL.cells
  have hsz := hL.pos
  have hsz0 : 0 < w.heap.size := Nat.lt_of_le_of_lt (Nat.zero_le _) hsz
  clear hL
  have i0 := unit_at0
  have i1 := unit_at1
  have i2 := unit_at2
  have i3 := unit_at3
  have i4 := unit_at4
  go_enter Tryz.func97, Tryz.ntmps97
  go_wp2
  refine wp_loop_rounds 6 ?_
  rw [rounds_succ]
  go_wp2
  rw [rounds_succ]
  go_wp2
  rw [rounds_succ]
  go_wp2
  rw [rounds_succ]
  go_wp2
  go_ret2
  exact ⟨rfl, ((((Below.refl _ _).alloc (Nat.le_refl _) _).alloc (by simp) _).alloc (by simp; omega) _).alloc (by simp; omega) _⟩

set_option maxRecDepth 100000 in
theorem unit_4 (w : World) (hL : LaidW w) : Calls Tryz.prog 97 #[.string ⟨#[115]⟩] w fun e w' => e = .returned (.tuple #[.int .i64 1000000000000, .bool true]) ∧ Below w.heap.size w w' := by
  obtain ⟨c0, c1, c2, c3, c4, c5, c6, c7, c8, c9⟩ := hL.cells
  have hsz := hL.pos
  have hsz0 : 0 < w.heap.size := Nat.lt_of_le_of_lt (Nat.zero_le _) hsz
  clear hL
  have i0 := unit_at0
  have i1 := unit_at1
  have i2 := unit_at2
  have i3 := unit_at3
  have i4 := unit_at4
  go_enter Tryz.func97, Tryz.ntmps97
  go_wp2
  refine wp_loop_rounds 6 ?_
  rw [rounds_succ]
  go_wp2
  rw [rounds_succ]
  go_wp2
  rw [rounds_succ]
  go_wp2
  rw [rounds_succ]
  go_wp2
  rw [rounds_succ]
  go_wp2
  go_ret2
  exact ⟨rfl, (((((Below.refl _ _).alloc (Nat.le_refl _) _).alloc (by simp) _).alloc (by simp; omega) _).alloc (by simp; omega) _).alloc (by simp; omega) _⟩

set_option maxRecDepth 100000 in
theorem unit_m (w : World) (hL : LaidW w) : Calls Tryz.prog 97 #[.string ⟨#[109]⟩] w fun e w' => e = .returned (.tuple #[.int .i64 0, .bool false]) ∧ Below w.heap.size w w' := by
  obtain ⟨c0, c1, c2, c3, c4, c5, c6, c7, c8, c9⟩ := hL.cells
  have hsz := hL.pos
  have hsz0 : 0 < w.heap.size := Nat.lt_of_le_of_lt (Nat.zero_le _) hsz
  clear hL
  have i0 := unit_at0
  have i1 := unit_at1
  have i2 := unit_at2
  have i3 := unit_at3
  have i4 := unit_at4
  go_enter Tryz.func97, Tryz.ntmps97
  go_wp2
  refine wp_loop_rounds 6 ?_
  rw [rounds_succ]
  go_wp2
  rw [rounds_succ]
  go_wp2
  rw [rounds_succ]
  go_wp2
  rw [rounds_succ]
  go_wp2
  rw [rounds_succ]
  go_wp2
  rw [rounds_succ]
  go_wp2
  go_ret2
  exact ⟨rfl, (((((Below.refl _ _).alloc (Nat.le_refl _) _).alloc (by simp) _).alloc (by simp; omega) _).alloc (by simp; omega) _).alloc (by simp; omega) _⟩


end Go.Proofs.YtkfnkieljcipnaaGreatDoor

/-! I -/
namespace Go.Proofs.YtkfnkieljcipnaaGreatDoor
open Go Go.RowKit Go.Joins

theorem mul_ok (a b : Int) (w : World) (ha1 : -1152921504606846976 ≤ a) (ha2 : a ≤ 1152921504606846976) (hb1 : -1152921504606846976 ≤ b) (hb2 : b ≤ 1152921504606846976)
    (hD : DivSaid (a.natAbs * b.natAbs) 1) (hq1 : -1152921504606846976 ≤ a * b) (hq2 : a * b ≤ 1152921504606846976) :
    Calls Tryz.prog 125 #[.int .i64 a, .int .i64 b] w fun e w' => e = .returned (.tuple #[.int .i64 (a * b), .int .i64 0]) ∧ Below w.heap.size w w' := by
  go_enter Tryz.func125, Tryz.ntmps125
  go_wp2_with fail
  refine (scale_ok a b 1 w ha1 ha2 hb1 hb2 (by omega) (by omega) hD (by rw [Int.ediv_one]; exact hq1) (by rw [Int.ediv_one]; exact hq2)).mono ?_
  rintro e w' ⟨rfl, hb⟩
  rw [Int.ediv_one]
  go_wp2
  go_ret2
  exact ⟨rfl, hb⟩

theorem cut_any (s rest : ByteArray) (minus : Bool) (w : World) (h1 : Lib.trimPrefix s.data.toList [45] = rest.data.toList) (h2 : Lib.hasPrefix s.data.toList [45] = minus) :
    Calls Tryz.prog 123 #[.string s, .string ⟨#[45]⟩] w fun e w' => e = .returned (.tuple #[.string rest, .bool minus]) ∧ w = w' := by
  refine (Tryz.strings_CutPrefix s ⟨#[45]⟩ w).mono ?_
  rintro e w' ⟨rfl, rfl⟩
  have e1 : Lib.trimPrefix s.data.toList (#[45] : Array UInt8).toList = rest.data.toList := h1
  have e2 : Lib.hasPrefix s.data.toList (#[45] : Array UInt8).toList = minus := h2
  refine ⟨?_, rfl⟩
  show Ending.returned (.tuple #[.string ⟨(Lib.trimPrefix s.data.toList (#[45] : Array UInt8).toList).toArray⟩, .bool (Lib.hasPrefix s.data.toList (#[45] : Array UInt8).toList)]) = _
  rw [e1, e2, Array.toArray_toList]

def digitSet : ByteArray := ⟨#[48, 49, 50, 51, 52, 53, 54, 55, 56, 57]⟩
theorem trim_any (rest nm : ByteArray) (w : World) (h : Lib.trimLeftS rest.data.toList digitSet.data.toList = nm.data.toList) :
    Calls Tryz.prog 96 #[.string rest, .string ⟨#[48, 49, 50, 51, 52, 53, 54, 55, 56, 57]⟩] w fun e w' => e = .returned (.string nm) ∧ Below w.heap.size w w' := by
  refine (Tryz.strings_TrimLeft_laid rest digitSet w (by decide) ?_).mono ?_
  · intro j b hb
    have hm := List.mem_of_getElem? hb
    have hall : digitSet.data.toList.all (fun b => decide (b.toNat < 128)) = true := by decide
    simpa using List.all_eq_true.1 hall b hm
  · rintro e w' ⟨rfl, hb⟩
    exact ⟨by rw [h, Array.toArray_toList], hb⟩

theorem digit_in (c : UInt8) (h : 48 ≤ c.toNat ∧ c.toNat ≤ 57) : digitSet.data.toList.contains c = true := by
  have : ∀ n : Nat, 48 ≤ n → n ≤ 57 → digitSet.data.toList.contains (UInt8.ofNat n) = true := by
    intro n h1 h2
    have : n = 48 ∨ n = 49 ∨ n = 50 ∨ n = 51 ∨ n = 52 ∨ n = 53 ∨ n = 54 ∨ n = 55 ∨ n = 56 ∨ n = 57 := by omega
    rcases this with rfl | rfl | rfl | rfl | rfl | rfl | rfl | rfl | rfl | rfl <;> decide
  have e := this c.toNat h.1 h.2
  rwa [UInt8.ofNat_toNat] at e

theorem unit_letters {nm : ByteArray} {ps : Int} (h : UnitIs nm ps) : ∃ c r, nm.data.toList = c :: r ∧ digitSet.data.toList.contains c = false := by
  rcases h with ⟨rfl, rfl⟩ | ⟨rfl, rfl⟩ | ⟨rfl, rfl⟩ | ⟨rfl, rfl⟩ | ⟨rfl, rfl⟩ <;> exact ⟨_, _, rfl, by decide⟩

theorem trim_digits (ds nm : List UInt8) (hd : isDigits ds) (c : UInt8) (r : List UInt8) (hn : nm = c :: r) (hc : digitSet.data.toList.contains c = false) : Lib.trimLeftS (ds ++ nm) digitSet.data.toList = nm := by
  unfold Lib.trimLeftS
  induction ds with
  | nil => rw [List.nil_append, hn, List.dropWhile_cons_of_neg (by rw [hc]; decide)]
  | cons d ds ih =>
    rw [List.cons_append, List.dropWhile_cons_of_pos (digit_in d (hd d (by simp)))]
    exact ih (fun c hc => hd c (List.mem_cons_of_mem _ hc))

theorem unit_any {nm : ByteArray} {ps : Int} (h : UnitIs nm ps) (w : World) (hL : LaidW w) : Calls Tryz.prog 97 #[.string nm] w fun e w' => e = .returned (.tuple #[.int .i64 ps, .bool true]) ∧ Below w.heap.size w w' := by
  rcases h with ⟨rfl, rfl⟩ | ⟨rfl, rfl⟩ | ⟨rfl, rfl⟩ | ⟨rfl, rfl⟩ | ⟨rfl, rfl⟩
  · exact unit_0 w hL
  · exact unit_1 w hL
  · exact unit_2 w hL
  · exact unit_3 w hL
  · exact unit_4 w hL

theorem unit_top {nm : ByteArray} {ps : Int} (h : UnitIs nm ps) : ps ≤ 1000000000000 := by
  rcases h with ⟨rfl, rfl⟩ | ⟨rfl, rfl⟩ | ⟨rfl, rfl⟩ | ⟨rfl, rfl⟩ | ⟨rfl, rfl⟩ <;> decide

set_option maxHeartbeats 400000 in
theorem read_walk (s rest digs nm : ByteArray) (minus : Bool) (ps : Int) (w : World) (hL : LaidW w) (h1 : Lib.trimPrefix s.data.toList [45] = rest.data.toList) (h2 : Lib.hasPrefix s.data.toList [45] = minus)
    (hu : UnitIs nm ps) (hr : rest = digs ++ nm) (hd : isDigits digs.data.toList) (hd0 : 0 < digs.size) (hsz : rest.size ≤ 9223372036854775807) (hv : decVal digs.data.toList * ps ≤ 1152921504606846976) :
    Calls Tryz.prog 114 #[.string s] w fun e w' => e = .returned (.tuple #[.int .i64 (if minus then -(decVal digs.data.toList * ps) else decVal digs.data.toList * ps), .int .i64 0]) ∧ Below w.heap.size w w' := by
  have htr : Lib.trimLeftS rest.data.toList digitSet.data.toList = nm.data.toList := by
    obtain ⟨c, r, hn, hc⟩ := unit_letters hu
    have e : rest.data.toList = digs.data.toList ++ nm.data.toList := by rw [hr, ByteArray.data_append, Array.toList_append]
    rw [e]
    exact trim_digits _ _ hd c r hn hc
  have hsum : rest.size = digs.size + nm.size := by rw [hr, ByteArray.size_append]
  have hns : nm.size < rest.size := by omega
  have H1 := hid h1
  have H2 := hid h2
  have HR := hid hr
  have HT := hid htr
  have HS := hid hsum
  have HD := hid hd
  have HU := hid hu
  have HV := hid hv
  have HL := hid hL
  clear h1 h2 hr htr hsum hd hu hv hL
  have hne : ((nm.size : Int) == (rest.size : Int)) = false := beq_eq_false_iff_ne.2 (by omega)
  go_enter Tryz.func114, Tryz.ntmps114
  go_wp2_with fail
  refine (cut_any s rest minus w H1.out H2.out).mono ?_
  rintro e w' ⟨rfl, rfl⟩
  go_wp2_with fail
  refine (trim_any rest nm _ HT.out).mono ?_
  rintro e w1 ⟨rfl, g1⟩
  go_wp2_with fail
  refine (unit_any HU.out w1 (HL.out.below g1)).mono ?_
  rintro e w2 ⟨rfl, g2⟩
  go_wp2_with fail
  have hex : rest.extract 0 (rest.size - nm.size) = digs := by
    rw [HR.out, ByteArray.size_append, Nat.add_sub_cancel]
    apply ByteArray.ext
    rw [ByteArray.data_extract, ByteArray.data_append]
    apply Array.ext'
    rw [Array.toList_extract, Array.toList_append]
    simp only [List.extract_eq_take_drop, Nat.sub_zero, List.drop_zero]
    exact List.take_left' rfl
  rw [hex]
  clear hex
  obtain ⟨hp1, hp2⟩ := unit_size HU.out
  have hp3 := unit_top HU.out
  have hval : (decVal digs.data.toList : Int) ≤ decVal digs.data.toList * ps := by
    have := Int.mul_le_mul_of_nonneg_left (show (1 : Int) ≤ ps by omega) (show (0 : Int) ≤ (decVal digs.data.toList : Int) by omega)
    rwa [Int.mul_one] at this
  have hv := HV.out
  have hds : digs.size ≤ 9223372036854775807 := by have := HS.out; omega
  refine (number_any digs w2 HD.out (by omega) hds).mono ?_
  rintro e w3 ⟨rfl, rfl⟩
  have hv0 : (0 : Int) ≤ decVal digs.data.toList * ps := Int.mul_nonneg (by omega) (by omega)
  have hnn : (decVal digs.data.toList * 1 : Nat) ≤ 1152921504606846976 := by omega
  have hnat : decVal digs.data.toList * ps.natAbs ≤ 1152921504606846976 := by
    have : ((decVal digs.data.toList * ps.natAbs : Nat) : Int) = decVal digs.data.toList * ps := by rw [Int.natCast_mul, show ((ps.natAbs : Nat) : Int) = ps by omega]
    omega
  generalize hvv : decVal digs.data.toList = v at *
  have HVV := hid hvv
  clear hvv
  clear H1 H2 HR HT HS HD HV hns hne hsz hds
  cases minus
  · go_wp2_with fail
    refine (may_1 _ _ (v : Int) true (timeB_yes (by omega) (by omega)) _ (by simp)).mono ?_
    rintro e w4 ⟨rfl, rfl⟩
    go_wp2_with fail
    refine (mul_ok (v : Int) ps _ (by omega) (by omega) (by omega) (by omega) (div_low _ _ (by rw [Int.natAbs_natCast]; omega) (by omega) (by omega)) (by omega) (by omega)).mono ?_
    rintro e w5 ⟨rfl, g5⟩
    go_wp2
    go_ret2
    exact ⟨ret_two (by rw [HVV.out]) rfl, (g1.trans (g2.mono g1.size)).trans (((Below.refl _ _).alloc (Nat.le_refl _) _ |>.trans (g5.mono (by simp))).mono (by have := g1.size; have := g2.size; omega))⟩
  · have hneg : -(v : Int) * ps = -(v * ps) := Int.neg_mul _ _
    have HN := hid hneg
    clear hneg
    go_wp2_with fail
    refine (may_1 _ _ (-(v : Int)) true (timeB_yes (by omega) (by omega)) _ (by simp)).mono ?_
    rintro e w4 ⟨rfl, rfl⟩
    go_wp2_with fail
    refine (mul_ok (-(v : Int)) ps _ (by omega) (by omega) (by omega) (by omega) (div_low _ _ (by rw [Int.natAbs_neg, Int.natAbs_natCast]; omega) (by omega) (by omega)) (by rw [HN.out]; omega) (by rw [HN.out]; omega)).mono ?_
    rintro e w5 ⟨rfl, g5⟩
    rw [HN.out]
    go_wp2
    go_ret2
    exact ⟨ret_two (by rw [HVV.out]) rfl, (g1.trans (g2.mono g1.size)).trans (((Below.refl _ _).alloc (Nat.le_refl _) _ |>.trans (g5.mono (by simp))).mono (by have := g1.size; have := g2.size; omega))⟩

theorem pre_minus (l : List UInt8) : Lib.trimPrefix (45 :: l) [45] = l ∧ Lib.hasPrefix (45 :: l) [45] = true := by
  have h : Lib.hasPrefix (45 :: l) [45] = true := by simp [Lib.hasPrefix]
  exact ⟨by unfold Lib.trimPrefix; rw [h]; rfl, h⟩
theorem pre_none (c : UInt8) (l : List UInt8) (hc : c ≠ 45) : Lib.trimPrefix (c :: l) [45] = c :: l ∧ Lib.hasPrefix (c :: l) [45] = false := by
  have h : Lib.hasPrefix (c :: l) [45] = false := by
    unfold Lib.hasPrefix
    simp only [List.isPrefixOf, Bool.and_true]
    exact beq_eq_false_iff_ne.2 (Ne.symm hc)
  exact ⟨by unfold Lib.trimPrefix; rw [h]; rfl, h⟩

/-- pico.Read of digits and a unit -/
theorem read_plain (digs nm : ByteArray) (ps : Int) (w : World) (hL : LaidW w) (hu : UnitIs nm ps) (hd : isDigits digs.data.toList) (hd0 : digs.data.toList ≠ []) (hsz : digs.size ≤ 4611686018427387904) (hv : decVal digs.data.toList * ps ≤ 1152921504606846976) :
    Calls Tryz.prog 114 #[.string (digs ++ nm)] w fun e w' => e = .returned (.tuple #[.int .i64 (decVal digs.data.toList * ps), .int .i64 0]) ∧ Below w.heap.size w w' := by
  have hn := (unit_size hu).2
  have hpos : 0 < digs.size := by
    rcases Nat.eq_zero_or_pos digs.size with h | h
    · exact absurd (List.eq_nil_of_length_eq_zero (show digs.data.toList.length = 0 from h)) hd0
    · exact h
  match hdl : digs.data.toList, hd0 with
  | c :: r, _ =>
    have hcd := hd c (by rw [hdl]; simp)
    have hc : c ≠ 45 := by intro h; rw [h] at hcd; exact absurd hcd.1 (by decide)
    have e : (digs ++ nm).data.toList = c :: (r ++ nm.data.toList) := by rw [ByteArray.data_append, Array.toList_append, hdl, List.cons_append]
    obtain ⟨p1, p2⟩ := pre_none c (r ++ nm.data.toList) hc
    have h := read_walk (digs ++ nm) (digs ++ nm) digs nm false ps w hL (by rw [e]; exact p1) (by rw [e]; exact p2) hu rfl hd hpos (by rw [ByteArray.size_append]; omega) hv
    rw [hdl] at h
    exact h

/-- pico.Read of a sign, digits and a unit -/
theorem read_signed (s digs nm : ByteArray) (hs : s.data.toList = 45 :: digs.data.toList) (ps : Int) (w : World) (hL : LaidW w) (hu : UnitIs nm ps) (hd : isDigits digs.data.toList) (hd0 : digs.data.toList ≠ []) (hsz : digs.size ≤ 4611686018427387904) (hv : decVal digs.data.toList * ps ≤ 1152921504606846976) :
    Calls Tryz.prog 114 #[.string (s ++ nm)] w fun e w' => e = .returned (.tuple #[.int .i64 (-(decVal digs.data.toList * ps)), .int .i64 0]) ∧ Below w.heap.size w w' := by
  have hn := (unit_size hu).2
  have hpos : 0 < digs.size := by
    rcases Nat.eq_zero_or_pos digs.size with h | h
    · exact absurd (List.eq_nil_of_length_eq_zero (show digs.data.toList.length = 0 from h)) hd0
    · exact h
  have e : (s ++ nm).data.toList = 45 :: (digs ++ nm).data.toList := by rw [ByteArray.data_append, Array.toList_append, hs, ByteArray.data_append, Array.toList_append, List.cons_append]
  obtain ⟨p1, p2⟩ := pre_minus (digs ++ nm).data.toList
  exact read_walk (s ++ nm) (digs ++ nm) digs nm true ps w hL (by rw [e]; exact p1) (by rw [e]; exact p2) hu rfl hd hpos (by rw [ByteArray.size_append]; omega) hv

/-- pico.Read of what strconv writes of a number, and a unit -/
theorem read_itoa (n ps : Int) (nm : ByteArray) (w : World) (hL : LaidW w) (hu : UnitIs nm ps) (h1 : -1152921504606846976 ≤ n * ps) (h2 : n * ps ≤ 1152921504606846976) :
    Calls Tryz.prog 114 #[.string (⟨(Lib.itoa n).toArray⟩ ++ nm)] w fun e w' => e = .returned (.tuple #[.int .i64 (n * ps), .int .i64 0]) ∧ Below w.heap.size w w' := by
  have hp := (unit_size hu).1
  have key : n.natAbs ≤ 1152921504606846976 := by
    have e1 : (n * ps).natAbs = n.natAbs * ps.natAbs := Int.natAbs_mul n ps
    have e2 : n.natAbs * 1 ≤ n.natAbs * ps.natAbs := Nat.mul_le_mul_left _ (by omega)
    omega
  obtain ⟨d1, d2, d3⟩ := digits_dec n.natAbs
  have dl := decDigits_le n.natAbs
  by_cases hn : n < 0
  · have ei : Lib.itoa n = 45 :: Lib.decDigits n.natAbs := by unfold Lib.itoa; rw [if_pos hn]
    have ev : (n.natAbs : Int) * ps = -(n * ps) := by rw [show (n.natAbs : Int) = -n by omega, Int.neg_mul]
    have h := read_signed ⟨(Lib.itoa n).toArray⟩ ⟨(Lib.decDigits n.natAbs).toArray⟩ nm (by rw [ei]) ps w hL hu (by simpa using d1) (by simpa using d3) (by show (Lib.decDigits n.natAbs).toArray.size ≤ _; rw [List.size_toArray]; omega) (by
      show ((decVal (Lib.decDigits n.natAbs) : Nat) : Int) * ps ≤ _
      rw [d2, ev]; omega)
    refine h.mono ?_
    rintro e w' ⟨rfl, hb⟩
    refine ⟨ret_two ?_ rfl, hb⟩
    show -(((decVal (Lib.decDigits n.natAbs) : Nat) : Int) * ps) = _
    rw [d2, ev, Int.neg_neg]
  · have ei : Lib.itoa n = Lib.decDigits n.natAbs := by unfold Lib.itoa; rw [if_neg hn, show n.toNat = n.natAbs by omega]
    have ev : (n.natAbs : Int) * ps = n * ps := by rw [show (n.natAbs : Int) = n by omega]
    rw [ei]
    have h := read_plain ⟨(Lib.decDigits n.natAbs).toArray⟩ nm ps w hL hu (by simpa using d1) (by simpa using d3) (by show (Lib.decDigits n.natAbs).toArray.size ≤ _; rw [List.size_toArray]; omega) (by
      show ((decVal (Lib.decDigits n.natAbs) : Nat) : Int) * ps ≤ _
      rw [d2, ev]; omega)
    refine h.mono ?_
    rintro e w' ⟨rfl, hb⟩
    refine ⟨ret_two ?_ rfl, hb⟩
    show (((decVal (Lib.decDigits n.natAbs) : Nat) : Int) * ps) = _
    rw [d2, ev]

/-- pico.Read of 1m: no unit -/
theorem read_1m (w : World) (hL : LaidW w) : Calls Tryz.prog 114 #[.string ⟨#[49, 109]⟩] w fun e w' => e = .returned (.tuple #[.int .i64 0, .int .i64 4]) ∧ Below w.heap.size w w' := by
  have HL := hid hL
  clear hL
  go_enter Tryz.func114, Tryz.ntmps114
  go_wp2_with fail
  refine (cut_any ⟨#[49, 109]⟩ ⟨#[49, 109]⟩ false w (by decide) (by decide)).mono ?_
  rintro e w' ⟨rfl, rfl⟩
  go_wp2_with fail
  refine (trim_any ⟨#[49, 109]⟩ ⟨#[109]⟩ _ (by decide)).mono ?_
  rintro e w1 ⟨rfl, g1⟩
  go_wp2_with fail
  refine (unit_m w1 (HL.out.below g1)).mono ?_
  rintro e w2 ⟨rfl, g2⟩
  go_wp2
  go_ret2
  exact ⟨rfl, g1.trans (g2.mono g1.size)⟩

end Go.Proofs.YtkfnkieljcipnaaGreatDoor

/-! LC -/
namespace Go.Proofs.YtkfnkieljcipnaaGreatDoor
open Go Go.RowKit Go.Joins

theorem clone_any (s : ByteArray) (w : World) (hs : s.size ≤ 281474976710656) : Calls Tryz.prog 67 #[.string s] w fun e w' => e = .returned (.string s) ∧ Below w.heap.size w w' := by
  go_enter Tryz.func67, Tryz.ntmps67
  go_wp2_with (first | (go_at_call 85; refine (Tryz.stringslite_Clone s _ hs).mono ?_; rintro e w' ⟨rfl, hb⟩))
  go_ret
  exact ⟨rfl, hb⟩

theorem index_byte (c : UInt8) : decide (0 ≤ Lib.indexByte ([59, 123, 125] : List UInt8) c) = sgB c := by
  have key : ∀ n : Fin 256, decide (0 ≤ Lib.indexByte ([59, 123, 125] : List UInt8) (UInt8.ofNat n.val)) = sgB (UInt8.ofNat n.val) := by decide +kernel
  have := key ⟨c.toNat, c.toNat_lt⟩
  simpa using this

def signL (l : List UInt8) : Bool := match l with
  | [c] => sgB c
  | _ => false
theorem sign_any (s : ByteArray) (w : World) : Calls Tryz.prog 76 #[.string s] w fun e w' => e = .returned (.bool (signL s.data.toList)) ∧ w' = w := by
  by_cases h1 : s.size = 1
  · obtain ⟨c, rfl⟩ : ∃ c, s = ⟨#[c]⟩ := by
      have hl : s.data.toList.length = 1 := h1
      match hm : s.data.toList, hl with
      | [c], _ => exact ⟨c, by apply ByteArray.ext; apply Array.ext'; rw [hm]⟩
    have hc := Tryz.strings_Contains_one ⟨#[59, 123, 125]⟩ c
    have e : ∀ b, decide (0 ≤ Lib.indexByte (⟨#[59, 123, 125]⟩ : ByteArray).data.toList c) = b → signL (⟨#[c]⟩ : ByteArray).data.toList = b := fun b hb => by rw [← hb]; exact (index_byte c).symm
    generalize decide (0 ≤ Lib.indexByte (⟨#[59, 123, 125]⟩ : ByteArray).data.toList c) = b at *
    have HE := hid (e b rfl)
    have HC := hid hc
    clear e hc h1
    go_enter Tryz.func76, Tryz.ntmps76
    go_wp2_with (first | (go_at_call 94; refine (HC.out _).mono ?_; rintro e w' ⟨rfl, rfl⟩))
    go_ret
    exact ⟨ret_bool (by rw [HE.out]), rfl⟩
  · have hb : ((s.size : Int) == 1) = false := beq_eq_false_iff_ne.2 (by omega)
    have HE : Hid (signL s.data.toList = false) := hid (by
      have hl : s.data.toList.length ≠ 1 := h1
      match hm : s.data.toList with
      | [] => rfl
      | [c] => rw [hm] at hl; exact absurd rfl hl
      | _ :: _ :: _ => rfl)
    go_enter Tryz.func76, Tryz.ntmps76
    go_wp2
    go_ret
    exact ⟨ret_bool (by rw [HE.out]), rfl⟩

theorem broken_any (s : ByteArray) (w : World) (x : Nat) (hx : (dec s.data.toList).1 = x) : Calls Tryz.prog 55 #[.string s, .int .i32 x] w fun e w' => e = .returned (.bool (brok s.data.toList)) ∧ w' = w := by
  have hc := Tryz.strings_HasPrefix s ⟨#[239, 191, 189]⟩
  have e : brok s.data.toList = ((dec s.data.toList).1 == 65533 && !Lib.hasPrefix s.data.toList (⟨#[239, 191, 189]⟩ : ByteArray).data.toList) := rfl
  rw [hx] at e
  generalize Lib.hasPrefix s.data.toList (⟨#[239, 191, 189]⟩ : ByteArray).data.toList = b at *
  have HE := hid e
  have HC := hid hc
  clear e hc hx
  by_cases h : x = 65533
  · subst h
    go_enter Tryz.func55, Tryz.ntmps55
    go_wp2_with (first | (go_at_call 75; refine (HC.out _).mono ?_; rintro e w' ⟨rfl, rfl⟩))
    go_ret
    exact ⟨ret_bool (by rw [HE.out]; simp), rfl⟩
  · have hb : ((x : Int) == 65533) = false := beq_eq_false_iff_ne.2 (by omega)
    have hb2 : (x == 65533) = false := beq_eq_false_iff_ne.2 h
    rw [hb2] at HE
    go_enter Tryz.func55, Tryz.ntmps55
    go_wp2
    go_ret
    exact ⟨ret_bool (by rw [HE.out]; simp), rfl⟩

theorem unit_is {s : ByteArray} {ps : Int} (h : unitF s.data.toList = some ps) : UnitIs s ps := by
  have ext : ∀ a : ByteArray, s.data.toList = a.data.toList → s = a := fun a h => by apply ByteArray.ext; exact Array.ext' h
  have h : (if s.data.toList = [112, 115] then some 1 else if s.data.toList = [110, 115] then some 1000 else if s.data.toList = [117, 115] then some 1000000 else if s.data.toList = [109, 115] then some 1000000000 else if s.data.toList = [115] then some 1000000000000 else none) = some ps := h
  by_cases h1 : s.data.toList = [112, 115]
  · rw [if_pos h1] at h; cases h; exact .inl ⟨ext ⟨#[112, 115]⟩ h1, rfl⟩
  rw [if_neg h1] at h
  by_cases h2 : s.data.toList = [110, 115]
  · rw [if_pos h2] at h; cases h; exact .inr (.inl ⟨ext ⟨#[110, 115]⟩ h2, rfl⟩)
  rw [if_neg h2] at h
  by_cases h3 : s.data.toList = [117, 115]
  · rw [if_pos h3] at h; cases h; exact .inr (.inr (.inl ⟨ext ⟨#[117, 115]⟩ h3, rfl⟩))
  rw [if_neg h3] at h
  by_cases h4 : s.data.toList = [109, 115]
  · rw [if_pos h4] at h; cases h; exact .inr (.inr (.inr (.inl ⟨ext ⟨#[109, 115]⟩ h4, rfl⟩)))
  rw [if_neg h4] at h
  by_cases h5 : s.data.toList = [115]
  · rw [if_pos h5] at h; cases h; exact .inr (.inr (.inr (.inr ⟨ext ⟨#[115]⟩ h5, rfl⟩)))
  rw [if_neg h5] at h
  cases h
theorem unit_not {s : ByteArray} (h : unitF s.data.toList = none) : s.data.toList ≠ [112, 115] ∧ s.data.toList ≠ [110, 115] ∧ s.data.toList ≠ [117, 115] ∧ s.data.toList ≠ [109, 115] ∧ s.data.toList ≠ [115] := by
  have h : (if s.data.toList = [112, 115] then some 1 else if s.data.toList = [110, 115] then some 1000 else if s.data.toList = [117, 115] then some 1000000 else if s.data.toList = [109, 115] then some 1000000000 else if s.data.toList = [115] then some 1000000000000 else none) = (none : Option Int) := h
  refine ⟨fun e => ?_, fun e => ?_, fun e => ?_, fun e => ?_, fun e => ?_⟩ <;> (rw [e] at h; cases h)

set_option maxRecDepth 100000 in
theorem unit_none (s : ByteArray) (w : World) (hL : LaidW w) (h : unitF s.data.toList = none) : Calls Tryz.prog 97 #[.string s] w fun e w' => e = .returned (.tuple #[.int .i64 0, .bool false]) ∧ Below w.heap.size w w' := by
  obtain ⟨h1, h2, h3, h4, h5⟩ := unit_not h
  have k1 : (([112, 115] : List UInt8) == s.toList) = false := beq_eq_false_iff_ne.2 (by rw [ByteArray.toList_eq]; exact h1.symm)
  have k2 : (([110, 115] : List UInt8) == s.toList) = false := beq_eq_false_iff_ne.2 (by rw [ByteArray.toList_eq]; exact h2.symm)
  have k3 : (([117, 115] : List UInt8) == s.toList) = false := beq_eq_false_iff_ne.2 (by rw [ByteArray.toList_eq]; exact h3.symm)
  have k4 : (([109, 115] : List UInt8) == s.toList) = false := beq_eq_false_iff_ne.2 (by rw [ByteArray.toList_eq]; exact h4.symm)
  have k5 : (([115] : List UInt8) == s.toList) = false := beq_eq_false_iff_ne.2 (by rw [ByteArray.toList_eq]; exact h5.symm)
  clear h h1 h2 h3 h4 h5
  obtain ⟨c0, c1, c2, c3, c4, c5, c6, c7, c8, c9⟩ := hL.cells
  have hsz := hL.pos
  have hsz0 : 0 < w.heap.size := Nat.lt_of_le_of_lt (Nat.zero_le _) hsz
  clear hL
  have i0 := unit_at0
  have i1 := unit_at1
  have i2 := unit_at2
  have i3 := unit_at3
  have i4 := unit_at4
  go_enter Tryz.func97, Tryz.ntmps97
  go_wp2
  refine wp_loop_rounds 6 ?_
  rw [rounds_succ]
  go_wp2
  rw [rounds_succ]
  go_wp2
  rw [rounds_succ]
  go_wp2
  rw [rounds_succ]
  go_wp2
  rw [rounds_succ]
  go_wp2
  rw [rounds_succ]
  go_wp2
  go_ret2
  exact ⟨rfl, (((((Below.refl _ _).alloc (Nat.le_refl _) _).alloc (by simp) _).alloc (by simp; omega) _).alloc (by simp; omega) _).alloc (by simp; omega) _⟩
end Go.Proofs.YtkfnkieljcipnaaGreatDoor

/-! LD -/
namespace Go.Proofs.YtkfnkieljcipnaaGreatDoor
open Go Go.RowKit Go.Joins

def topB (v : Int) : Bool := decide (-1152921504606846976 ≤ v) && decide (v ≤ 1152921504606846976)
def timV (v : Int) : Int := if topB v then v else 0
def timE (v : Int) : Int := if topB v then 0 else 2

theorem mul_all (a b : Int) (w : World) (ha1 : -1152921504606846976 ≤ a) (ha2 : a ≤ 1152921504606846976) (hb1 : -1152921504606846976 ≤ b) (hb2 : b ≤ 1152921504606846976) :
    Calls Tryz.prog 125 #[.int .i64 a, .int .i64 b] w fun e w' => e = .returned (.tuple #[.int .i64 (timV (a * b)), .int .i64 (timE (a * b))]) ∧ Below w.heap.size w w' := by
  have hn : (a * b).natAbs = a.natAbs * b.natAbs := Int.natAbs_mul a b
  by_cases h : topB (a * b) = true
  · have h' : -1152921504606846976 ≤ a * b ∧ a * b ≤ 1152921504606846976 := by simpa [topB] using h
    rw [timV, timE, if_pos h, if_pos h]
    exact mul_ok a b w ha1 ha2 hb1 hb2 (div_low _ _ (by omega) (by omega) (by omega)) h'.1 h'.2
  · have h' : ¬ (-1152921504606846976 ≤ a * b ∧ a * b ≤ 1152921504606846976) := by simpa [topB] using h
    rw [timV, timE, if_neg h, if_neg h]
    have hbig : 1152921504606846976 < a.natAbs * b.natAbs := by omega
    have HS : Calls Tryz.prog 142 #[.int .i64 a, .int .i64 b, .int .i64 1] w fun e w' => e = .returned (.tuple #[.int .i64 0, .int .i64 0, .int .i64 2]) ∧ Below w.heap.size w w' := by
      rcases Nat.lt_or_ge (a.natAbs * b.natAbs) 18446744073709551616 with h2 | h2
      · exact scale_over a b 1 w ha1 ha2 hb1 hb2 (by omega) (by omega) (div_low _ _ h2 (by omega) (by omega)) (by rw [Nat.div_eq_of_lt h2]; omega) (by rw [Nat.div_one]; exact hbig)
      · exact scale_over_hi a b 1 w ha1 ha2 hb1 hb2 (by omega) (by omega) ((Nat.le_div_iff_mul_le (by omega)).2 (by omega))
    have HS := hid HS
    clear h h' hbig hn
    go_enter Tryz.func125, Tryz.ntmps125
    go_wp2_with fail
    refine HS.out.mono ?_
    rintro e w' ⟨rfl, hb⟩
    go_wp2
    go_ret2
    exact ⟨rfl, hb⟩

theorem sub_set : digitSet.data.toList = [48, 49, 50, 51, 52, 53, 54, 55, 56, 57] := rfl
theorem dig_set (c : UInt8) : ([48, 49, 50, 51, 52, 53, 54, 55, 56, 57] : List UInt8).contains c = digB c := by
  have key : ∀ n : Fin 256, ([48, 49, 50, 51, 52, 53, 54, 55, 56, 57] : List UInt8).contains (UInt8.ofNat n.val) = digB (UInt8.ofNat n.val) := by decide +kernel
  have := key ⟨c.toNat, c.toNat_lt⟩
  simpa using this
theorem trim_eq (l : List UInt8) : Lib.trimLeftS l digitSet.data.toList = l.dropWhile digB := by
  unfold Lib.trimLeftS
  rw [sub_set]
  congr 1
  funext c
  exact dig_set c
theorem size_eq (l : List UInt8) : Lib.trimPrefix l [45] = sizeF l ∧ Lib.hasPrefix l [45] = minusB l := by
  cases l with
  | nil => exact ⟨rfl, rfl⟩
  | cons c r =>
    by_cases h : c = 45
    · subst h; exact ⟨(pre_minus r).1, (pre_minus r).2⟩
    · refine ⟨by rw [(pre_none c r h).1, sizeF_cons, if_neg h], by rw [(pre_none c r h).2]; exact (beq_eq_false_iff_ne.2 h).symm⟩
theorem decV_eq (l : List UInt8) : decV l = decVal l := rfl
theorem digs_is (l : List UInt8) : isDigits (l.takeWhile digB) := fun c hc => by
  have := List.all_eq_true.1 (all_takeWhile digB l) c hc
  simpa [digB] using this
/-- so many digits tell less than that power of ten -/
theorem decV_lt (l : List UInt8) (h : isDigits l) : decV l < 10 ^ l.length := by
  have key : ∀ r : List UInt8, isDigits r.reverse → decV r.reverse < 10 ^ r.length := by
    intro r
    induction r with
    | nil => intro _; decide
    | cons c r ih =>
      intro h
      rw [List.reverse_cons] at h ⊢
      have h1 := ih fun d hd => h d (List.mem_append_left _ hd)
      have h2 := decVal_snoc r.reverse c
      have h3 := h c (by simp)
      rw [decV_eq] at h1 ⊢
      rw [h2, List.length_cons, Nat.pow_succ]
      omega
  have := key l.reverse (by rwa [List.reverse_reverse])
  rwa [List.reverse_reverse, List.length_reverse] at this
theorem decV_18 (l : List UInt8) (h : isDigits l) (hl : l.length ≤ 18) : decV l < 1000000000000000000 := by
  have h1 := decV_lt l h
  have h2 : 10 ^ l.length ≤ 10 ^ 18 := Nat.pow_le_pow_right (by omega) hl
  omega

set_option maxHeartbeats 400000 in
theorem read_gen (s rest digs nm : ByteArray) (minus : Bool) (ps v : Int) (w : World) (hL : LaidW w) (h1 : Lib.trimPrefix s.data.toList [45] = rest.data.toList) (h2 : Lib.hasPrefix s.data.toList [45] = minus)
    (hu : UnitIs nm ps) (hr : rest = digs ++ nm) (hT : Lib.trimLeftS rest.data.toList digitSet.data.toList = nm.data.toList) (hd : isDigits digs.data.toList) (hd0 : 0 < digs.size) (hsz : rest.size ≤ 9223372036854775807) (hv : decVal digs.data.toList < 1000000000000000000) (hvv : (if minus then -(decVal digs.data.toList : Int) else decVal digs.data.toList) = v) :
    Calls Tryz.prog 114 #[.string s] w fun e w' => e = .returned (.tuple #[.int .i64 (timV (v * ps)), .int .i64 (timE (v * ps))]) ∧ Below w.heap.size w w' := by
  have hsum : rest.size = digs.size + nm.size := by rw [hr, ByteArray.size_append]
  have hns : nm.size < rest.size := by omega
  have H1 := hid h1
  have H2 := hid h2
  have HR := hid hr
  have HT := hid hT
  have HS := hid hsum
  have HD := hid hd
  have HU := hid hu
  have HV := hid hv
  have HL := hid hL
  have HVV := hid hvv
  clear h1 h2 hr hT hsum hd hu hv hL hvv
  have hne : ((nm.size : Int) == (rest.size : Int)) = false := beq_eq_false_iff_ne.2 (by omega)
  go_enter Tryz.func114, Tryz.ntmps114
  go_wp2_with fail
  refine (cut_any s rest minus w H1.out H2.out).mono ?_
  rintro e w' ⟨rfl, rfl⟩
  go_wp2_with fail
  refine (trim_any rest nm _ HT.out).mono ?_
  rintro e w1 ⟨rfl, g1⟩
  go_wp2_with fail
  refine (unit_any HU.out w1 (HL.out.below g1)).mono ?_
  rintro e w2 ⟨rfl, g2⟩
  go_wp2_with fail
  have hex : rest.extract 0 (rest.size - nm.size) = digs := by
    rw [HR.out, ByteArray.size_append, Nat.add_sub_cancel]
    apply ByteArray.ext
    rw [ByteArray.data_extract, ByteArray.data_append]
    apply Array.ext'
    rw [Array.toList_extract, Array.toList_append]
    simp only [List.extract_eq_take_drop, Nat.sub_zero, List.drop_zero]
    exact List.take_left' rfl
  rw [hex]
  clear hex
  obtain ⟨hp1, hp2⟩ := unit_size HU.out
  have hp3 := unit_top HU.out
  have hv := HV.out
  have hds : digs.size ≤ 9223372036854775807 := by have := HS.out; omega
  refine (number_any digs w2 HD.out (by omega) hds).mono ?_
  rintro e w3 ⟨rfl, rfl⟩
  have hvv := HVV.out
  clear HVV
  generalize decVal digs.data.toList = u at *
  clear H1 H2 HR HT HS HD HV hns hne hsz hds
  have HM := hid (fun w => mul_all v ps w (by cases minus <;> simp at hvv <;> omega) (by cases minus <;> simp at hvv <;> omega) (by omega) (by omega))
  obtain ⟨X, hX⟩ : ∃ X, timV (v * ps) = X := ⟨_, rfl⟩
  obtain ⟨Y, hY⟩ : ∃ Y, timE (v * ps) = Y := ⟨_, rfl⟩
  rw [hX, hY] at HM
  have HX := hid hX
  have HY := hid hY
  clear hX hY
  cases minus
  · obtain rfl : (u : Int) = v := hvv
    go_wp2_with fail
    refine (may_1 _ _ (u : Int) true (timeB_yes (by omega) (by omega)) _ (by simp)).mono ?_
    rintro e w4 ⟨rfl, rfl⟩
    go_wp2_with fail
    refine (HM.out _).mono ?_
    rintro e w5 ⟨rfl, g5⟩
    go_wp2
    go_ret2
    exact ⟨ret_two HX.out.symm HY.out.symm, (g1.trans (g2.mono g1.size)).trans (((Below.refl _ _).alloc (Nat.le_refl _) _ |>.trans (g5.mono (by simp))).mono (by have := g1.size; have := g2.size; omega))⟩
  · obtain rfl : -(u : Int) = v := hvv
    go_wp2_with fail
    refine (may_1 _ _ (-(u : Int)) true (timeB_yes (by omega) (by omega)) _ (by simp)).mono ?_
    rintro e w4 ⟨rfl, rfl⟩
    go_wp2_with fail
    refine (HM.out _).mono ?_
    rintro e w5 ⟨rfl, g5⟩
    go_wp2
    go_ret2
    exact ⟨ret_two HX.out.symm HY.out.symm, (g1.trans (g2.mono g1.size)).trans (((Below.refl _ _).alloc (Nat.le_refl _) _ |>.trans (g5.mono (by simp))).mono (by have := g1.size; have := g2.size; omega))⟩
end Go.Proofs.YtkfnkieljcipnaaGreatDoor
