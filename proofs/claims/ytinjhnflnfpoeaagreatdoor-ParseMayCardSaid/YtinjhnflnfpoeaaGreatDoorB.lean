/-
  Contracts of pico.bounded, pico.below, bits.Div64 at a high word of 0, and pico.Scale (what it answers, by the sizes' product, given what bits.Div64 answers at that product): each under the ranges in its head.
-/
import Derived.Test.YtinjhnflnfpoeaaGreatDoorA
import Derived.RegionTactic
import Derived.Deep.QuietTactic
import Derived.BigQuiet
import Derived.Deep.Light
import Derived.Test.YtinjhnflnfpoeaaGreatDoorShelf
namespace Go.Proofs.YtinjhnflnfpoeaaGreatDoor
open Go Go.RowKit

theorem bel_drewN {B : Nat} {a w : World} (h : Below B a w) (n : Nat) : Below B a (w.drewN n) := h.trans ⟨rfl, rfl, rfl, Nat.le_refl _, fun _ _ => rfl⟩
theorem ret_two {k1 k2 : IntKind} {a b c d : Int} (h : a = b) (h' : c = d) : Ending.returned (.tuple #[.int k1 a, .int k2 c]) = .returned (.tuple #[.int k1 b, .int k2 d]) := by rw [h, h']
theorem ret_three {k1 k2 k3 : IntKind} {a b c d e f : Int} (h : a = b) (h' : c = d) (h'' : e = f) : Ending.returned (.tuple #[.int k1 a, .int k2 c, .int k3 e]) = .returned (.tuple #[.int k1 b, .int k2 d, .int k3 f]) := by rw [h, h', h'']

theorem timeB_yes {n : Int} (h1 : -1152921504606846976 ≤ n) (h2 : n ≤ 1152921504606846976) : timeB n = true := by
  simp only [timeB, decide_eq_true_eq]; omega
theorem timeB_no {n : Int} (h1 : n < -1152921504606846976 ∨ 1152921504606846976 < n) : timeB n = false := by
  simp only [timeB, decide_eq_false_iff_not]; omega

theorem bounded_ok (n : Int) (w : World) (h1 : -1152921504606846976 ≤ n) (h2 : n ≤ 1152921504606846976) :
    Calls Tryz.prog 126 #[.int .i64 n] w fun e w' => e = .returned (.tuple #[.int .i64 n, .int .i64 0]) ∧ Below w.heap.size w w' := by
  go_enter Tryz.func126, Tryz.ntmps126
  go_wp2_with fail
  refine (may_1 _ _ n true (timeB_yes h1 h2) _ (by simp)).mono ?_
  rintro e w' ⟨rfl, rfl⟩
  go_wp2
  go_ret2
  exact ⟨rfl, (Below.refl _ _).alloc (Nat.le_refl _) _⟩

theorem bounded_no (n : Int) (w : World) (h : n < -1152921504606846976 ∨ 1152921504606846976 < n) :
    Calls Tryz.prog 126 #[.int .i64 n] w fun e w' => e = .returned (.tuple #[.int .i64 0, .int .i64 2]) ∧ Below w.heap.size w w' := by
  have H := hid h
  clear h
  go_enter Tryz.func126, Tryz.ntmps126
  go_wp2_with fail
  refine (may_1 _ _ n false (timeB_no H.out) _ (by simp)).mono ?_
  rintro e w' ⟨rfl, rfl⟩
  go_wp2
  go_ret2
  exact ⟨rfl, (Below.refl _ _).alloc (Nat.le_refl _) _⟩

-- below: n, rest, den with 0 ≤ n ≤ 2^60, 0 ≤ rest < den ≤ 2^60
theorem below_zero_ok (n den : Int) (w : World) (h1 : 0 ≤ n) (h2 : n ≤ 1152921504606846976) :
    Calls Tryz.prog 120 #[.int .i64 n, .int .i64 0, .int .i64 den] w fun e w' => e = .returned (.tuple #[.int .i64 (-n), .int .i64 0, .int .i64 0]) ∧ Below w.heap.size w w' := by
  go_enter Tryz.func120, Tryz.ntmps120
  go_wp2_with fail
  refine (bounded_ok (-n) _ (by omega) (by omega)).mono ?_
  rintro e w' ⟨rfl, hb⟩
  go_wp2
  go_ret3
  exact ⟨rfl, hb⟩

theorem below_ok (n rest den : Int) (w : World) (h1 : 0 ≤ n) (h2 : n < 1152921504606846976) (h3 : 0 < rest) (h4 : rest < den) (h5 : den ≤ 1152921504606846976) :
    Calls Tryz.prog 120 #[.int .i64 n, .int .i64 rest, .int .i64 den] w fun e w' => e = .returned (.tuple #[.int .i64 (-(n + 1)), .int .i64 (den - rest), .int .i64 0]) ∧ Below w.heap.size w w' := by
  go_enter Tryz.func120, Tryz.ntmps120
  go_wp2_with fail
  refine (bounded_ok (-(n + 1)) _ (by omega) (by omega)).mono ?_
  rintro e w' ⟨rfl, hb⟩
  go_wp2
  go_ret3
  exact ⟨rfl, hb⟩

theorem below_over (n rest den : Int) (w : World) (h1 : n = 1152921504606846976) (h3 : 0 < rest) (h4 : rest < den) (h5 : den ≤ 1152921504606846976) :
    Calls Tryz.prog 120 #[.int .i64 n, .int .i64 rest, .int .i64 den] w fun e w' => e = .returned (.tuple #[.int .i64 0, .int .i64 0, .int .i64 2]) ∧ Below w.heap.size w w' := by
  subst h1
  go_enter Tryz.func120, Tryz.ntmps120
  go_wp2_with fail
  refine (bounded_no _ _ (by omega)).mono ?_
  rintro e w' ⟨rfl, hb⟩
  go_wp2
  go_ret3
  exact ⟨rfl, hb⟩

-- Div64 where the high word is 0
theorem div64_low (lo y : Nat) (w : World) (h1 : lo < 18446744073709551616) (h2 : 0 < y) (h3 : y < 18446744073709551616) :
    Calls Tryz.prog 119 #[.int .u64 0, .int .u64 lo, .int .u64 y] w fun e w' => e = .returned (.tuple #[.int .u64 ((lo / y : Nat) : Int), .int .u64 ((lo % y : Nat) : Int)]) ∧ Below w.heap.size w w' := by
  have hy : ((y : Int) == 0) = false := beq_eq_false_iff_ne.2 (by omega)
  have hy2 : decide ((y : Int) ≤ 0) = false := by simp; omega
  go_enter Tryz.func119, Tryz.ntmps119
  go_wp2
  go_quiet (fail)
  go_wp2
  go_ret2
  refine ⟨ret_two (by rw [← Int.natCast_ediv]; exact Go.Proofs.Mul64.wrapN _ (Nat.lt_of_le_of_lt (Nat.div_le_self _ _) h1)) (by omega), bel_drewN (Below.refl _ _) _⟩

/-- what Div64 answers at a high word that is less than what it divides by -/
def DivSaid (p d : Nat) : Prop := ∀ w : World, Calls Tryz.prog 119 #[.int .u64 ((p / 18446744073709551616 : Nat) : Int), .int .u64 ((p % 18446744073709551616 : Nat) : Int), .int .u64 (d : Int)] w fun e w' => e = .returned (.tuple #[.int .u64 ((p / d : Nat) : Int), .int .u64 ((p % d : Nat) : Int)]) ∧ Below w.heap.size w w'

set_option maxHeartbeats 400000 in
theorem scale_same (a b : Int) (d : Nat) (w : World) (ha1 : -1152921504606846976 ≤ a) (ha2 : a ≤ 1152921504606846976) (hb1 : -1152921504606846976 ≤ b) (hb2 : b ≤ 1152921504606846976)
    (hd1 : 1 ≤ d) (hd2 : d ≤ 1152921504606846976) (hs : (a < 0 ↔ b < 0)) (hD : DivSaid (a.natAbs * b.natAbs) d) (hhi : a.natAbs * b.natAbs / 18446744073709551616 < d) (hq : a.natAbs * b.natAbs / d ≤ 1152921504606846976) :
    Calls Tryz.prog 106 #[.int .i64 a, .int .i64 b, .int .i64 d] w fun e w' => e = .returned (.tuple #[.int .i64 ((a.natAbs * b.natAbs / d : Nat) : Int), .int .i64 ((a.natAbs * b.natAbs % d : Nat) : Int), .int .i64 0]) ∧ Below w.heap.size w w' := by
  have hr : a.natAbs * b.natAbs % d < d := Nat.mod_lt _ hd1
  have hsb : (decide (a < 0) == decide (b < 0)) = true := by simp [hs]
  clear hs
  go_enter Tryz.func106, Tryz.ntmps106
  go_wp2_with fail
  refine (may_3 _ _ a b d true (by rw [timeB_yes ha1 ha2, timeB_yes hb1 hb2, timeB_yes (by omega) (by omega)]; rfl) _ (by simp) (by simp) (by simp)).mono ?_
  rintro e w' ⟨rfl, rfl⟩
  go_wp2_with fail
  refine (size_any a _ ha1 ha2).mono ?_
  rintro e w' ⟨rfl, rfl⟩
  go_wp2_with fail
  refine (size_any b _ hb1 hb2).mono ?_
  rintro e w' ⟨rfl, rfl⟩
  go_wp2_with fail
  refine (Tryz.bits_Mul64 a.natAbs b.natAbs (by omega) (by omega) _).mono ?_
  rintro e w' ⟨rfl, rfl⟩
  generalize hp : a.natAbs * b.natAbs = p at *
  have HP := hid hp
  clear hp
  go_wp2_with fail
  refine (hD _).mono ?_
  rintro e w' ⟨rfl, hb⟩
  generalize hqq : p / d = q at *
  have HQ := hid hqq
  clear hqq
  generalize hrr : p % d = r at *
  have HR := hid hrr
  clear hrr
  go_wp2
  go_ret3
  exact ⟨ret_three (by rw [HP.out, HQ.out]) (by rw [HP.out, HR.out]) rfl, ((Below.refl _ _).alloc (Nat.le_refl _) _).trans (hb.mono (by simp))⟩

set_option maxHeartbeats 400000 in
theorem scale_opp0 (a b : Int) (d : Nat) (w : World) (ha1 : -1152921504606846976 ≤ a) (ha2 : a ≤ 1152921504606846976) (hb1 : -1152921504606846976 ≤ b) (hb2 : b ≤ 1152921504606846976)
    (hd1 : 1 ≤ d) (hd2 : d ≤ 1152921504606846976) (hs : ¬ (a < 0 ↔ b < 0)) (hD : DivSaid (a.natAbs * b.natAbs) d) (hhi : a.natAbs * b.natAbs / 18446744073709551616 < d) (hq : a.natAbs * b.natAbs / d ≤ 1152921504606846976) (hr0 : a.natAbs * b.natAbs % d = 0) :
    Calls Tryz.prog 106 #[.int .i64 a, .int .i64 b, .int .i64 d] w fun e w' => e = .returned (.tuple #[.int .i64 (-((a.natAbs * b.natAbs / d : Nat) : Int)), .int .i64 0, .int .i64 0]) ∧ Below w.heap.size w w' := by
  have hr : a.natAbs * b.natAbs % d < d := Nat.mod_lt _ hd1
  have hsb : (decide (a < 0) == decide (b < 0)) = false := by rw [beq_eq_false_iff_ne, ne_eq, decide_eq_decide]; exact hs
  clear hs
  go_enter Tryz.func106, Tryz.ntmps106
  go_wp2_with fail
  refine (may_3 _ _ a b d true (by rw [timeB_yes ha1 ha2, timeB_yes hb1 hb2, timeB_yes (by omega) (by omega)]; rfl) _ (by simp) (by simp) (by simp)).mono ?_
  rintro e w' ⟨rfl, rfl⟩
  go_wp2_with fail
  refine (size_any a _ ha1 ha2).mono ?_
  rintro e w' ⟨rfl, rfl⟩
  go_wp2_with fail
  refine (size_any b _ hb1 hb2).mono ?_
  rintro e w' ⟨rfl, rfl⟩
  go_wp2_with fail
  refine (Tryz.bits_Mul64 a.natAbs b.natAbs (by omega) (by omega) _).mono ?_
  rintro e w' ⟨rfl, rfl⟩
  generalize hp : a.natAbs * b.natAbs = p at *
  have HP := hid hp
  clear hp
  go_wp2_with fail
  refine (hD _).mono ?_
  rintro e w' ⟨rfl, hb⟩
  generalize hqq : p / d = q at *
  have HQ := hid hqq
  clear hqq
  generalize hrr : p % d = r at *
  have HR := hid hrr
  clear hrr
  subst hr0
  go_wp2_with fail
  refine (below_zero_ok (q : Int) _ _ (by omega) (by omega)).mono ?_
  rintro e w' ⟨rfl, hb'⟩
  go_wp2
  go_ret3
  exact ⟨ret_three (by rw [HP.out, HQ.out]) rfl rfl, (((Below.refl _ _).alloc (Nat.le_refl _) _).trans (hb.mono (by simp))).trans (hb'.mono (by have := hb.size; simp at this; omega))⟩

set_option maxHeartbeats 400000 in
theorem scale_opp (a b : Int) (d : Nat) (w : World) (ha1 : -1152921504606846976 ≤ a) (ha2 : a ≤ 1152921504606846976) (hb1 : -1152921504606846976 ≤ b) (hb2 : b ≤ 1152921504606846976)
    (hd1 : 1 ≤ d) (hd2 : d ≤ 1152921504606846976) (hs : ¬ (a < 0 ↔ b < 0)) (hD : DivSaid (a.natAbs * b.natAbs) d) (hhi : a.natAbs * b.natAbs / 18446744073709551616 < d) (hq : a.natAbs * b.natAbs / d < 1152921504606846976) (hr0 : 0 < a.natAbs * b.natAbs % d) :
    Calls Tryz.prog 106 #[.int .i64 a, .int .i64 b, .int .i64 d] w fun e w' => e = .returned (.tuple #[.int .i64 (-(((a.natAbs * b.natAbs / d : Nat) : Int) + 1)), .int .i64 ((d : Int) - ((a.natAbs * b.natAbs % d : Nat) : Int)), .int .i64 0]) ∧ Below w.heap.size w w' := by
  have hr : a.natAbs * b.natAbs % d < d := Nat.mod_lt _ hd1
  have hsb : (decide (a < 0) == decide (b < 0)) = false := by rw [beq_eq_false_iff_ne, ne_eq, decide_eq_decide]; exact hs
  clear hs
  go_enter Tryz.func106, Tryz.ntmps106
  go_wp2_with fail
  refine (may_3 _ _ a b d true (by rw [timeB_yes ha1 ha2, timeB_yes hb1 hb2, timeB_yes (by omega) (by omega)]; rfl) _ (by simp) (by simp) (by simp)).mono ?_
  rintro e w' ⟨rfl, rfl⟩
  go_wp2_with fail
  refine (size_any a _ ha1 ha2).mono ?_
  rintro e w' ⟨rfl, rfl⟩
  go_wp2_with fail
  refine (size_any b _ hb1 hb2).mono ?_
  rintro e w' ⟨rfl, rfl⟩
  go_wp2_with fail
  refine (Tryz.bits_Mul64 a.natAbs b.natAbs (by omega) (by omega) _).mono ?_
  rintro e w' ⟨rfl, rfl⟩
  generalize hp : a.natAbs * b.natAbs = p at *
  have HP := hid hp
  clear hp
  go_wp2_with fail
  refine (hD _).mono ?_
  rintro e w' ⟨rfl, hb⟩
  generalize hqq : p / d = q at *
  have HQ := hid hqq
  clear hqq
  generalize hrr : p % d = r at *
  have HR := hid hrr
  clear hrr
  go_wp2_with fail
  refine (below_ok (q : Int) (r : Int) d _ (by omega) (by omega) (by omega) (by omega) (by omega)).mono ?_
  rintro e w' ⟨rfl, hb'⟩
  go_wp2
  go_ret3
  exact ⟨ret_three (by rw [HP.out, HQ.out]) (by rw [HP.out, HR.out]) rfl, (((Below.refl _ _).alloc (Nat.le_refl _) _).trans (hb.mono (by simp))).trans (hb'.mono (by have := hb.size; simp at this; omega))⟩

set_option maxHeartbeats 400000 in
theorem scale_opp_over (a b : Int) (d : Nat) (w : World) (ha1 : -1152921504606846976 ≤ a) (ha2 : a ≤ 1152921504606846976) (hb1 : -1152921504606846976 ≤ b) (hb2 : b ≤ 1152921504606846976)
    (hd1 : 1 ≤ d) (hd2 : d ≤ 1152921504606846976) (hs : ¬ (a < 0 ↔ b < 0)) (hD : DivSaid (a.natAbs * b.natAbs) d) (hhi : a.natAbs * b.natAbs / 18446744073709551616 < d) (hq : a.natAbs * b.natAbs / d = 1152921504606846976) (hr0 : 0 < a.natAbs * b.natAbs % d) :
    Calls Tryz.prog 106 #[.int .i64 a, .int .i64 b, .int .i64 d] w fun e w' => e = .returned (.tuple #[.int .i64 0, .int .i64 0, .int .i64 2]) ∧ Below w.heap.size w w' := by
  have hr : a.natAbs * b.natAbs % d < d := Nat.mod_lt _ hd1
  have hsb : (decide (a < 0) == decide (b < 0)) = false := by rw [beq_eq_false_iff_ne, ne_eq, decide_eq_decide]; exact hs
  clear hs
  go_enter Tryz.func106, Tryz.ntmps106
  go_wp2_with fail
  refine (may_3 _ _ a b d true (by rw [timeB_yes ha1 ha2, timeB_yes hb1 hb2, timeB_yes (by omega) (by omega)]; rfl) _ (by simp) (by simp) (by simp)).mono ?_
  rintro e w' ⟨rfl, rfl⟩
  go_wp2_with fail
  refine (size_any a _ ha1 ha2).mono ?_
  rintro e w' ⟨rfl, rfl⟩
  go_wp2_with fail
  refine (size_any b _ hb1 hb2).mono ?_
  rintro e w' ⟨rfl, rfl⟩
  go_wp2_with fail
  refine (Tryz.bits_Mul64 a.natAbs b.natAbs (by omega) (by omega) _).mono ?_
  rintro e w' ⟨rfl, rfl⟩
  generalize hp : a.natAbs * b.natAbs = p at *
  have HP := hid hp
  clear hp
  go_wp2_with fail
  refine (hD _).mono ?_
  rintro e w' ⟨rfl, hb⟩
  generalize hqq : p / d = q at *
  have HQ := hid hqq
  clear hqq
  generalize hrr : p % d = r at *
  have HR := hid hrr
  clear hrr
  subst hq
  go_wp2_with fail
  refine (below_over _ (r : Int) d _ rfl (by omega) (by omega) (by omega)).mono ?_
  rintro e w' ⟨rfl, hb'⟩
  go_wp2
  go_ret3
  exact ⟨rfl, (((Below.refl _ _).alloc (Nat.le_refl _) _).trans (hb.mono (by simp))).trans (hb'.mono (by have := hb.size; simp at this; omega))⟩

set_option maxHeartbeats 400000 in
theorem scale_over_hi (a b : Int) (d : Nat) (w : World) (ha1 : -1152921504606846976 ≤ a) (ha2 : a ≤ 1152921504606846976) (hb1 : -1152921504606846976 ≤ b) (hb2 : b ≤ 1152921504606846976)
    (hd1 : 1 ≤ d) (hd2 : d ≤ 1152921504606846976) (hhi : d ≤ a.natAbs * b.natAbs / 18446744073709551616) :
    Calls Tryz.prog 106 #[.int .i64 a, .int .i64 b, .int .i64 d] w fun e w' => e = .returned (.tuple #[.int .i64 0, .int .i64 0, .int .i64 2]) ∧ Below w.heap.size w w' := by
  go_enter Tryz.func106, Tryz.ntmps106
  go_wp2_with fail
  refine (may_3 _ _ a b d true (by rw [timeB_yes ha1 ha2, timeB_yes hb1 hb2, timeB_yes (by omega) (by omega)]; rfl) _ (by simp) (by simp) (by simp)).mono ?_
  rintro e w' ⟨rfl, rfl⟩
  go_wp2_with fail
  refine (size_any a _ ha1 ha2).mono ?_
  rintro e w' ⟨rfl, rfl⟩
  go_wp2_with fail
  refine (size_any b _ hb1 hb2).mono ?_
  rintro e w' ⟨rfl, rfl⟩
  go_wp2_with fail
  refine (Tryz.bits_Mul64 a.natAbs b.natAbs (by omega) (by omega) _).mono ?_
  rintro e w' ⟨rfl, rfl⟩
  generalize hp : a.natAbs * b.natAbs = p at *
  have HP := hid hp
  clear hp
  go_wp2
  go_ret3
  exact ⟨rfl, (Below.refl _ _).alloc (Nat.le_refl _) _⟩

set_option maxHeartbeats 400000 in
theorem scale_over (a b : Int) (d : Nat) (w : World) (ha1 : -1152921504606846976 ≤ a) (ha2 : a ≤ 1152921504606846976) (hb1 : -1152921504606846976 ≤ b) (hb2 : b ≤ 1152921504606846976)
    (hd1 : 1 ≤ d) (hd2 : d ≤ 1152921504606846976) (hD : DivSaid (a.natAbs * b.natAbs) d) (hhi : a.natAbs * b.natAbs / 18446744073709551616 < d) (hq : 1152921504606846976 < a.natAbs * b.natAbs / d) :
    Calls Tryz.prog 106 #[.int .i64 a, .int .i64 b, .int .i64 d] w fun e w' => e = .returned (.tuple #[.int .i64 0, .int .i64 0, .int .i64 2]) ∧ Below w.heap.size w w' := by
  go_enter Tryz.func106, Tryz.ntmps106
  go_wp2_with fail
  refine (may_3 _ _ a b d true (by rw [timeB_yes ha1 ha2, timeB_yes hb1 hb2, timeB_yes (by omega) (by omega)]; rfl) _ (by simp) (by simp) (by simp)).mono ?_
  rintro e w' ⟨rfl, rfl⟩
  go_wp2_with fail
  refine (size_any a _ ha1 ha2).mono ?_
  rintro e w' ⟨rfl, rfl⟩
  go_wp2_with fail
  refine (size_any b _ hb1 hb2).mono ?_
  rintro e w' ⟨rfl, rfl⟩
  go_wp2_with fail
  refine (Tryz.bits_Mul64 a.natAbs b.natAbs (by omega) (by omega) _).mono ?_
  rintro e w' ⟨rfl, rfl⟩
  generalize hp : a.natAbs * b.natAbs = p at *
  have HP := hid hp
  clear hp
  go_wp2_with fail
  refine (hD _).mono ?_
  rintro e w' ⟨rfl, hb⟩
  generalize hqq : p / d = q at *
  have HQ := hid hqq
  clear hqq
  generalize hrr : p % d = r at *
  have HR := hid hrr
  clear hrr
  go_wp2
  go_ret3
  exact ⟨rfl, ((Below.refl _ _).alloc (Nat.le_refl _) _).trans (hb.mono (by simp))⟩

set_option maxHeartbeats 400000 in
theorem scale_arg (a b d : Int) (w : World) (h : (timeB a && (timeB b && timeB d)) = false) :
    Calls Tryz.prog 106 #[.int .i64 a, .int .i64 b, .int .i64 d] w fun e w' => e = .returned (.tuple #[.int .i64 0, .int .i64 0, .int .i64 1]) ∧ Below w.heap.size w w' := by
  have H := hid h
  clear h
  go_enter Tryz.func106, Tryz.ntmps106
  go_wp2_with fail
  refine (may_3 _ _ a b d false H.out _ (by simp) (by simp) (by simp)).mono ?_
  rintro e w' ⟨rfl, rfl⟩
  go_wp2
  go_ret3
  exact ⟨rfl, (Below.refl _ _).alloc (Nat.le_refl _) _⟩

set_option maxHeartbeats 400000 in
theorem scale_arg_den (a b d : Int) (w : World) (h : (timeB a && (timeB b && timeB d)) = true) (hd : d < 1) :
    Calls Tryz.prog 106 #[.int .i64 a, .int .i64 b, .int .i64 d] w fun e w' => e = .returned (.tuple #[.int .i64 0, .int .i64 0, .int .i64 1]) ∧ Below w.heap.size w w' := by
  have H := hid h
  clear h
  go_enter Tryz.func106, Tryz.ntmps106
  go_wp2_with fail
  refine (may_3 _ _ a b d true H.out _ (by simp) (by simp) (by simp)).mono ?_
  rintro e w' ⟨rfl, rfl⟩
  go_wp2
  go_ret3
  exact ⟨rfl, (Below.refl _ _).alloc (Nat.le_refl _) _⟩
end Go.Proofs.YtinjhnflnfpoeaaGreatDoor
