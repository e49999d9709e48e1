/-
  pico.Scale at any three numbers, pico.Mul, pico.Add and pico.Sub: what they answer, under the ranges in their heads; no table is used.
-/
import Derived.Test.YtmmcnbhhdgnljaaO
import Derived.Test.YtmmcnbhhdgnljaaE
namespace Go.Proofs.Ytmmcnbhhdgnljaa
open Go Go.RowKit

theorem hi_of_quo (a b d : Int) (hd1 : 1 ≤ d) (h1 : -1152921504606846976 ≤ a * b / d) (h2 : a * b / d ≤ 1152921504606846976) : a.natAbs * b.natAbs / 18446744073709551616 < d.toNat := by
  obtain ⟨n, rfl⟩ := Int.eq_ofNat_of_zero_le (show 0 ≤ d by omega)
  rw [Int.toNat_natCast]
  have key : a.natAbs * b.natAbs / n ≤ 1152921504606846976 := by
    by_cases hs : (a < 0 ↔ b < 0)
    · rw [same_mul a b hs, ← Int.natCast_ediv] at h2
      generalize a.natAbs * b.natAbs / n = q at *
      omega
    · rw [opp_mul a b hs] at h1
      by_cases hr : a.natAbs * b.natAbs % n = 0
      · rw [(neg_div0 _ n (by omega) hr).1] at h1
        generalize a.natAbs * b.natAbs / n = q at *
        omega
      · rw [(neg_div1 _ n (by omega) (Nat.pos_of_ne_zero hr)).1] at h1
        generalize a.natAbs * b.natAbs / n = q at *
        omega
  exact hi_lt _ _ (by omega) key

/-- pico.Scale at any three numbers -/
theorem scaled (a b d : Int) (w : World) (ha1 : -1152921504606846976 ≤ a) (ha2 : a ≤ 1152921504606846976) (hb1 : -1152921504606846976 ≤ b) (hb2 : b ≤ 1152921504606846976)
    (hd1 : 1 ≤ d) (hd2 : d ≤ 1152921504606846976) (hq1 : -1152921504606846976 ≤ a * b / d) (hq2 : a * b / d ≤ 1152921504606846976) :
    Calls Try.prog 15 #[.int .i64 a, .int .i64 b, .int .i64 d] w fun e w' => e = .returned (.tuple #[.int .i64 (a * b / d), .int .i64 (a * b % d), .int .i64 0]) ∧ Below w.heap.size w w' :=
  scale_ok a b d w ha1 ha2 hb1 hb2 hd1 hd2 (div_any _ _ (by omega) (hi_of_quo a b d hd1 hq1 hq2) (by omega)) hq1 hq2
theorem scaled_over (a b d : Int) (w : World) (ha1 : -1152921504606846976 ≤ a) (ha2 : a ≤ 1152921504606846976) (hb1 : -1152921504606846976 ≤ b) (hb2 : b ≤ 1152921504606846976)
    (hd1 : 1 ≤ d) (hd2 : d ≤ 1152921504606846976) (hq : a * b / d < -1152921504606846976 ∨ 1152921504606846976 < a * b / d) :
    Calls Try.prog 15 #[.int .i64 a, .int .i64 b, .int .i64 d] w fun e w' => e = .returned (.tuple #[.int .i64 0, .int .i64 0, .int .i64 2]) ∧ Below w.heap.size w w' :=
  scale_ov a b d w ha1 ha2 hb1 hb2 hd1 hd2 (fun h => div_any _ _ (by omega) h (by omega)) hq
/-- one of the three is no time, or the last is below 1 -/
def BadArgs (a b d : Int) : Prop := (timeB a && (timeB b && timeB d)) = false ∨ d < 1
theorem scaled_arg (a b d : Int) (w : World) (h : BadArgs a b d) :
    Calls Try.prog 15 #[.int .i64 a, .int .i64 b, .int .i64 d] w fun e w' => e = .returned (.tuple #[.int .i64 0, .int .i64 0, .int .i64 1]) ∧ Below w.heap.size w w' := by
  cases hb : (timeB a && (timeB b && timeB d)) with
  | false => exact scale_arg a b d w hb
  | true =>
    rcases h with h | h
    · rw [hb] at h; cases h
    · exact scale_arg_den a b d w hb h
theorem good_args {a b d : Int} (h : ¬ BadArgs a b d) : (-1152921504606846976 ≤ a ∧ a ≤ 1152921504606846976) ∧ (-1152921504606846976 ≤ b ∧ b ≤ 1152921504606846976) ∧ 1 ≤ d ∧ d ≤ 1152921504606846976 := by
  unfold BadArgs at h
  simp only [not_or, Bool.not_eq_false, Bool.and_eq_true, timeB, decide_eq_true_eq] at h
  omega

theorem mul_ok (a b : Int) (w : World) (ha1 : -1152921504606846976 ≤ a) (ha2 : a ≤ 1152921504606846976) (hb1 : -1152921504606846976 ≤ b) (hb2 : b ≤ 1152921504606846976)
    (hD : DivSaid (a.natAbs * b.natAbs) 1) (hq1 : -1152921504606846976 ≤ a * b) (hq2 : a * b ≤ 1152921504606846976) :
    Calls Try.prog 19 #[.int .i64 a, .int .i64 b] w fun e w' => e = .returned (.tuple #[.int .i64 (a * b), .int .i64 0]) ∧ Below w.heap.size w w' := by
  go_enter Try.func19, Try.ntmps19
  go_wp2_with fail
  refine (scale_ok a b 1 w ha1 ha2 hb1 hb2 (by omega) (by omega) hD (by rw [Int.ediv_one]; exact hq1) (by rw [Int.ediv_one]; exact hq2)).mono ?_
  rintro e w' ⟨rfl, hb⟩
  rw [Int.ediv_one]
  go_wp2
  go_ret2
  exact ⟨rfl, hb⟩

/-! pico.Add and pico.Sub -/
theorem add_ok (a b : Int) (w : World) (ha1 : -1152921504606846976 ≤ a) (ha2 : a ≤ 1152921504606846976) (hb1 : -1152921504606846976 ≤ b) (hb2 : b ≤ 1152921504606846976) (h1 : -1152921504606846976 ≤ a + b) (h2 : a + b ≤ 1152921504606846976) :
    Calls Try.prog 16 #[.int .i64 a, .int .i64 b] w fun e w' => e = .returned (.tuple #[.int .i64 (a + b), .int .i64 0]) ∧ Below w.heap.size w w' := by
  go_enter Try.func16, Try.ntmps16
  go_wp2_with fail
  refine (may_2 _ _ a b true (by rw [timeB_yes ha1 ha2, timeB_yes hb1 hb2]; rfl) _ (by simp) (by simp)).mono ?_
  rintro e w' ⟨rfl, rfl⟩
  go_wp2_with fail
  refine (bounded_ok (a + b) _ h1 h2).mono ?_
  rintro e w1 ⟨rfl, g1⟩
  go_wp2
  go_ret2
  exact ⟨rfl, ((Below.refl _ _).alloc (Nat.le_refl _) _).trans (g1.mono (by simp))⟩
theorem add_over (a b : Int) (w : World) (ha1 : -1152921504606846976 ≤ a) (ha2 : a ≤ 1152921504606846976) (hb1 : -1152921504606846976 ≤ b) (hb2 : b ≤ 1152921504606846976) (h : a + b < -1152921504606846976 ∨ 1152921504606846976 < a + b) :
    Calls Try.prog 16 #[.int .i64 a, .int .i64 b] w fun e w' => e = .returned (.tuple #[.int .i64 0, .int .i64 2]) ∧ Below w.heap.size w w' := by
  have H := hid h
  clear h
  go_enter Try.func16, Try.ntmps16
  go_wp2_with fail
  refine (may_2 _ _ a b true (by rw [timeB_yes ha1 ha2, timeB_yes hb1 hb2]; rfl) _ (by simp) (by simp)).mono ?_
  rintro e w' ⟨rfl, rfl⟩
  go_wp2_with fail
  refine (bounded_no (a + b) _ H.out).mono ?_
  rintro e w1 ⟨rfl, g1⟩
  go_wp2
  go_ret2
  exact ⟨rfl, ((Below.refl _ _).alloc (Nat.le_refl _) _).trans (g1.mono (by simp))⟩
theorem add_arg (a b : Int) (w : World) (h : (timeB a && timeB b) = false) :
    Calls Try.prog 16 #[.int .i64 a, .int .i64 b] w fun e w' => e = .returned (.tuple #[.int .i64 0, .int .i64 1]) ∧ Below w.heap.size w w' := by
  have H := hid h
  clear h
  go_enter Try.func16, Try.ntmps16
  go_wp2_with fail
  refine (may_2 _ _ a b false H.out _ (by simp) (by simp)).mono ?_
  rintro e w' ⟨rfl, rfl⟩
  go_wp2
  go_ret2
  exact ⟨rfl, (Below.refl _ _).alloc (Nat.le_refl _) _⟩
theorem sub_ok (a b : Int) (w : World) (ha1 : -1152921504606846976 ≤ a) (ha2 : a ≤ 1152921504606846976) (hb1 : -1152921504606846976 ≤ b) (hb2 : b ≤ 1152921504606846976) (h1 : -1152921504606846976 ≤ a - b) (h2 : a - b ≤ 1152921504606846976) :
    Calls Try.prog 18 #[.int .i64 a, .int .i64 b] w fun e w' => e = .returned (.tuple #[.int .i64 (a - b), .int .i64 0]) ∧ Below w.heap.size w w' := by
  go_enter Try.func18, Try.ntmps18
  go_wp2_with fail
  refine (may_2 _ _ a b true (by rw [timeB_yes ha1 ha2, timeB_yes hb1 hb2]; rfl) _ (by simp) (by simp)).mono ?_
  rintro e w' ⟨rfl, rfl⟩
  go_wp2_with fail
  refine (bounded_ok (a - b) _ h1 h2).mono ?_
  rintro e w1 ⟨rfl, g1⟩
  go_wp2
  go_ret2
  exact ⟨rfl, ((Below.refl _ _).alloc (Nat.le_refl _) _).trans (g1.mono (by simp))⟩
theorem sub_over (a b : Int) (w : World) (ha1 : -1152921504606846976 ≤ a) (ha2 : a ≤ 1152921504606846976) (hb1 : -1152921504606846976 ≤ b) (hb2 : b ≤ 1152921504606846976) (h : a - b < -1152921504606846976 ∨ 1152921504606846976 < a - b) :
    Calls Try.prog 18 #[.int .i64 a, .int .i64 b] w fun e w' => e = .returned (.tuple #[.int .i64 0, .int .i64 2]) ∧ Below w.heap.size w w' := by
  have H := hid h
  clear h
  go_enter Try.func18, Try.ntmps18
  go_wp2_with fail
  refine (may_2 _ _ a b true (by rw [timeB_yes ha1 ha2, timeB_yes hb1 hb2]; rfl) _ (by simp) (by simp)).mono ?_
  rintro e w' ⟨rfl, rfl⟩
  go_wp2_with fail
  refine (bounded_no (a - b) _ H.out).mono ?_
  rintro e w1 ⟨rfl, g1⟩
  go_wp2
  go_ret2
  exact ⟨rfl, ((Below.refl _ _).alloc (Nat.le_refl _) _).trans (g1.mono (by simp))⟩
theorem sub_arg (a b : Int) (w : World) (h : (timeB a && timeB b) = false) :
    Calls Try.prog 18 #[.int .i64 a, .int .i64 b] w fun e w' => e = .returned (.tuple #[.int .i64 0, .int .i64 1]) ∧ Below w.heap.size w w' := by
  have H := hid h
  clear h
  go_enter Try.func18, Try.ntmps18
  go_wp2_with fail
  refine (may_2 _ _ a b false H.out _ (by simp) (by simp)).mono ?_
  rintro e w' ⟨rfl, rfl⟩
  go_wp2
  go_ret2
  exact ⟨rfl, (Below.refl _ _).alloc (Nat.le_refl _) _⟩
end Go.Proofs.Ytmmcnbhhdgnljaa
