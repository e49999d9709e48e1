/-
  pico.Scale at any three numbers, and the walk of the statement PicoScales: it returns true at every input; under: the tables hold what the program lays (LaidW).
-/
import Derived.Test.YtfhiiklpclkelaaDoorO
import Derived.Test.YtfhiiklpclkelaaDoorE
namespace Go.Proofs.YtfhiiklpclkelaaDoor
open Go Go.RowKit

theorem hi_of_quo (a b d : Int) (hd1 : 1 ≤ d) (h1 : -1152921504606846976 ≤ a * b / d) (h2 : a * b / d ≤ 1152921504606846976) : a.natAbs * b.natAbs / 18446744073709551616 < d.toNat := by
  obtain ⟨n, rfl⟩ := Int.eq_ofNat_of_zero_le (show 0 ≤ d by omega)
  rw [Int.toNat_natCast]
  have key : a.natAbs * b.natAbs / n ≤ 1152921504606846976 := by
    by_cases hs : (a < 0 ↔ b < 0)
    · rw [same_mul a b hs, ← Int.natCast_ediv] at h2
      generalize a.natAbs * b.natAbs / n = q at *
      omega
    · rw [opp_mul a b hs] at h1
      by_cases hr : a.natAbs * b.natAbs % n = 0
      · rw [(neg_div0 _ n (by omega) hr).1] at h1
        generalize a.natAbs * b.natAbs / n = q at *
        omega
      · rw [(neg_div1 _ n (by omega) (Nat.pos_of_ne_zero hr)).1] at h1
        generalize a.natAbs * b.natAbs / n = q at *
        omega
  exact hi_lt _ _ (by omega) key

/-- pico.Scale at any three numbers -/
theorem scaled (a b d : Int) (w : World) (ha1 : -1152921504606846976 ≤ a) (ha2 : a ≤ 1152921504606846976) (hb1 : -1152921504606846976 ≤ b) (hb2 : b ≤ 1152921504606846976)
    (hd1 : 1 ≤ d) (hd2 : d ≤ 1152921504606846976) (hq1 : -1152921504606846976 ≤ a * b / d) (hq2 : a * b / d ≤ 1152921504606846976) :
    Calls Tryd.prog 16 #[.int .i64 a, .int .i64 b, .int .i64 d] w fun e w' => e = .returned (.tuple #[.int .i64 (a * b / d), .int .i64 (a * b % d), .int .i64 0]) ∧ Below w.heap.size w w' :=
  scale_ok a b d w ha1 ha2 hb1 hb2 hd1 hd2 (div_any _ _ (by omega) (hi_of_quo a b d hd1 hq1 hq2) (by omega)) hq1 hq2
theorem scaled_over (a b d : Int) (w : World) (ha1 : -1152921504606846976 ≤ a) (ha2 : a ≤ 1152921504606846976) (hb1 : -1152921504606846976 ≤ b) (hb2 : b ≤ 1152921504606846976)
    (hd1 : 1 ≤ d) (hd2 : d ≤ 1152921504606846976) (hq : a * b / d < -1152921504606846976 ∨ 1152921504606846976 < a * b / d) :
    Calls Tryd.prog 16 #[.int .i64 a, .int .i64 b, .int .i64 d] w fun e w' => e = .returned (.tuple #[.int .i64 0, .int .i64 0, .int .i64 2]) ∧ Below w.heap.size w w' :=
  scale_ov a b d w ha1 ha2 hb1 hb2 hd1 hd2 (fun h => div_any _ _ (by omega) h (by omega)) hq
/-- one of the three is no time, or the last is below 1 -/
def BadArgs (a b d : Int) : Prop := (timeB a && (timeB b && timeB d)) = false ∨ d < 1
theorem scaled_arg (a b d : Int) (w : World) (h : BadArgs a b d) :
    Calls Tryd.prog 16 #[.int .i64 a, .int .i64 b, .int .i64 d] w fun e w' => e = .returned (.tuple #[.int .i64 0, .int .i64 0, .int .i64 1]) ∧ Below w.heap.size w w' := by
  cases hb : (timeB a && (timeB b && timeB d)) with
  | false => exact scale_arg a b d w hb
  | true =>
    rcases h with h | h
    · rw [hb] at h; cases h
    · exact scale_arg_den a b d w hb h
theorem good_args {a b d : Int} (h : ¬ BadArgs a b d) : (-1152921504606846976 ≤ a ∧ a ≤ 1152921504606846976) ∧ (-1152921504606846976 ≤ b ∧ b ≤ 1152921504606846976) ∧ 1 ≤ d ∧ d ≤ 1152921504606846976 := by
  unfold BadArgs at h
  simp only [not_or, Bool.not_eq_false, Bool.and_eq_true, timeB, decide_eq_true_eq] at h
  omega

set_option maxRecDepth 100000 in
set_option maxHeartbeats 400000 in
theorem scales_err (a b d c : Int) (w : World) (hL : LaidW w) (hc : c = 1 ∨ c = 2) (hS : ∀ w : World, Calls Tryd.prog 16 #[.int .i64 a, .int .i64 b, .int .i64 d] w fun e w' => e = .returned (.tuple #[.int .i64 0, .int .i64 0, .int .i64 c]) ∧ Below w.heap.size w w') :
    Calls Tryd.prog 5 #[.int .i64 a, .int .i64 b, .int .i64 d] w fun e w' => e = .returned (.bool true) ∧ Below w.heap.size w w' := by
  have HS := hid hS
  have hc0 : (c != 0) = true := by rw [bne_iff_ne]; omega
  clear hS hc
  go_enter Tryd.func5, Tryd.ntmps5
  go_wp2_with fail
  refine (live_any w hL).mono ?_
  rintro e w1 ⟨rfl, g1⟩
  go_wp2_with fail
  refine (HS.out w1).mono ?_
  rintro e w2 ⟨rfl, g2⟩
  go_wp2
  go_ret
  exact ⟨ret_bool (by simp), g1.trans (g2.mono g1.size)⟩

set_option maxRecDepth 100000 in
set_option maxHeartbeats 400000 in
theorem scales_ok (a b d : Int) (w : World) (hL : LaidW w) (ha1 : -1152921504606846976 ≤ a) (ha2 : a ≤ 1152921504606846976) (hb1 : -1152921504606846976 ≤ b) (hb2 : b ≤ 1152921504606846976)
    (hd1 : 1 ≤ d) (hd2 : d ≤ 1152921504606846976) (hq1 : -1152921504606846976 ≤ a * b / d) (hq2 : a * b / d ≤ 1152921504606846976) :
    Calls Tryd.prog 5 #[.int .i64 a, .int .i64 b, .int .i64 d] w fun e w' => e = .returned (.bool true) ∧ Below w.heap.size w w' := by
  have hS := scaled b a d
  rw [Int.mul_comm b a] at hS
  have HS := hid (fun w => hS w hb1 hb2 ha1 ha2 hd1 hd2 hq1 hq2)
  have m0 := Int.emod_nonneg (a * b) (show d ≠ 0 by omega)
  have m1 := Int.emod_lt_of_pos (a * b) (show 0 < d by omega)
  have me : a * b / d * d + a * b % d = a * b := by rw [Int.mul_comm]; exact Int.mul_ediv_add_emod (a * b) d
  have HE : Hid (∀ q r, q = a * b / d → r = a * b % d → q * d + r = a * b) := hid (fun q r h h' => by rw [h, h']; exact me)
  have HS1 := hid (scaled a b d)
  clear hS me
  go_enter Tryd.func5, Tryd.ntmps5
  go_wp2_with fail
  refine (live_any w hL).mono ?_
  rintro e w1 ⟨rfl, g1⟩
  go_wp2_with fail
  refine (HS1.out w1 ha1 ha2 hb1 hb2 hd1 hd2 hq1 hq2).mono ?_
  rintro e w2 ⟨rfl, g2⟩
  have me : a * b / d * d + a * b % d = a * b := HE.out _ _ rfl rfl
  generalize hqq : a * b / d = q at *
  generalize hrr : a * b % d = r at *
  generalize hpp : a * b = p at *
  clear hqq hrr HE
  have hnr : decide (r < 0) = false := by simp; omega
  have hnr2 : decide (d ≤ r) = false := by simp; omega
  have hne : (wrap64 (wrap64 (q * d) + r) != wrap64 p) = false := by
    have e : wrap64 (wrap64 (q * d) + r) = wrap64 p := by
      unfold wrap64
      generalize q * d = m at *
      omega
    rw [e]
    simp
  clear me
  go_wp2_with fail
  refine (HS.out w2).mono ?_
  rintro e w3 ⟨rfl, g3⟩
  go_wp2
  go_ret
  exact ⟨ret_bool (by simp), (g1.trans (g2.mono g1.size)).trans (g3.mono (by have := g1.size; have := g2.size; omega))⟩

theorem scales_walk (a b d : Int) (w : World) (hL : LaidW w) (_ : -9223372036854775808 ≤ a) (_ : a ≤ 9223372036854775807) (_ : -9223372036854775808 ≤ b) (_ : b ≤ 9223372036854775807) (_ : -9223372036854775808 ≤ d) (_ : d ≤ 9223372036854775807) :
    Calls Tryd.prog 5 #[.int .i64 a, .int .i64 b, .int .i64 d] w fun e w' => e = .returned (.bool true) ∧ Below w.heap.size w w' := by
  by_cases hB : BadArgs a b d
  · exact scales_err a b d 1 w hL (.inl rfl) (fun w => scaled_arg a b d w hB)
  · obtain ⟨⟨ha1, ha2⟩, ⟨hb1, hb2⟩, hd1, hd2⟩ := good_args hB
    by_cases hq : -1152921504606846976 ≤ a * b / d ∧ a * b / d ≤ 1152921504606846976
    · exact scales_ok a b d w hL ha1 ha2 hb1 hb2 hd1 hd2 hq.1 hq.2
    · exact scales_err a b d 2 w hL (.inr rfl) (fun w => scaled_over a b d w ha1 ha2 hb1 hb2 hd1 hd2 (by omega))
end Go.Proofs.YtfhiiklpclkelaaDoor
