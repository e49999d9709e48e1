/-
  The walk of the statement PicoReckons: pico and the document's own package answer the same at any three numbers; it returns true at every input; under: the tables hold what the program lays (LaidW).
-/
import Derived.Test.YtfhiiklpclkelaaDoorR
namespace Go.Proofs.YtfhiiklpclkelaaDoor
open Go Go.RowKit

theorem rscale_arg (a b d : Int) (w : World) (h : (timeB a && (timeB b && timeB d)) = false) :
    Calls Tryd.prog 17 #[.int .i64 a, .int .i64 b, .int .i64 d] w fun e w' => e = .returned (.tuple #[.int .i64 0, .int .i64 0, .int .i64 1]) ∧ Below w.heap.size w w' := by
  have H := hid h
  clear h
  go_enter Tryd.func17, Tryd.ntmps17
  go_wp2_with fail
  refine (rmay_3 _ _ a b d false H.out _ (by simp) (by simp) (by simp)).mono ?_
  rintro e w' ⟨rfl, rfl⟩
  go_wp2
  go_ret3
  exact ⟨rfl, (Below.refl _ _).alloc (Nat.le_refl _) _⟩
theorem rscale_arg_den (a b d : Int) (w : World) (h : (timeB a && (timeB b && timeB d)) = true) (hd : d < 1) :
    Calls Tryd.prog 17 #[.int .i64 a, .int .i64 b, .int .i64 d] w fun e w' => e = .returned (.tuple #[.int .i64 0, .int .i64 0, .int .i64 1]) ∧ Below w.heap.size w w' := by
  have H := hid h
  clear h
  go_enter Tryd.func17, Tryd.ntmps17
  go_wp2_with fail
  refine (rmay_3 _ _ a b d true H.out _ (by simp) (by simp) (by simp)).mono ?_
  rintro e w' ⟨rfl, rfl⟩
  go_wp2
  go_ret3
  exact ⟨rfl, (Below.refl _ _).alloc (Nat.le_refl _) _⟩

/-- a function of two numbers, of three: what it answers, whatever the world -/
def Says2 (f : Nat) (a b x e : Int) : Prop := ∀ w : World, Calls Tryd.prog f #[.int .i64 a, .int .i64 b] w fun en w' => en = .returned (.tuple #[.int .i64 x, .int .i64 e]) ∧ Below w.heap.size w w'
def Says3 (f : Nat) (a b d x t e : Int) : Prop := ∀ w : World, Calls Tryd.prog f #[.int .i64 a, .int .i64 b, .int .i64 d] w fun en w' => en = .returned (.tuple #[.int .i64 x, .int .i64 t, .int .i64 e]) ∧ Below w.heap.size w w'

theorem scale_both (a b d : Int) : ∃ x t e, Says3 16 a b d x t e ∧ Says3 17 a b d x t e := by
  by_cases hB : BadArgs a b d
  · refine ⟨0, 0, 1, fun w => scaled_arg a b d w hB, fun w => ?_⟩
    cases hb : (timeB a && (timeB b && timeB d)) with
    | false => exact rscale_arg a b d w hb
    | true =>
      rcases hB with h | h
      · rw [hb] at h; cases h
      · exact rscale_arg_den a b d w hb h
  · obtain ⟨⟨ha1, ha2⟩, ⟨hb1, hb2⟩, hd1, hd2⟩ := good_args hB
    obtain ⟨n, rfl⟩ := Int.eq_ofNat_of_zero_le (show 0 ≤ d by omega)
    have hn1 : 1 ≤ n := by omega
    have hn2 : n ≤ 1152921504606846976 := by omega
    by_cases hN : 1152921504606846976 < a.natAbs * b.natAbs / n
    · refine ⟨0, 0, 2, fun w => ?_, fun w => ?_⟩
      · by_cases hh : a.natAbs * b.natAbs / 18446744073709551616 < n
        · exact scale_over a b n w ha1 ha2 hb1 hb2 hn1 hn2 (div_any _ _ hn1 hh hn2) hh hN
        · exact scale_over_hi a b n w ha1 ha2 hb1 hb2 hn1 hn2 (by omega)
      · by_cases hs : (a < 0 ↔ b < 0)
        · exact rscale_same_over a b n w ha1 ha2 hb1 hb2 hn1 hn2 hs hN
        · by_cases hR : a.natAbs * b.natAbs % n = 0
          · exact rscale_opp0_over a b n w ha1 ha2 hb1 hb2 hn1 hn2 hs hN hR
          · exact rscale_opp_over a b n w ha1 ha2 hb1 hb2 hn1 hn2 hs (Nat.le_of_lt hN) (Nat.pos_of_ne_zero hR)
    · have hN' : a.natAbs * b.natAbs / n ≤ 1152921504606846976 := Nat.not_lt.1 hN
      have hh := hi_lt _ n hn1 hN'
      have hD := div_any _ n hn1 hh hn2
      by_cases hs : (a < 0 ↔ b < 0)
      · exact ⟨_, _, _, fun w => scale_same a b n w ha1 ha2 hb1 hb2 hn1 hn2 hs hD hh hN', fun w => rscale_same a b n w ha1 ha2 hb1 hb2 hn1 hn2 hs hN'⟩
      · by_cases hR : a.natAbs * b.natAbs % n = 0
        · exact ⟨_, _, _, fun w => scale_opp0 a b n w ha1 ha2 hb1 hb2 hn1 hn2 hs hD hh hN' hR, fun w => rscale_opp0 a b n w ha1 ha2 hb1 hb2 hn1 hn2 hs hN' hR⟩
        · by_cases hT : a.natAbs * b.natAbs / n = 1152921504606846976
          · exact ⟨_, _, _, fun w => scale_opp_over a b n w ha1 ha2 hb1 hb2 hn1 hn2 hs hD hh hT (Nat.pos_of_ne_zero hR), fun w => rscale_opp_over a b n w ha1 ha2 hb1 hb2 hn1 hn2 hs (Nat.le_of_eq hT.symm) (Nat.pos_of_ne_zero hR)⟩
          · have hlt : a.natAbs * b.natAbs / n < 1152921504606846976 := Nat.lt_of_le_of_ne hN' hT
            exact ⟨_, _, _, fun w => scale_opp a b n w ha1 ha2 hb1 hb2 hn1 hn2 hs hD hh hlt (Nat.pos_of_ne_zero hR), fun w => rscale_opp a b n w ha1 ha2 hb1 hb2 hn1 hn2 hs hlt (Nat.pos_of_ne_zero hR)⟩

theorem mul_both (a b : Int) : ∃ x e, Says2 14 a b x e ∧ Says2 15 a b x e := by
  obtain ⟨x, t, e, h1, h2⟩ := scale_both a b 1
  exact ⟨x, e, fun w => pmul_any a b x t e w h1, fun w => rmul_any a b x t e w h2⟩

theorem two_times {a b : Int} (h : (timeB a && timeB b) = true) : (-1152921504606846976 ≤ a ∧ a ≤ 1152921504606846976) ∧ (-1152921504606846976 ≤ b ∧ b ≤ 1152921504606846976) := by
  simp only [Bool.and_eq_true, timeB, decide_eq_true_eq] at h
  exact h

theorem add_both (a b : Int) : ∃ x e, Says2 10 a b x e ∧ Says2 11 a b x e := by
  cases hb : (timeB a && timeB b) with
  | false => exact ⟨0, 1, fun w => add_arg a b w hb, fun w => radd_arg a b w hb⟩
  | true =>
    obtain ⟨⟨a1, a2⟩, b1, b2⟩ := two_times hb
    by_cases hs : -1152921504606846976 ≤ a + b ∧ a + b ≤ 1152921504606846976
    · exact ⟨_, _, fun w => add_ok a b w a1 a2 b1 b2 hs.1 hs.2, fun w => radd_ok a b w a1 a2 b1 b2 hs.1 hs.2⟩
    · exact ⟨_, _, fun w => add_over a b w a1 a2 b1 b2 (by omega), fun w => radd_over a b w a1 a2 b1 b2 (by omega)⟩

theorem sub_both (a b : Int) : ∃ x e, Says2 12 a b x e ∧ Says2 13 a b x e := by
  cases hb : (timeB a && timeB b) with
  | false => exact ⟨0, 1, fun w => sub_arg a b w hb, fun w => rsub_arg a b w hb⟩
  | true =>
    obtain ⟨⟨a1, a2⟩, b1, b2⟩ := two_times hb
    by_cases hs : -1152921504606846976 ≤ a - b ∧ a - b ≤ 1152921504606846976
    · refine ⟨_, _, fun w => sub_ok a b w a1 a2 b1 b2 hs.1 hs.2, fun w => rsub_any a b _ _ w a1 a2 b1 b2 (fun w => ?_)⟩
      have h := radd_ok a (-b) w a1 a2 (by omega) (by omega) (by omega) (by omega)
      rwa [← Int.sub_eq_add_neg] at h
    · exact ⟨_, _, fun w => sub_over a b w a1 a2 b1 b2 (by omega), fun w => rsub_any a b _ _ w a1 a2 b1 b2 (fun w => radd_over a (-b) w a1 a2 (by omega) (by omega) (by omega))⟩

set_option maxRecDepth 100000 in
set_option maxHeartbeats 1000000 in
theorem reckons_walk (a b c : Int) (w : World) (hL : LaidW w) (_ : -9223372036854775808 ≤ a) (_ : a ≤ 9223372036854775807) (_ : -9223372036854775808 ≤ b) (_ : b ≤ 9223372036854775807) (_ : -9223372036854775808 ≤ c) (_ : c ≤ 9223372036854775807) :
    Calls Tryd.prog 3 #[.int .i64 a, .int .i64 b, .int .i64 c] w fun e w' => e = .returned (.bool true) ∧ Below w.heap.size w w' := by
  obtain ⟨x, e1, A1, A2⟩ := add_both a b
  obtain ⟨z, e2, S1, S2⟩ := sub_both a b
  obtain ⟨p, e3, M1, M2⟩ := mul_both a b
  obtain ⟨s, t, e4, C1, C2⟩ := scale_both a b c
  obtain ⟨ok, hok⟩ : ∃ ok, (timeB a && (timeB b && timeB c)) = ok := ⟨_, rfl⟩
  have HOK := hid hok
  clear hok
  go_enter Tryd.func3, Tryd.ntmps3
  go_wp2_with fail
  refine (live_any w hL).mono ?_
  rintro e w1 ⟨rfl, g1⟩
  go_wp2_with fail
  refine (A1 w1).mono ?_
  rintro e w2 ⟨rfl, g2⟩
  go_wp2_with fail
  refine (A2 w2).mono ?_
  rintro e w3 ⟨rfl, g3⟩
  go_wp2_with fail
  refine (S1 w3).mono ?_
  rintro e w4 ⟨rfl, g4⟩
  go_wp2_with fail
  refine (S2 w4).mono ?_
  rintro e w5 ⟨rfl, g5⟩
  go_wp2_with fail
  refine (M1 w5).mono ?_
  rintro e w6 ⟨rfl, g6⟩
  go_wp2_with fail
  refine (M2 w6).mono ?_
  rintro e w7 ⟨rfl, g7⟩
  go_wp2_with fail
  refine (C1 w7).mono ?_
  rintro e w8 ⟨rfl, g8⟩
  go_wp2_with fail
  refine (C2 w8).mono ?_
  rintro e w9 ⟨rfl, g9⟩
  go_wp2_with fail
  refine (may_3 _ _ a b c ok HOK.out _ (by simp) (by simp) (by simp)).mono ?_
  rintro e w' ⟨rfl, rfl⟩
  go_wp2_with fail
  refine (rmay_3 _ _ a b c ok HOK.out _ (by simp) (by simp) (by simp)).mono ?_
  rintro e w' ⟨rfl, rfl⟩
  have k1 := g1.size
  have k2 := g2.size
  have k3 := g3.size
  have k4 := g4.size
  have k5 := g5.size
  have k6 := g6.size
  have k7 := g7.size
  have k8 := g8.size
  have k9 := g9.size
  have GB : Hid (Below w.heap.size w w9) := hid (((((((((g1).trans (g2.mono (by omega))).trans (g3.mono (by omega))).trans (g4.mono (by omega))).trans (g5.mono (by omega))).trans (g6.mono (by omega))).trans (g7.mono (by omega))).trans (g8.mono (by omega))).trans (g9.mono (by omega)))
  clear k1 k2 k3 k4 k5 k6 k7 k8 k9
  go_wp2
  go_ret
  exact ⟨ret_bool (by simp), (GB.out.alloc GB.out.size _).alloc (by have := GB.out.size; simp; omega) _⟩
end Go.Proofs.YtfhiiklpclkelaaDoor
