/-
  The chapter's example (live): it comes out true; guard.Opens where it answers OK.
-/
import Derived.Test.YtpncbfhbiifncaaOP
namespace Go.Proofs.Ytpncbfhbiifncaa
open Go Go.RowKit
theorem four_any (w : World) : Calls Try.prog 15 #[] w fun e w' => e = .returned (mv ⟨4, 100, 20, 30, 10⟩) ∧ Below w.heap.size w w' := by
  go_enter Try.func15, Try.ntmps15
  go_wp2_with (first
    | (refine wpList_svm (x := ⟨4, 100, 20, 30, 10⟩) rfl (.tmp 0) (.tmp 1) rfl rfl rfl v1 ?_; intro w2 v2 b2 o2 _; have B2 : Hid (Below w.heap.size w w2) := hid (b1.trans b2))
    | (refine wpList_alm rfl rfl ?_; intro w1 v1 b1 s1))
  refine bodyPost_ret (w := w2) (results_1 Try.results15 _ rfl v2) rfl ?_
  exact ⟨rfl, B2.out⟩
theorem live_any (w : World) : Calls Try.prog 7 #[] w fun e w' => e = .returned (.bool true) ∧ Below w.heap.size w w' := by
  have HO : Hid (∀ w, Calls Try.prog 11 #[mv ⟨4, 100, 20, 30, 10⟩, .int .i64 10, .int .i64 1499] w fun e w' => e = .returned (.tuple #[.int .i64 1, .int .i64 499, .int .i64 0]) ∧ Below w.heap.size w w') := hid (fun w => slots_ok ⟨4, 100, 20, 30, 10⟩ 10 1499 1000 w (by decide) (by decide) (by decide) (by decide))
  have HB : Hid (∀ w, Calls Try.prog 11 #[mv ⟨4, 100, 20, 30, 10⟩, .int .i64 10, .int .i64 1500] w fun e w' => e = .returned (.tuple #[.int .i64 2, .int .i64 (-500), .int .i64 0]) ∧ Below w.heap.size w w') := hid (fun w => slots_ok ⟨4, 100, 20, 30, 10⟩ 10 1500 1000 w (by decide) (by decide) (by decide) (by decide))
  go_enter Try.func7, Try.ntmps7
  go_wp2_with (first
    | (go_at_call 11; (with_reducible refine (HB.out w3).mono ?_); rintro e w4 ⟨rfl, b4⟩; have B4 : Hid (Below w.heap.size w w4) := hid (B3.out.trans (b4.mono B3.out.size)))
    | (go_at_call 15; (with_reducible refine (four_any w2).mono ?_); rintro e w3 ⟨rfl, b3⟩; have B3 : Hid (Below w.heap.size w w3) := hid (B2.out.trans (b3.mono B2.out.size)))
    | (go_at_call 11; (with_reducible refine (HO.out w1).mono ?_); rintro e w2 ⟨rfl, b2⟩; have B2 : Hid (Below w.heap.size w w2) := hid (b1.trans (b2.mono b1.size)))
    | (go_at_call 15; (with_reducible refine (four_any w).mono ?_); rintro e w1 ⟨rfl, b1⟩))
  go_ret
  exact ⟨rfl, B4.out⟩
/-- What is told where it is told when it opens. -/
def OpsS (g : Gd) (m : Md) (p q : Int) (x y : Int) : Prop :=
  Fit g m p q ∧ knB g = true ∧ ∃ K : Int, 1 ≤ K ∧ K ≤ m.n ∧ (g.s + K) % m.n = q ∧ g.s + K ≤ 4294967296 ∧ y = g.a + ((K * m.s + m.l) * p + m.d * p) ∧ x = y - 2 * (m.d * p) ∧ y ≤ 1152921504606846976
theorem far_len {K s l p : Int} (K0 : 1 ≤ K) (K1 : K ≤ 16) (s0 : 16 ≤ s) (s1 : s ≤ 1048576) (l0 : 1 ≤ l) (l1 : l ≤ 1048576) (p1 : 1 ≤ p) (p2 : p ≤ 1000000000) :
    (0 ≤ K * s ∧ K * s ≤ 16777216) ∧ 0 ≤ (K * s + l) * p ∧ (K * s + l) * p ≤ 36028797018963968 := by
  have a := Int.mul_le_mul K1 s1 (by omega) (by omega)
  have b : 0 ≤ K * s := Int.mul_nonneg (by omega) (by omega)
  have c := Int.mul_le_mul (show K * s + l ≤ 17825792 by omega) p2 (by omega) (by omega)
  have d : 0 ≤ (K * s + l) * p := Int.mul_nonneg (by omega) (by omega)
  omega
/-- It tells an error, or when it opens. -/
theorem opens_any (g : Gd) (m : Md) (p q : Int) (g1 : 0 ≤ g.s) : ∃ x y e : Int, (e = 0 ∨ e = 1 ∨ e = 2) ∧ (e = 0 → OpsS g m p q x y) ∧
    ∀ w, Calls Try.prog 8 #[gv g, mv m, .int .i64 p, .int .i64 q] w fun r w' => r = .returned (.tuple #[.int .i64 x, .int .i64 y, .int .i64 e]) ∧ Below w.heap.size w w' := by
  by_cases hf : Fit g m p q
  · obtain ⟨o, k, s, a⟩ := g
    obtain ⟨n, ms, l, f, d⟩ := m
    cases hk : knB ⟨o, k, s, a⟩ with
    | false => exact ⟨0, 0, 1, by omega, by omega, fun w => opens_cold o k s a _ p q w (decide_eq_true hf) hk⟩
    | true =>
      obtain ⟨⟨g2, ga, _⟩, hm, p1, p2, q0, q1⟩ := id hf
      simp only [timeB, decide_eq_true_eq] at g1 g2 ga q1
      obtain ⟨a1, a2⟩ := ga
      obtain ⟨o1, o2, o3, o4, o5, o6, o7, o8, o9⟩ := id hm
      simp only at o1 o2 o3 o4 o5 o6 o7 o8 o9
      obtain ⟨F1, F2, F3⟩ := far_in n s q o1 q0 q1
      by_cases hn : s + far n s q ≤ 4294967296
      · obtain ⟨⟨P0, P1⟩, T0, T1⟩ := far_len F1 (by omega) o3 o4 o5 (by omega) p1 p2 (l := l)
        obtain ⟨W0, W1⟩ := win_in o7 (by omega) o4 p1 p2
        by_cases hy : a + ((far n s q * ms + l) * p + d * p) ≤ 1152921504606846976
        · refine ⟨_, _, 0, by omega, fun _ => ⟨hf, hk, far n s q, F1, F2, F3, hn, rfl, rfl, hy⟩, fun w => ?_⟩
          exact opens_ok o k s a n ms l f d p q _ (far n s q) (far n s q * ms) (far n s q * ms + l) ((far n s q * ms + l) * p) (d * p) (a + ((far n s q * ms + l) * p + d * p)) w (decide_eq_true hf) hk (fun w => next_yes ⟨n, ms, l, f, d⟩ s q w hm g1 g2 q0 q1 hn) (by show s + far n s q - s = far n s q; omega) (by omega) (by omega) rfl P0 P1 (by omega) (by omega) rfl rfl T0 T1 rfl (by omega) W1
            (fun w => add_ok a _ w a1 a2 (by omega) (by omega) (by omega) hy) (by omega) hy
        · refine ⟨0, 0, 2, by omega, by omega, fun w => ?_⟩
          exact opens_over o k s a n ms l f d p q _ (far n s q) (far n s q * ms) (far n s q * ms + l) ((far n s q * ms + l) * p) (d * p) w (decide_eq_true hf) hk (fun w => next_yes ⟨n, ms, l, f, d⟩ s q w hm g1 g2 q0 q1 hn) (by show s + far n s q - s = far n s q; omega) (by omega) (by omega) rfl P0 P1 (by omega) (by omega) rfl rfl T0 T1 rfl (by omega) W1
            (fun w => add_over a _ w a1 a2 (by omega) (by omega) (by omega))
      · refine ⟨0, 0, 2, by omega, by omega, fun w => ?_⟩
        exact opens_last o k s a n ms l f d p q w (decide_eq_true hf) hk (fun w => next_no ⟨n, ms, l, f, d⟩ s q w hm g1 g2 q0 q1 (by show 4294967296 < s + far n s q; omega))
  · exact ⟨0, 0, 1, by omega, by omega, fun w => opens_unfit g m p q w (decide_eq_false hf)⟩
end Go.Proofs.Ytpncbfhbiifncaa
