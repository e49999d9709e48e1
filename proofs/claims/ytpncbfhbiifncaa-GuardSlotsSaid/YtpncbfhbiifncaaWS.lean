/-
  The walk of GuardSlots: it returns true at every schedule, period and time.
-/
import Derived.Test.YtpncbfhbiifncaaG
import Derived.Test.YtpncbfhbiifncaaR
namespace Go.Proofs.Ytpncbfhbiifncaa
open Go Go.RowKit
theorem nr_whole (L x : Int) : nrN L x * L + nrR L x = x := by
  have := Int.mul_ediv_add_emod x L
  unfold nrN nrR
  split
  · rw [Int.add_mul, Int.one_mul, Int.mul_comm]; omega
  · rw [Int.mul_comm]; omega
theorem nr_half (L x : Int) (hL : 1 ≤ L) : 2 * nrR L x < L ∧ -L ≤ 2 * nrR L x := by
  have r1 := Int.emod_nonneg x (show L ≠ 0 by omega)
  have r2 := Int.emod_lt_of_pos x (show 0 < L by omega)
  unfold nrR
  split <;> omega
theorem nr_more (L x : Int) (hL : 1 ≤ L) : nrN L (x + L) = nrN L x + 1 ∧ nrR L (x + L) = nrR L x := by
  have e1 : (x + L) % L = x % L := by rw [Int.add_emod_right]
  have e2 : (x + L) / L = x / L + 1 := by rw [Int.add_ediv_of_dvd_right (Int.dvd_refl L), Int.ediv_self (by omega)]
  unfold nrN nrR
  rw [e1, e2]
  constructor <;> split <;> omega
theorem slots_err (m : Md) (p x : Int) (w : World) (h : ∀ w : World, Calls Try.prog 11 #[mv m, .int .i64 p, .int .i64 x] w fun e w' => e = .returned (.tuple #[.int .i64 0, .int .i64 0, .int .i64 1]) ∧ Below w.heap.size w w') :
    Calls Try.prog 4 #[mv m, .int .i64 p, .int .i64 x] w fun e w' => e = .returned (.bool true) ∧ Below w.heap.size w w' := by
  have HS := hid h
  clear h
  go_enter Try.func4, Try.ntmps4
  go_wp2_with (first
    | (go_at_call 11; (with_reducible refine (HS.out w2).mono ?_); rintro e w3 ⟨rfl, b3⟩; have v3 := v2.keep b3; have B3 : Hid (Below w.heap.size w w3) := hid (B2.out.trans (b3.mono B2.out.size)); clear b3)
    | (refine wpList_ldm rfl (.tmp 3) rfl rfl v2 ?_)
    | (go_at_call 7; (with_reducible refine (live_any w1).mono ?_); rintro e w2 ⟨rfl, b2⟩; have v2 := v1.keep b2; have B2 : Hid (Below w.heap.size w w2) := hid (b1.trans (b2.mono b1.size)); clear b2)
    | (refine wpList_boxm (x := m) rfl (.tmp 0) rfl rfl ?_; intro w1 v1 b1 s1))
  go_ret
  exact ⟨rfl, B3.out⟩
set_option maxHeartbeats 1000000 in
theorem slots_walk (n s l f d p x L N R M k r e : Int) (w : World) (S1 : ∀ w : World, Calls Try.prog 11 #[mv ⟨n, s, l, f, d⟩, .int .i64 p, .int .i64 x] w fun e w' => e = .returned (.tuple #[.int .i64 N, .int .i64 R, .int .i64 0]) ∧ Below w.heap.size w w')
    (S2 : ∀ w : World, Calls Try.prog 11 #[mv ⟨n, s, l, f, d⟩, .int .i64 p, .int .i64 (x + L)] w fun e' w' => e' = .returned (.tuple #[.int .i64 k, .int .i64 r, .int .i64 e]) ∧ Below w.heap.size w w')
    (hL : s * p = L) (L0 : 16 ≤ L) (L1 : L ≤ 1048576000000000) (hM : N * L = M) (hR : M + R = x) (x0 : -1152921504606846976 ≤ x) (x1 : x ≤ 1152921504606846976)
    (r0 : 2 * R < L) (r1 : -L ≤ 2 * R) (n0 : -1152921504606846976 ≤ N) (n1 : N ≤ 1152921504606846976) (he : (e = 0 ∧ k = N + 1 ∧ r = R) ∨ e = 1) :
    Calls Try.prog 4 #[mv ⟨n, s, l, f, d⟩, .int .i64 p, .int .i64 x] w fun e w' => e = .returned (.bool true) ∧ Below w.heap.size w w' := by
  have H1 := hid S1
  have H2 := hid S2
  have u1 : IntKind.i64.wrap (s * p) = L := wrap_in hL (by omega) (by omega)
  have u2 : IntKind.i64.wrap (N * L) = M := wrap_in hM (by omega) (by omega)
  have u3 : IntKind.i64.wrap (M + R) = x := by rw [hR, IntKind.wrap_i64]; omega
  have u4 : decide (L ≤ 2 * R) = false := by simp; omega
  have u5 : decide (2 * R < -L) = false := by simp; omega
  have M0 : -1154000000000000000 ≤ M := by omega
  have M1 : M ≤ 1154000000000000000 := by omega
  have R0 : -1048576000000000 ≤ R := by omega
  have R1 : R ≤ 1048576000000000 := by omega
  have HR := hid hR
  clear S1 S2 hL hM hR r0 r1
  rcases he with ⟨rfl, rfl, rfl⟩ | rfl
  all_goals
    go_enter Try.func4, Try.ntmps4
    go_wp2_with (first
      | (go_at_call 11; (with_reducible refine (H2.out w3).mono ?_); rintro e w4 ⟨rfl, b4⟩; have B4 : Hid (Below w.heap.size w w4) := hid (B3.out.trans (b4.mono B3.out.size)); clear b4)
      | (refine wpList_ldm rfl (.tmp 3) rfl rfl v3 ?_)
      | (go_at_call 11; (with_reducible refine (H1.out w2).mono ?_); rintro e w3 ⟨rfl, b3⟩; have v3 := v2.keep b3; have c1 : w3.cell? ⟨w.heap.size, 1, none⟩ = some (.int .i64 s) := v3.c1; have B3 : Hid (Below w.heap.size w w3) := hid (B2.out.trans (b3.mono B2.out.size)); clear b3)
      | (refine wpList_ldm rfl (.tmp 3) rfl rfl v2 ?_)
      | (go_at_call 7; (with_reducible refine (live_any w1).mono ?_); rintro e w2 ⟨rfl, b2⟩; have v2 := v1.keep b2; have B2 : Hid (Below w.heap.size w w2) := hid (b1.trans (b2.mono b1.size)); clear b2)
      | (refine wpList_boxm (x := ⟨n, s, l, f, d⟩) rfl (.tmp 0) rfl rfl ?_; intro w1 v1 b1 s1))
    go_ret
    exact ⟨ret_bool (by simp), B4.out⟩
theorem slots_row {w : World} (n s l f d : Int) (_ : In64 n) (_ : In64 s) (_ : In64 l) (_ : In64 f) (_ : In64 d) (p : Int) (_ : -9223372036854775808 ≤ p) (_ : p ≤ 9223372036854775807) (x : Int) (_ : -9223372036854775808 ≤ x) (_ : x ≤ 9223372036854775807) :
    Calls Try.prog 4 #[mv ⟨n, s, l, f, d⟩, .int .i64 p, .int .i64 x] w fun e w' => e = .returned (.bool true) ∧ Below w.heap.size w w' := by
  by_cases h : Ok ⟨n, s, l, f, d⟩ ∧ 1 ≤ p ∧ p ≤ 1000000000
  · by_cases hx : x < -1152921504606846976 ∨ 1152921504606846976 < x
    · exact slots_err _ p x w (fun w => slots_time _ p x w h (timeB_no hx))
    · obtain ⟨hm, p1, p2⟩ := id h
      obtain ⟨L0, L1⟩ := len_in hm.2.2.1 hm.2.2.2.1 p1 p2
      simp only at L0 L1
      obtain ⟨r0, r1⟩ := nr_half (s * p) x (by omega)
      obtain ⟨n0, n1⟩ := nrN_in (s * p) x L0 (by omega) (by omega)
      have S1 := fun w => slots_ok ⟨n, s, l, f, d⟩ p x (s * p) w h (by omega) (by omega) rfl
      by_cases hy : x + s * p ≤ 1152921504606846976
      · have S2 := fun w => slots_ok ⟨n, s, l, f, d⟩ p (x + s * p) (s * p) w h (by omega) hy rfl
        rw [(nr_more (s * p) x (by omega)).1, (nr_more (s * p) x (by omega)).2] at S2
        exact slots_walk n s l f d p x (s * p) _ _ _ _ _ _ w S1 S2 rfl L0 L1 rfl (nr_whole _ _) (by omega) (by omega) r0 r1 n0 n1 (.inl ⟨rfl, rfl, rfl⟩)
      · exact slots_walk n s l f d p x (s * p) _ _ _ _ _ _ w S1 (fun w => slots_time _ p _ w h (timeB_no (by omega))) rfl L0 L1 rfl (nr_whole _ _) (by omega) (by omega) r0 r1 n0 n1 (.inr rfl)
  · exact slots_err _ p x w (fun w => slots_bad _ p x w h)
end Go.Proofs.Ytpncbfhbiifncaa
