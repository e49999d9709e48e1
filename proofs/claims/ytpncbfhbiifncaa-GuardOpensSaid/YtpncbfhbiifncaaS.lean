/-
  guard.Slots: how many slots' lengths a time is, at every argument.
-/
import Derived.Test.YtpncbfhbiifncaaT
import Derived.Test.YtpncbfhbiifncaaE
namespace Go.Proofs.Ytpncbfhbiifncaa
open Go Go.RowKit
theorem div_low (p d : Nat) (h : p < 18446744073709551616) (hd : 1 ≤ d) (hd2 : d < 18446744073709551616) : DivSaid p d := fun w => by
  have e1 : p / 18446744073709551616 = 0 := Nat.div_eq_of_lt h
  have e2 : p % 18446744073709551616 = p := Nat.mod_eq_of_lt h
  rw [e1, e2]
  exact div64_low p d w h hd hd2
/-- pico.Scale of one part of so many. -/
theorem scale_one (a d : Int) (w : World) (ha1 : -1152921504606846976 ≤ a) (ha2 : a ≤ 1152921504606846976) (hd1 : 1 ≤ d) (hd2 : d ≤ 1152921504606846976) :
    Calls Try.prog 24 #[.int .i64 a, .int .i64 1, .int .i64 d] w fun e w' => e = .returned (.tuple #[.int .i64 (a / d), .int .i64 (a % d), .int .i64 0]) ∧ Below w.heap.size w w' := by
  have h1 : a * 1 / d = a / d := by rw [Int.mul_one]
  have h2 : a * 1 % d = a % d := by rw [Int.mul_one]
  have b1 : -1152921504606846976 ≤ a / d := by
    rw [Int.le_ediv_iff_mul_le (by omega)]
    have : -1152921504606846976 * d ≤ -1152921504606846976 * 1 := by omega
    omega
  have b2 : a / d ≤ 1152921504606846976 := by
    have : a / d < 1152921504606846977 := by
      rw [Int.ediv_lt_iff_lt_mul (by omega)]
      omega
    omega
  have := scale_ok a 1 d w ha1 ha2 (by omega) (by omega) hd1 hd2 (div_low _ _ (by simp; omega) (by omega) (by omega)) (by rw [h1]; exact b1) (by rw [h1]; exact b2)
  rw [h1, h2] at this
  exact this
theorem scale_none (a d : Int) (w : World) (ha : timeB a = false) :
    Calls Try.prog 24 #[.int .i64 a, .int .i64 1, .int .i64 d] w fun e w' => e = .returned (.tuple #[.int .i64 0, .int .i64 0, .int .i64 1]) ∧ Below w.heap.size w w' :=
  scale_arg a 1 d w (by rw [ha]; rfl)
/-- How many lengths are nearest, and what is more. -/
def nrN (L x : Int) : Int := if L - x % L ≤ x % L then x / L + 1 else x / L
def nrR (L x : Int) : Int := if L - x % L ≤ x % L then x % L - L else x % L
theorem slots_bad (m : Md) (p x : Int) (w : World) (h : ¬ (Ok m ∧ 1 ≤ p ∧ p ≤ 1000000000)) : Calls Try.prog 11 #[mv m, .int .i64 p, .int .i64 x] w fun e w' => e = .returned (.tuple #[.int .i64 0, .int .i64 0, .int .i64 1]) ∧ Below w.heap.size w w' := by
  have HT := hid (fun w => (show okT m p = 1 from if_neg h) ▸ checkTicks_any m p w)
  clear h
  go_enter Try.func11, Try.ntmps11
  go_wp2_with (first
    | (go_at_call 23; (with_reducible refine (HT.out w1).mono ?_); rintro e w2 ⟨rfl, b2⟩; have B2 : Hid (Below w.heap.size w w2) := hid (b1.trans (b2.mono b1.size)); clear b2)
    | (refine wpList_ldm rfl (.tmp 3) rfl rfl v1 ?_)
    | (refine wpList_boxm (x := m) rfl (.tmp 0) rfl rfl ?_; intro w1 v1 b1 s1))
  go_ret3
  exact ⟨rfl, B2.out⟩
theorem slots_time (m : Md) (p x : Int) (w : World) (h : Ok m ∧ 1 ≤ p ∧ p ≤ 1000000000) (hx : timeB x = false) : Calls Try.prog 11 #[mv m, .int .i64 p, .int .i64 x] w fun e w' => e = .returned (.tuple #[.int .i64 0, .int .i64 0, .int .i64 1]) ∧ Below w.heap.size w w' := by
  have HT := hid (fun w => (show okT m p = 0 from if_pos h) ▸ checkTicks_any m p w)
  obtain ⟨n, s, l, f, d⟩ := m
  have HL := hid (fun w => ticks_any s p _ w rfl)
  generalize IntKind.i64.wrap (s * p) = L at *
  have HS := hid (fun w => scale_none x L w hx)
  clear h hx
  go_enter Try.func11, Try.ntmps11
  go_wp2_with (first
    | (go_at_call 24; (with_reducible refine (HS.out w2).mono ?_); rintro e w3 ⟨rfl, b3⟩; have B3 : Hid (Below w.heap.size w w3) := hid (B2.out.trans (b3.mono B2.out.size)); clear b3)
    | (go_at_call 19; (with_reducible refine (HL.out w2).mono ?_); rintro e w' ⟨rfl, e5⟩; rw [e5]; clear e5 w')
    | (go_at_call 23; (with_reducible refine (HT.out w1).mono ?_); rintro e w2 ⟨rfl, b2⟩; have v2 := v1.keep b2; have c1 : w2.cell? ⟨w.heap.size, 1, none⟩ = some (.int .i64 s) := v2.c1; have B2 : Hid (Below w.heap.size w w2) := hid (b1.trans (b2.mono b1.size)); clear b2)
    | (refine wpList_ldm rfl (.tmp 3) rfl rfl v1 ?_)
    | (refine wpList_boxm (x := ⟨n, s, l, f, d⟩) rfl (.tmp 0) rfl rfl ?_; intro w1 v1 b1 s1))
  go_ret3
  exact ⟨rfl, B3.out⟩
theorem len_in {s p : Int} (h1 : 16 ≤ s) (h2 : s ≤ 1048576) (p1 : 1 ≤ p) (p2 : p ≤ 1000000000) : 16 ≤ s * p ∧ s * p ≤ 1048576000000000 := by
  have a := Int.mul_le_mul h1 p1 (by omega) (by omega)
  have b := Int.mul_le_mul h2 p2 (by omega) (by omega)
  omega
theorem wrap_in {a b z : Int} (h : a * b = z) (h1 : -9223372036854775808 ≤ z) (h2 : z ≤ 9223372036854775807) : IntKind.i64.wrap (a * b) = z := by
  rw [h, IntKind.wrap_i64]; omega
theorem slots_ok (m : Md) (p x L : Int) (w : World) (h : Ok m ∧ 1 ≤ p ∧ p ≤ 1000000000) (hx1 : -1152921504606846976 ≤ x) (hx2 : x ≤ 1152921504606846976) (hL : m.s * p = L) : Calls Try.prog 11 #[mv m, .int .i64 p, .int .i64 x] w fun e w' => e = .returned (.tuple #[.int .i64 (nrN L x), .int .i64 (nrR L x), .int .i64 0]) ∧ Below w.heap.size w w' := by
  have HT := hid (fun w => (show okT m p = 0 from if_pos h) ▸ checkTicks_any m p w)
  obtain ⟨n, s, l, f, d⟩ := m
  obtain ⟨⟨h1, h2, h3, h4, h5, h6, h7, h8, h9⟩, p1, p2⟩ := h
  simp only at h1 h2 h3 h4 h5 h6 h7 h8 h9 hL
  obtain ⟨L1, L2⟩ := len_in h3 h4 p1 p2
  rw [hL] at L1 L2
  have HL := hid (fun w => ticks_any s p L w (wrap_in hL (by omega) (by omega)))
  have HS := hid (fun w => scale_one x L w hx1 hx2 (by omega) (by omega))
  have r1 := Int.emod_nonneg x (show L ≠ 0 by omega)
  have r2 := Int.emod_lt_of_pos x (show 0 < L by omega)
  have q1 : x / L < 1152921504606846977 := by
    rw [Int.ediv_lt_iff_lt_mul (by omega)]
    omega
  have q0 : -1152921504606846976 ≤ x / L := by
    rw [Int.le_ediv_iff_mul_le (by omega)]
    omega
  have HN : Hid (nrN L x = if L - x % L ≤ x % L then x / L + 1 else x / L) := hid rfl
  have HR : Hid (nrR L x = if L - x % L ≤ x % L then x % L - L else x % L) := hid rfl
  generalize nrN L x = N at *
  generalize nrR L x = R at *
  generalize x / L = Q at *
  generalize x % L = r at *
  clear hx1 hx2 hL h1 h2 h3 h4 h5 h6 h7 h8 h9 p1 p2
  by_cases hc : L - r ≤ r
  · have c0 : decide (L - r ≤ r) = true := decide_eq_true hc
    have EN : Hid (N = Q + 1) := hid (HN.out.trans (if_pos hc))
    have ER : Hid (R = r - L) := hid (HR.out.trans (if_pos hc))
    clear HN HR hc
    go_enter Try.func11, Try.ntmps11
    go_wp2_with (first
      | (go_at_call 24; (with_reducible refine (HS.out w2).mono ?_); rintro e w3 ⟨rfl, b3⟩; have B3 : Hid (Below w.heap.size w w3) := hid (B2.out.trans (b3.mono B2.out.size)); clear b3)
      | (go_at_call 19; (with_reducible refine (HL.out w2).mono ?_); rintro e w' ⟨rfl, e5⟩; rw [e5]; clear e5 w')
      | (go_at_call 23; (with_reducible refine (HT.out w1).mono ?_); rintro e w2 ⟨rfl, b2⟩; have v2 := v1.keep b2; have c1 : w2.cell? ⟨w.heap.size, 1, none⟩ = some (.int .i64 s) := v2.c1; have B2 : Hid (Below w.heap.size w w2) := hid (b1.trans (b2.mono b1.size)); clear b2)
      | (refine wpList_ldm rfl (.tmp 3) rfl rfl v1 ?_)
      | (refine wpList_boxm (x := ⟨n, s, l, f, d⟩) rfl (.tmp 0) rfl rfl ?_; intro w1 v1 b1 s1))
    go_ret3
    exact ⟨ret_three EN.out.symm ER.out.symm rfl, B3.out⟩
  · have c0 : decide (L - r ≤ r) = false := decide_eq_false hc
    have EN : Hid (N = Q) := hid (HN.out.trans (if_neg hc))
    have ER : Hid (R = r) := hid (HR.out.trans (if_neg hc))
    clear HN HR hc
    go_enter Try.func11, Try.ntmps11
    go_wp2_with (first
      | (go_at_call 24; (with_reducible refine (HS.out w2).mono ?_); rintro e w3 ⟨rfl, b3⟩; have B3 : Hid (Below w.heap.size w w3) := hid (B2.out.trans (b3.mono B2.out.size)); clear b3)
      | (go_at_call 19; (with_reducible refine (HL.out w2).mono ?_); rintro e w' ⟨rfl, e5⟩; rw [e5]; clear e5 w')
      | (go_at_call 23; (with_reducible refine (HT.out w1).mono ?_); rintro e w2 ⟨rfl, b2⟩; have v2 := v1.keep b2; have c1 : w2.cell? ⟨w.heap.size, 1, none⟩ = some (.int .i64 s) := v2.c1; have B2 : Hid (Below w.heap.size w w2) := hid (b1.trans (b2.mono b1.size)); clear b2)
      | (refine wpList_ldm rfl (.tmp 3) rfl rfl v1 ?_)
      | (refine wpList_boxm (x := ⟨n, s, l, f, d⟩) rfl (.tmp 0) rfl rfl ?_; intro w1 v1 b1 s1))
    go_ret3
    exact ⟨ret_three EN.out.symm ER.out.symm rfl, B3.out⟩
end Go.Proofs.Ytpncbfhbiifncaa
