/-
  Contracts of the document's own May, Add, Sub, Mul, size and twice (package palletref01): as pico's; under the ranges in their heads.
-/
import Derived.Test.YtfhiiklpclkelaaDoorP
import Derived.Test.YtfhiiklpclkelaaDoorI
import Derived.Laws.BitsAllLaws
namespace Go.Proofs.YtfhiiklpclkelaaDoor
open Go Go.RowKit

set_option maxHeartbeats 400000 in
theorem rmay_any (b c : Nat) (zs : List Int) (ok : Bool) (hok : allB zs = ok) (w : World) (hn : zs.length ≤ 9223372036854775807) (hc : ∀ j, j < zs.length → w.cell? ⟨b, 0 + j, none⟩ = some (.int .i64 zs[j]!)) :
    Calls Tryd.prog 19 #[.slice (some ⟨b, 0, none⟩) zs.length c] w fun e w' => e = .returned (.bool ok) ∧ w = w' := by
  have HK := hid hok
  clear hok
  go_enter Tryd.func19, Tryd.ntmps19
  go_wp2
  go_loop [7] (fun i => ∃ k : Nat, k ≤ zs.length ∧ i = .int .i64 k ∧ (∀ j, j < k → timeB zs[j]! = true)) (fun i => zs.length - (intOf i).toNat)
  case atStart => exact ⟨0, Nat.zero_le _, rfl, by intro j hj; omega⟩
  case round =>
    obtain ⟨k, hk, rfl, hall⟩ := hrel
    by_cases hlt : k < zs.length
    · have hcell := hc k hlt
      rw [Nat.zero_add] at hcell
      by_cases ht : -1152921504606846976 ≤ zs[k]! ∧ zs[k]! ≤ 1152921504606846976
      · have HC : Hid (∀ j, j < k + 1 → timeB zs[j]! = true) := by
          refine hid (fun j hj => ?_)
          rcases Nat.lt_succ_iff_lt_or_eq.1 hj with h | rfl
          · exact hall j h
          · simp only [timeB, decide_eq_true_eq]; exact ht
        clear hc hall
        obtain ⟨h1, h2⟩ := ht
        generalize zs[k]! = z at h1 h2 hcell
        have d1 : decide (1152921504606846976 < z) = false := by simp; omega
        have d2 : decide (z < -1152921504606846976) = false := by simp; omega
        go_wp2
        exact ⟨⟨k + 1, by omega, by go_num, HC.out⟩, by simp [intOf]; omega⟩
      · have HF : Hid (ok = false) := hid (by rw [← HK.out]; exact not_allB_of k hlt (by simp only [timeB, decide_eq_false_iff_not]; exact ht))
        have h1 : zs[k]! < -1152921504606846976 ∨ 1152921504606846976 < zs[k]! := by omega
        clear hc hall ht
        generalize zs[k]! = z at h1 hcell
        rcases h1 with h1 | h1
        · have d1 : decide (1152921504606846976 < z) = false := by simp; omega
          go_wp2
          go_ret
          exact ⟨ret_bool HF.out.symm, rfl⟩
        · go_wp2
          go_ret
          exact ⟨ret_bool HF.out.symm, rfl⟩
    · have HF : Hid (ok = true) := hid (by rw [← HK.out]; exact allB_of fun j hj => hall j (by omega))
      clear hc hall
      go_wp2
      go_ret
      exact ⟨ret_bool HF.out.symm, rfl⟩

theorem rmay_1 (b c : Nat) (x : Int) (ok : Bool) (hok : timeB x = ok) (w : World) (hc : w.cell? ⟨b, 0, none⟩ = some (.int .i64 x)) :
    Calls Tryd.prog 19 #[.slice (some ⟨b, 0, none⟩) 1 c] w fun e w' => e = .returned (.bool ok) ∧ w = w' :=
  rmay_any b c [x] ok (by simp [allB, hok]) w (by simp) (fun j hj => by
    match j, hj with
    | 0, _ => exact hc)
theorem rmay_2 (b c : Nat) (x y : Int) (ok : Bool) (hok : (timeB x && timeB y) = ok) (w : World) (hc : w.cell? ⟨b, 0, none⟩ = some (.int .i64 x)) (hc1 : w.cell? ⟨b, 1, none⟩ = some (.int .i64 y)) :
    Calls Tryd.prog 19 #[.slice (some ⟨b, 0, none⟩) 2 c] w fun e w' => e = .returned (.bool ok) ∧ w = w' :=
  rmay_any b c [x, y] ok (by simpa [allB] using hok) w (by simp) (fun j hj => by
    match j, hj with
    | 0, _ => exact hc
    | 1, _ => exact hc1)
theorem rmay_3 (b c : Nat) (x y z : Int) (ok : Bool) (hok : (timeB x && (timeB y && timeB z)) = ok) (w : World) (hc : w.cell? ⟨b, 0, none⟩ = some (.int .i64 x)) (hc1 : w.cell? ⟨b, 1, none⟩ = some (.int .i64 y)) (hc2 : w.cell? ⟨b, 2, none⟩ = some (.int .i64 z)) :
    Calls Tryd.prog 19 #[.slice (some ⟨b, 0, none⟩) 3 c] w fun e w' => e = .returned (.bool ok) ∧ w = w' :=
  rmay_any b c [x, y, z] ok (by simpa [allB] using hok) w (by simp) (fun j hj => by
    match j, hj with
    | 0, _ => exact hc
    | 1, _ => exact hc1
    | 2, _ => exact hc2)

theorem rsize_any (t : Int) (w : World) (h1 : -1152921504606846976 ≤ t) (h2 : t ≤ 1152921504606846976) : Calls Tryd.prog 29 #[.int .i64 t] w fun e w' => e = .returned (.int .u64 (t.natAbs : Nat)) ∧ w = w' := by
  go_enter Tryd.func29, Tryd.ntmps29
  go_wp2
  all_goals (go_ret; exact ⟨ret_int (by omega), rfl⟩)

theorem radd_ok (a b : Int) (w : World) (ha1 : -1152921504606846976 ≤ a) (ha2 : a ≤ 1152921504606846976) (hb1 : -1152921504606846976 ≤ b) (hb2 : b ≤ 1152921504606846976) (h1 : -1152921504606846976 ≤ a + b) (h2 : a + b ≤ 1152921504606846976) :
    Calls Tryd.prog 11 #[.int .i64 a, .int .i64 b] w fun e w' => e = .returned (.tuple #[.int .i64 (a + b), .int .i64 0]) ∧ Below w.heap.size w w' := by
  go_enter Tryd.func11, Tryd.ntmps11
  go_wp2_with fail
  refine (rmay_2 _ _ a b true (by rw [timeB_yes ha1 ha2, timeB_yes hb1 hb2]; rfl) _ (by simp) (by simp)).mono ?_
  rintro e w' ⟨rfl, rfl⟩
  go_wp2_with fail
  refine (rmay_1 _ _ (a + b) true (timeB_yes h1 h2) _ (by simp)).mono ?_
  rintro e w1 ⟨rfl, rfl⟩
  go_wp2
  go_ret2
  exact ⟨rfl, ((Below.refl _ _).alloc (Nat.le_refl _) _).alloc (by simp) _⟩
theorem radd_over (a b : Int) (w : World) (ha1 : -1152921504606846976 ≤ a) (ha2 : a ≤ 1152921504606846976) (hb1 : -1152921504606846976 ≤ b) (hb2 : b ≤ 1152921504606846976) (h : a + b < -1152921504606846976 ∨ 1152921504606846976 < a + b) :
    Calls Tryd.prog 11 #[.int .i64 a, .int .i64 b] w fun e w' => e = .returned (.tuple #[.int .i64 0, .int .i64 2]) ∧ Below w.heap.size w w' := by
  have H := hid h
  clear h
  go_enter Tryd.func11, Tryd.ntmps11
  go_wp2_with fail
  refine (rmay_2 _ _ a b true (by rw [timeB_yes ha1 ha2, timeB_yes hb1 hb2]; rfl) _ (by simp) (by simp)).mono ?_
  rintro e w' ⟨rfl, rfl⟩
  go_wp2_with fail
  refine (rmay_1 _ _ (a + b) false (timeB_no H.out) _ (by simp)).mono ?_
  rintro e w1 ⟨rfl, rfl⟩
  go_wp2
  go_ret2
  exact ⟨rfl, ((Below.refl _ _).alloc (Nat.le_refl _) _).alloc (by simp) _⟩
theorem radd_arg (a b : Int) (w : World) (h : (timeB a && timeB b) = false) :
    Calls Tryd.prog 11 #[.int .i64 a, .int .i64 b] w fun e w' => e = .returned (.tuple #[.int .i64 0, .int .i64 1]) ∧ Below w.heap.size w w' := by
  have H := hid h
  clear h
  go_enter Tryd.func11, Tryd.ntmps11
  go_wp2_with fail
  refine (rmay_2 _ _ a b false H.out _ (by simp) (by simp)).mono ?_
  rintro e w' ⟨rfl, rfl⟩
  go_wp2
  go_ret2
  exact ⟨rfl, (Below.refl _ _).alloc (Nat.le_refl _) _⟩
/-- palletref01.Sub is Add of the opposite -/
theorem rsub_any (a b x c : Int) (w : World) (ha1 : -1152921504606846976 ≤ a) (ha2 : a ≤ 1152921504606846976) (hb1 : -1152921504606846976 ≤ b) (hb2 : b ≤ 1152921504606846976)
    (hA : ∀ w : World, Calls Tryd.prog 11 #[.int .i64 a, .int .i64 (-b)] w fun e w' => e = .returned (.tuple #[.int .i64 x, .int .i64 c]) ∧ Below w.heap.size w w') :
    Calls Tryd.prog 13 #[.int .i64 a, .int .i64 b] w fun e w' => e = .returned (.tuple #[.int .i64 x, .int .i64 c]) ∧ Below w.heap.size w w' := by
  have HA := hid hA
  clear hA
  go_enter Tryd.func13, Tryd.ntmps13
  go_wp2_with fail
  refine (rmay_2 _ _ a b true (by rw [timeB_yes ha1 ha2, timeB_yes hb1 hb2]; rfl) _ (by simp) (by simp)).mono ?_
  rintro e w' ⟨rfl, rfl⟩
  go_wp2_with fail
  refine (HA.out _).mono ?_
  rintro e w1 ⟨rfl, g1⟩
  go_wp2
  go_ret2
  exact ⟨rfl, ((Below.refl _ _).alloc (Nat.le_refl _) _).trans (g1.mono (by simp))⟩
theorem rsub_arg (a b : Int) (w : World) (h : (timeB a && timeB b) = false) :
    Calls Tryd.prog 13 #[.int .i64 a, .int .i64 b] w fun e w' => e = .returned (.tuple #[.int .i64 0, .int .i64 1]) ∧ Below w.heap.size w w' := by
  have H := hid h
  clear h
  go_enter Tryd.func13, Tryd.ntmps13
  go_wp2_with fail
  refine (rmay_2 _ _ a b false H.out _ (by simp) (by simp)).mono ?_
  rintro e w' ⟨rfl, rfl⟩
  go_wp2
  go_ret2
  exact ⟨rfl, (Below.refl _ _).alloc (Nat.le_refl _) _⟩

/-- palletref01.Mul and pico.Mul are Scale's, by 1 -/
theorem rmul_any (a b x t c : Int) (w : World) (hA : ∀ w : World, Calls Tryd.prog 17 #[.int .i64 a, .int .i64 b, .int .i64 1] w fun e w' => e = .returned (.tuple #[.int .i64 x, .int .i64 t, .int .i64 c]) ∧ Below w.heap.size w w') :
    Calls Tryd.prog 15 #[.int .i64 a, .int .i64 b] w fun e w' => e = .returned (.tuple #[.int .i64 x, .int .i64 c]) ∧ Below w.heap.size w w' := by
  have HA := hid hA
  clear hA
  go_enter Tryd.func15, Tryd.ntmps15
  go_wp2_with fail
  refine (HA.out _).mono ?_
  rintro e w1 ⟨rfl, g1⟩
  go_wp2
  go_ret2
  exact ⟨rfl, g1⟩
theorem pmul_any (a b x t c : Int) (w : World) (hA : ∀ w : World, Calls Tryd.prog 16 #[.int .i64 a, .int .i64 b, .int .i64 1] w fun e w' => e = .returned (.tuple #[.int .i64 x, .int .i64 t, .int .i64 c]) ∧ Below w.heap.size w w') :
    Calls Tryd.prog 14 #[.int .i64 a, .int .i64 b] w fun e w' => e = .returned (.tuple #[.int .i64 x, .int .i64 c]) ∧ Below w.heap.size w w' := by
  have HA := hid hA
  clear hA
  go_enter Tryd.func14, Tryd.ntmps14
  go_wp2_with fail
  refine (HA.out _).mono ?_
  rintro e w1 ⟨rfl, g1⟩
  go_wp2
  go_ret2
  exact ⟨rfl, g1⟩

theorem or_up (h l : Nat) (h1 : h < 9223372036854775808) (h2 : l < 18446744073709551616) : bits .or .u64 ((h : Int) * 2) ((l : Int) / 9223372036854775808) = ((2 * h + l / 9223372036854775808 : Nat) : Int) := by
  have e1 : ((h : Int) * 2) = ((h * 2 : Nat) : Int) := by rw [Int.natCast_mul]; rfl
  have e2 : ((l : Int) / 9223372036854775808) = ((l / 9223372036854775808 : Nat) : Int) := by rw [Int.natCast_ediv]; rfl
  rw [e1, e2, bits_or_u64_nat _ _ (by omega) (by omega), nat_join 1 _ _ (by omega) (by omega)]
  omega
theorem or_low (l : Nat) : bits .or .u64 (IntKind.u64.wrap ((l : Int) * 2)) 0 = ((2 * l % 18446744073709551616 : Nat) : Int) := by
  have e1 : ((l : Int) * 2) = ((l * 2 : Nat) : Int) := by rw [Int.natCast_mul]; rfl
  rw [e1, Go.Proofs.Mul64.wrapM]
  have h := bits_or_u64_nat (l * 2 % 18446744073709551616) 0 (Nat.mod_lt _ (by decide)) (by decide)
  rw [Nat.or_zero] at h
  refine Eq.trans h ?_
  rw [Nat.mul_comm]

/-- palletref01.twice, of a number whose double has room -/
theorem twice_any (h l : Nat) (w : World) (h1 : h < 9223372036854775808) (h2 : l < 18446744073709551616) :
    Calls Tryd.prog 28 #[.int .u64 (h : Int), .int .u64 (l : Int), .int .u64 0] w fun e w' => e = .returned (.tuple #[.int .u64 ((2 * h + l / 9223372036854775808 : Nat) : Int), .int .u64 ((2 * l % 18446744073709551616 : Nat) : Int)]) ∧ w = w' := by
  go_enter Tryd.func28, Tryd.ntmps28
  go_wp2
  go_ret2
  exact ⟨ret_two (or_up h l h1 h2) (or_low l), rfl⟩
end Go.Proofs.YtfhiiklpclkelaaDoor
