/-
  The walk of CrcSums.
-/
import Derived.Test.YtlncjcipbijndaaG
import Derived.Test.YtlncjcipbijndaaR
namespace Go.Proofs.Ytlncjcipbijndaa
open Go Go.RowKit

/-- Both Turns tell the same. -/
theorem turn_both (A : Option Addr) (n c B : Nat) (bs : List Nat) (q : Int) (ho : Oct bs) (hn : n ≤ 10000000) (q1 : -9223372036854775808 ≤ q) (q2 : q ≤ 9223372036854775807) :
    ∃ (xs : List Nat) (er : Nat), Oct xs ∧ ∀ W : World, Row W B A n (bv bs) → B ≤ W.heap.size →
      Calls Try.prog 9 #[.slice A n c, .int .i64 q] W (RetE W.heap.size (bv xs) er W) ∧ Calls Try.prog 10 #[.slice A n c, .int .i64 q] W (RetE W.heap.size (bv xs) er W) := by
  by_cases hq : 0 ≤ q ∧ q / 8 < n
  · obtain ⟨k, rfl⟩ : ∃ k : Nat, q = k := ⟨q.toNat, by omega⟩
    have hk : k / 8 < n := by omega
    exact ⟨turned bs k, 0, turned_oct ho k, fun W hr hB => ⟨turn_ok A n c B k bs W hr ho hn hB hk, refturn_ok A n c B k bs W hr ho hn hB hk⟩⟩
  · exact ⟨[], 1, Oct.nil, fun W _ _ => ⟨turn_bad A n c q W (by omega) q1 q2, refturn_bad A n c q W (by omega) q1 q2⟩⟩

set_option maxRecDepth 100000 in
set_option maxHeartbeats 2000000 in
theorem sums_walk (A : Option Addr) (n c : Nat) (bs : List Nat) (q : Int) (w : World) (ha : Row w w.heap.size A n (bv bs)) (ho : Oct bs) (hm : n ≤ 140737488351232) (q1 : -9223372036854775808 ≤ q) (q2 : q ≤ 9223372036854775807) :
    Calls Try.prog 3 #[.slice A n c, .int .i64 q] w fun e w' => e = .returned (.bool true) ∧ Below w.heap.size w w' := by
  have HA := hid ha
  have HO := hid ho
  clear ha ho
  go_enter Try.func3, Try.ntmps3
  go_wp2_with fail
  refine (live_any w).mono ?_
  rintro e w0 ⟨rfl, bel0⟩
  have HA0 : Hid (Row w0 w.heap.size A n (bv bs)) := hid (HA.out.below bel0)
  have HB0 := hid bel0
  have hz0 : w.heap.size ≤ w0.heap.size := bel0.size
  clear bel0 HA
  by_cases hbig : 5000 < n
  · go_wp2
    go_ret
    exact ⟨rfl, HB0.out⟩
  · obtain ⟨xs, er, ox, ht⟩ := turn_both A n c w.heap.size bs q HO.out (by omega) q1 q2
    have HT := hid ht
    have OX := hid ox
    clear ht ox
    go_wp2_with (at_builtin; refine wpList_app _ rfl (.const (.slice none 0 0)) (.tmp 18) 22 rfl w0.heap.size 5 (.int .u8 0) 1 Try.underlying22 info5 rfl none 0 0 [] rfl (Own.nil _ _ _) w.heap.size A n c (bv bs) rfl HA0.out (bv_one bs) (by omega) (by omega) (Nat.le_refl _) ?_; intro A1 c1 w1 own1 bel1; rw [Nat.zero_add, List.nil_append] at own1)
    have HW1 : Hid (Row w1 w1.heap.size A1 n (bv bs)) := hid own1.row
    have HA1 : Hid (Row w1 w.heap.size A n (bv bs)) := hid (HA0.out.below (bel1.mono hz0))
    have HB1 : Hid (Below w.heap.size w w1) := hid (HB0.out.trans (bel1.mono hz0))
    have hz1 : w.heap.size ≤ w1.heap.size := HB1.out.size
    clear own1 bel1 HA0 HB0
    go_wp2_with fail
    refine ((HT.out w1 HA1.out hz1).1).mono ?_
    rintro e w2 ⟨A2, n2, c2, rfl, own2, bel2⟩
    have HX2 : Hid (Row w2 w2.heap.size A2 n2 (bv xs)) := hid own2.row
    have HW2 : Hid (Row w2 w1.heap.size A1 n (bv bs)) := hid (HW1.out.below bel2)
    have HA2 : Hid (Row w2 w.heap.size A n (bv bs)) := hid (HA1.out.below (bel2.mono hz1))
    have HB2 : Hid (Below w.heap.size w w2) := hid (HB1.out.trans (bel2.mono hz1))
    have hz2 : w1.heap.size ≤ w2.heap.size := bel2.size
    clear own2 bel2 HW1 HA1 HB1
    go_wp2_with fail
    refine ((HT.out w2 HA2.out (by omega)).2).mono ?_
    rintro e w3 ⟨A3, n3, c3, rfl, own3, bel3⟩
    have HY3 : Hid (Row w3 w3.heap.size A3 n3 (bv xs)) := hid own3.row
    have HX3 : Hid (Row w3 w2.heap.size A2 n2 (bv xs)) := hid (HX2.out.below bel3)
    have HW3 : Hid (Row w3 w1.heap.size A1 n (bv bs)) := hid (HW2.out.below (bel3.mono hz2))
    have HA3 : Hid (Row w3 w.heap.size A n (bv bs)) := hid (HA2.out.below (bel3.mono (by omega)))
    have HB3 : Hid (Below w.heap.size w w3) := hid (HB2.out.trans (bel3.mono (by omega)))
    have hz3 : w2.heap.size ≤ w3.heap.size := bel3.size
    clear own3 bel3 HX2 HW2 HA2 HB2
    go_wp2_with fail
    refine (sum24_any A n c w.heap.size bs w3 HA3.out (by omega) HO.out (by omega)).mono ?_
    rintro e w4 ⟨rfl, bel4⟩
    have HY4 : Hid (Row w4 w3.heap.size A3 n3 (bv xs)) := hid (HY3.out.below bel4)
    have HX4 : Hid (Row w4 w2.heap.size A2 n2 (bv xs)) := hid (HX3.out.below (bel4.mono hz3))
    have HW4 : Hid (Row w4 w1.heap.size A1 n (bv bs)) := hid (HW3.out.below (bel4.mono (by omega)))
    have HA4 : Hid (Row w4 w.heap.size A n (bv bs)) := hid (HA3.out.below (bel4.mono (by omega)))
    have HB4 : Hid (Below w.heap.size w w4) := hid (HB3.out.trans (bel4.mono (by omega)))
    have hz4 : w3.heap.size ≤ w4.heap.size := bel4.size
    clear bel4 HY3 HX3 HW3 HA3 HB3
    go_wp2_with fail
    refine (refsum24_any A n c w.heap.size bs w4 HA4.out HO.out (by omega)).mono ?_
    rintro e w' ⟨rfl, rfl⟩
    generalize sum24 bs = S24 at *
    go_wp2_with fail
    refine (sum32_any A n c w.heap.size bs w4 HA4.out (by omega) HO.out (by omega)).mono ?_
    rintro e w5 ⟨rfl, bel5⟩
    have HY5 : Hid (Row w5 w3.heap.size A3 n3 (bv xs)) := hid (HY4.out.below (bel5.mono hz4))
    have HX5 : Hid (Row w5 w2.heap.size A2 n2 (bv xs)) := hid (HX4.out.below (bel5.mono (by omega)))
    have HW5 : Hid (Row w5 w1.heap.size A1 n (bv bs)) := hid (HW4.out.below (bel5.mono (by omega)))
    have HA5 : Hid (Row w5 w.heap.size A n (bv bs)) := hid (HA4.out.below (bel5.mono (by omega)))
    have HB5 : Hid (Below w.heap.size w w5) := hid (HB4.out.trans (bel5.mono (by omega)))
    clear bel5 HY4 HX4 HW4 HA4 HB4
    go_wp2_with fail
    refine (refsum32_any A n c w.heap.size bs w5 HA5.out HO.out (by omega)).mono ?_
    rintro e w' ⟨rfl, rfl⟩
    generalize sum32 bs = S32 at *
    go_wp2_with fail
    refine (same_any A2 A3 n2 c2 n3 c3 w2.heap.size w3.heap.size xs xs true w5 HX5.out HY5.out OX.out OX.out (by simp)).mono ?_
    rintro e w' ⟨rfl, rfl⟩
    go_wp2_with fail
    refine (same_any A A1 n c n c1 w.heap.size w1.heap.size bs bs true w5 HA5.out HW5.out HO.out HO.out (by simp)).mono ?_
    rintro e w' ⟨rfl, rfl⟩
    go_wp2_with fail
    go_ret
    exact ⟨rfl, HB5.out⟩
theorem sums_row {w : World} (A : Option Addr) (n c : Nat) (zs : List Int) (h : Came .u8 w A n c zs) (hc : c ≤ 140737488351232) (q : Int) (q1 : -9223372036854775808 ≤ q) (q2 : q ≤ 9223372036854775807) :
    Calls Try.prog 3 #[.slice A n c, .int .i64 q] w fun e w' => e = .returned (.bool true) ∧ Below w.heap.size w w' := by
  obtain ⟨bs, hr, ho⟩ := came_u8 h
  exact sums_walk A n c bs q w hr ho (Nat.le_trans h.2.1 hc) q1 q2
end Go.Proofs.Ytlncjcipbijndaa
