/-
  The walk of CrcTails.
-/
import Derived.Test.YtlncjcipbijndaaG
namespace Go.Proofs.Ytlncjcipbijndaa
open Go Go.RowKit

theorem sealed24 {bs : List Nat} (ho : Oct bs) : sum24 (bs ++ tail24 bs) = 0 :=
  (whole24 bs _ _ _ ho (by omega) (by omega) (by omega)).1 rfl
theorem sealed32 {bs : List Nat} (ho : Oct bs) : reg st32 e32 4294967295 (bs ++ tail32 bs) = k32 :=
  (whole32 bs _ _ _ _ ho (by omega) (by omega) (by omega) (by omega)).1 rfl

set_option maxRecDepth 100000 in
set_option maxHeartbeats 2000000 in
theorem tails_walk (A : Option Addr) (n c : Nat) (bs : List Nat) (q : Int) (w : World) (ha : Row w w.heap.size A n (bv bs)) (ho : Oct bs) (hm : n ≤ 140737488351232) (q1 : -9223372036854775808 ≤ q) (q2 : q ≤ 9223372036854775807) :
    Calls Try.prog 7 #[.slice A n c, .int .i64 q] w fun e w' => e = .returned (.bool true) ∧ Below w.heap.size w w' := by
  have HA := hid ha
  have HO := hid ho
  have hl : bs.length = n := by rw [← bv_len]; exact ha.1
  have HL := hid hl
  clear ha ho hl
  go_enter Try.func7, Try.ntmps7
  go_wp2_with fail
  refine (live_any w).mono ?_
  rintro e w0 ⟨rfl, bel0⟩
  have HA0 : Hid (Row w0 w.heap.size A n (bv bs)) := hid (HA.out.below bel0)
  have HB0 := hid bel0
  have hz0 : w.heap.size ≤ w0.heap.size := bel0.size
  clear bel0 HA
  by_cases hbig : 5000 < n
  · go_wp2
    go_ret
    exact ⟨rfl, HB0.out⟩
  · go_wp2_with fail
    refine (seal24_ok A n c w.heap.size bs w0 HA0.out hz0 HO.out (by omega)).mono ?_
    rintro e w1 ⟨A1, n1, c1, rfl, own1, bel1⟩
    have HR1 := hid own1.row
    have HA1 : Hid (Row w1 w.heap.size A n (bv bs)) := hid (HA0.out.below (bel1.mono hz0))
    have hn1 : n1 ≤ 5003 := by rw [← own1.len, bv_len, List.length_append, HL.out, tail24_len]; omega
    have HB1 : Hid (Below w.heap.size w w1) := hid (HB0.out.trans (bel1.mono hz0))
    have hz1 : w.heap.size ≤ w1.heap.size := HB1.out.size
    clear own1 bel1 HA0 HB0 hz0
    by_cases hq : 0 ≤ q ∧ q / 8 < n
    · obtain ⟨k, rfl⟩ : ∃ k : Nat, q = k := ⟨q.toNat, by omega⟩
      have hk : k / 8 < n := by omega
      have HK := hid hk
      clear hq
      go_wp2_with fail
      refine (turn_ok A n c w.heap.size k bs w1 HA1.out HO.out (by omega) hz1 hk).mono ?_
      rintro e w2 ⟨A2, n2, c2, rfl, own2, bel2⟩
      have hn2 : n2 = n := by rw [← own2.len, bv_len, turned_len, HL.out]
      subst hn2
      have HA2 : Hid (Row w2 w.heap.size A n2 (bv bs)) := hid (HA1.out.below (bel2.mono hz1))
      have HR2 : Hid (Row w2 w1.heap.size A1 n1 (bv (bs ++ tail24 bs))) := hid (HR1.out.below bel2)
      have HX2 : Hid (Row w2 w2.heap.size A2 n2 (bv (turned bs k))) := hid own2.row
      have hz2 : w1.heap.size ≤ w2.heap.size := bel2.size
      have HB2 : Hid (Below w.heap.size w w2) := hid (HB1.out.trans (bel2.mono hz1))
      clear own2 bel2 HA1 HR1 HB1
      go_wp2_with fail
      refine (turn_ok A2 n2 c2 w2.heap.size k (turned bs k) w2 HX2.out (turned_oct HO.out _) (by omega) (Nat.le_refl _) hk).mono ?_
      rintro e w3 ⟨A3, n3, c3, rfl, own3, bel3⟩
      have HA3 : Hid (Row w3 w.heap.size A n2 (bv bs)) := hid (HA2.out.below (bel3.mono (by omega)))
      have HR3 : Hid (Row w3 w1.heap.size A1 n1 (bv (bs ++ tail24 bs))) := hid (HR2.out.below (bel3.mono hz2))
      have HX3 : Hid (Row w3 w2.heap.size A2 n2 (bv (turned bs k))) := hid (HX2.out.below bel3)
      have HY3 : Hid (Row w3 w3.heap.size A3 n3 (bv bs)) := hid (by have := own3.row; rwa [turned_twice bs k (by rw [HL.out]; exact HK.out)] at this)
      have hz3 : w2.heap.size ≤ w3.heap.size := bel3.size
      have HB3 : Hid (Below w.heap.size w w3) := hid (HB2.out.trans (bel3.mono (by omega)))
      have HNE : Hid (decide (turned bs k = bs) = false) := hid (decide_eq_false (turned_ne bs k (by rw [HL.out]; exact HK.out)))
      clear own3 bel3 HA2 HR2 HX2 HB2
      go_wp2_with fail
      refine (same_any A3 A n3 c3 n2 c w3.heap.size w.heap.size bs bs true w3 HY3.out HA3.out HO.out HO.out (by simp)).mono ?_
      rintro e w' ⟨rfl, rfl⟩
      go_wp2_with fail
      refine (same_any A2 A n2 c2 n2 c w2.heap.size w.heap.size (turned bs k) bs false w3 HX3.out HA3.out (turned_oct HO.out _) HO.out HNE.out).mono ?_
      rintro e w' ⟨rfl, rfl⟩
      go_wp2_with fail
      refine (sum24_any A1 n1 c1 w1.heap.size (bs ++ tail24 bs) w3 HR3.out (by omega) (HO.out.app (tail24_oct _)) (by omega)).mono ?_
      rintro e w4 ⟨rfl, bel4⟩
      rw [sealed24 HO.out]
      have HA4 : Hid (Row w4 w.heap.size A n2 (bv bs)) := hid (HA3.out.below (bel4.mono (by omega)))
      have HB4 : Hid (Below w.heap.size w w4) := hid (HB3.out.trans (bel4.mono (by omega)))
      have hz4 : w.heap.size ≤ w4.heap.size := HB4.out.size
      clear bel4 HA3 HR3 HX3 HY3 HB3
      go_wp2_with fail
      refine (sum24_any A n2 c w.heap.size bs w4 HA4.out hz4 HO.out (by omega)).mono ?_
      rintro e w5 ⟨rfl, bel5⟩
      have hs : sum24 bs < 16777216 := sum24_lt HO.out
      have HB5 : Hid (Below w.heap.size w w5) := hid (HB4.out.trans (bel5.mono hz4))
      clear bel5 HA4 HB4
      generalize sum24 bs = S at *
      go_wp2_with fail
      go_ret
      exact ⟨ret_bool (by simp; omega), HB5.out⟩
    · have hbad : q < 0 ∨ (n : Int) ≤ q / 8 := by omega
      have hbad2 : q < 0 ∨ ((0 : Nat) : Int) ≤ q / 8 := by omega
      have HBD := hid hbad
      have HBD2 := hid hbad2
      clear hq hbad hbad2
      go_wp2_with fail
      refine (turn_bad A n c q w1 HBD.out q1 q2).mono ?_
      rintro e w2 ⟨A2, n2, c2, rfl, own2, bel2⟩
      have hn2 : n2 = 0 := by rw [← own2.len]; rfl
      subst hn2
      have HA2 : Hid (Row w2 w.heap.size A n (bv bs)) := hid (HA1.out.below (bel2.mono hz1))
      have HR2 : Hid (Row w2 w1.heap.size A1 n1 (bv (bs ++ tail24 bs))) := hid (HR1.out.below bel2)
      have hz2 : w1.heap.size ≤ w2.heap.size := bel2.size
      have HB2 : Hid (Below w.heap.size w w2) := hid (HB1.out.trans (bel2.mono hz1))
      clear own2 bel2 HA1 HR1 HB1
      go_wp2_with fail
      refine (turn_bad A2 0 c2 q w2 HBD2.out q1 q2).mono ?_
      rintro e w3 ⟨A3, n3, c3, rfl, own3, bel3⟩
      have HA3 : Hid (Row w3 w.heap.size A n (bv bs)) := hid (HA2.out.below (bel3.mono (by omega)))
      have HR3 : Hid (Row w3 w1.heap.size A1 n1 (bv (bs ++ tail24 bs))) := hid (HR2.out.below (bel3.mono hz2))
      have hz3 : w2.heap.size ≤ w3.heap.size := bel3.size
      have HB3 : Hid (Below w.heap.size w w3) := hid (HB2.out.trans (bel3.mono (by omega)))
      clear own3 bel3 HA2 HR2 HB2
      go_wp2_with fail
      refine (sum24_any A1 n1 c1 w1.heap.size (bs ++ tail24 bs) w3 HR3.out (by omega) (HO.out.app (tail24_oct _)) (by omega)).mono ?_
      rintro e w4 ⟨rfl, bel4⟩
      rw [sealed24 HO.out]
      have HA4 : Hid (Row w4 w.heap.size A n (bv bs)) := hid (HA3.out.below (bel4.mono (by omega)))
      have HB4 : Hid (Below w.heap.size w w4) := hid (HB3.out.trans (bel4.mono (by omega)))
      have hz4 : w.heap.size ≤ w4.heap.size := HB4.out.size
      clear bel4 HA3 HR3 HB3
      go_wp2_with fail
      refine (sum24_any A n c w.heap.size bs w4 HA4.out hz4 HO.out (by omega)).mono ?_
      rintro e w5 ⟨rfl, bel5⟩
      have hs : sum24 bs < 16777216 := sum24_lt HO.out
      have HB5 : Hid (Below w.heap.size w w5) := hid (HB4.out.trans (bel5.mono hz4))
      clear bel5 HA4 HB4
      generalize sum24 bs = S at *
      go_wp2_with fail
      go_ret
      exact ⟨ret_bool (by simp; omega), HB5.out⟩
end Go.Proofs.Ytlncjcipbijndaa
