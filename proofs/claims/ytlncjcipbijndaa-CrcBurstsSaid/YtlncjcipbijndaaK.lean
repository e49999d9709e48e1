/-
  The walk of CrcBursts.
-/
import Derived.Test.YtlncjcipbijndaaH
import Derived.Test.YtlncjcipbijndaaR
namespace Go.Proofs.Ytlncjcipbijndaa
open Go Go.RowKit

theorem three_of {l : List Nat} (h : l.length = 3) : ∃ a b c, l = [a, b, c] := by
  match l, h with
  | [a, b, c], _ => exact ⟨a, b, c, rfl⟩
theorem four_of {l : List Nat} (h : l.length = 4) : ∃ a b c d, l = [a, b, c, d] := by
  match l, h with
  | [a, b, c, d], _ => exact ⟨a, b, c, d, rfl⟩
theorem open24_iff {ss : List Nat} {L : Nat} (hl : ss.length = L) (h3 : 3 ≤ L) (ho : Oct ss) : tail24 (ss.take (L - 3)) = ss.drop (L - 3) ↔ sum24 ss = 0 := by
  obtain ⟨a, b, c, hd⟩ := three_of (l := ss.drop (L - 3)) (by rw [List.length_drop]; omega)
  have od := ho.drop (L - 3)
  rw [hd] at od ⊢
  rw [whole24 (ss.take (L - 3)) a b c (ho.take _) od.head od.tail.head od.tail.tail.head, ← hd, List.take_append_drop]
theorem open32_iff {ss : List Nat} {L : Nat} (hl : ss.length = L) (h4 : 4 ≤ L) (ho : Oct ss) : tail32 (ss.take (L - 4)) = ss.drop (L - 4) ↔ reg st32 e32 4294967295 ss = k32 := by
  obtain ⟨a, b, c, d, hd⟩ := four_of (l := ss.drop (L - 4)) (by rw [List.length_drop]; omega)
  have od := ho.drop (L - 4)
  rw [hd] at od ⊢
  rw [whole32 (ss.take (L - 4)) a b c d (ho.take _) od.head od.tail.head od.tail.tail.head od.tail.tail.tail.head, ← hd, List.take_append_drop]
theorem open24_sealed (A : Option Addr) (n c B : Nat) (bs : List Nat) (w : World) (ha : Row w B A n (bv (bs ++ tail24 bs))) (hB : B ≤ w.heap.size) (ho : Oct bs) (hn : n = bs.length + 3) (hb : bs.length ≤ 1048576) (hnc : n ≤ c) :
    Calls Try.prog 20 #[.slice A n c] w (RetE w.heap.size (bv bs) 0 w) := by
  have e1 : (bs ++ tail24 bs).take (n - 3) = bs := by rw [hn, Nat.add_sub_cancel, List.take_left]
  have e2 : (bs ++ tail24 bs).drop (n - 3) = tail24 bs := by rw [hn, Nat.add_sub_cancel, List.drop_left]
  have := open24_ok A n c B (bs ++ tail24 bs) w ha hB (ho.app (tail24_oct _)) (by omega) (by omega) hnc (by rw [e1, e2])
  rwa [e1] at this
theorem open32_sealed (A : Option Addr) (n c B : Nat) (bs : List Nat) (w : World) (ha : Row w B A n (bv (bs ++ tail32 bs))) (hB : B ≤ w.heap.size) (ho : Oct bs) (hn : n = bs.length + 4) (hb : bs.length ≤ 1048576) (hnc : n ≤ c) :
    Calls Try.prog 22 #[.slice A n c] w (RetE w.heap.size (bv bs) 0 w) := by
  have e1 : (bs ++ tail32 bs).take (n - 4) = bs := by rw [hn, Nat.add_sub_cancel, List.take_left]
  have e2 : (bs ++ tail32 bs).drop (n - 4) = tail32 bs := by rw [hn, Nat.add_sub_cancel, List.drop_left]
  have := open32_ok A n c B (bs ++ tail32 bs) w ha hB (ho.app (tail32_oct _)) (by omega) (by omega) hnc (by rw [e1, e2])
  rwa [e1] at this
theorem turn_at (A : Option Addr) (n c B q : Nat) (z : Int) (bs : List Nat) (w : World) (hz : z = (q : Int)) (ha : Row w B A n (bv bs)) (ho : Oct bs) (hn : n ≤ 10000000) (hB : B ≤ w.heap.size) (hq : q / 8 < n) :
    Calls Try.prog 9 #[.slice A n c, .int .i64 z] w (RetE w.heap.size (bv (turned bs q)) 0 w) := by
  subst hz; exact turn_ok A n c B q bs w ha ho hn hB hq

def BurRel (base : Nat) (w : World) (L M o : Nat) (s t met i : Value) (wr : World) : Prop :=
  ∃ (k c1 c2 : Nat) (A1 A2 : Option Addr) (ss ts : List Nat) (m : Bool), k ≤ 24 ∧ i = .int .i64 (k : Int) ∧ s = .slice A1 L c1 ∧ t = .slice A2 M c2 ∧ met = .bool m ∧
    Row wr wr.heap.size A1 L (bv ss) ∧ Row wr wr.heap.size A2 M (bv ts) ∧ L ≤ c1 ∧ M ≤ c2 ∧ Burst L o ss ts k m ∧ Below base w wr

theorem wrapped (q : Int) (M : Nat) (hM : 0 < M) : ∃ (a : Int) (o : Nat), q.tmod (M : Int) = a ∧ -(M : Int) < a ∧ a < (M : Int) ∧ (a + (M : Int)).tmod (M : Int) = (o : Int) ∧ o < M := by
  have h1 := Int.tmod_lt_of_pos q (show (0 : Int) < (M : Int) by omega)
  have h2 : -(M : Int) < q.tmod (M : Int) := by
    have := Int.lt_tmod_of_pos q (show (0 : Int) < (M : Int) by omega); exact this
  refine ⟨q.tmod M, ((q.tmod M + M) % M).toNat, rfl, h2, h1, ?_, ?_⟩
  · rw [Int.tmod_eq_emod_of_nonneg (by omega)]
    have := Int.emod_nonneg (q.tmod M + M) (show (M : Int) ≠ 0 by omega)
    omega
  · have := Int.emod_nonneg (q.tmod M + M) (show (M : Int) ≠ 0 by omega)
    have := Int.emod_lt_of_pos (q.tmod M + M) (show (0 : Int) < (M : Int) by omega)
    omega

set_option maxRecDepth 100000 in
set_option maxHeartbeats 4000000 in
theorem bursts_walk (A : Option Addr) (n c : Nat) (bs : List Nat) (q : Int) (p : Nat) (w : World) (ha : Row w w.heap.size A n (bv bs)) (ho : Oct bs) (hm : n ≤ 140737488351232) (_q1 : -9223372036854775808 ≤ q) (_q2 : q ≤ 9223372036854775807) (hp : p < 4294967296) :
    Calls Try.prog 5 #[.slice A n c, .int .i64 q, .int .u32 (p : Int)] w fun e w' => e = .returned (.bool true) ∧ Below w.heap.size w w' := by
  have HA := hid ha
  have HO := hid ho
  have hl : bs.length = n := by rw [← bv_len]; exact ha.1
  have HL := hid hl
  clear ha ho hl
  go_enter Try.func5, Try.ntmps5
  go_wp2_with fail
  refine (live_any w).mono ?_
  rintro e w0 ⟨rfl, bel0⟩
  have HA0 : Hid (Row w0 w.heap.size A n (bv bs)) := hid (HA.out.below bel0)
  have HB0 := hid bel0
  have hz0 : w.heap.size ≤ w0.heap.size := bel0.size
  clear bel0 HA
  by_cases hbig : 3000 < n
  · go_wp2
    go_ret
    exact ⟨rfl, HB0.out⟩
  · go_wp2_with fail
    refine (seal24_ok A n c w.heap.size bs w0 HA0.out hz0 HO.out (by omega)).mono ?_
    rintro e w1 ⟨A1, n1, c1, rfl, own1, bel1⟩
    have HS1 : Hid (Row w1 w1.heap.size A1 n1 (bv (bs ++ tail24 bs))) := hid own1.row
    have HN1 : Hid (n1 = n + 3) := hid (by rw [← own1.len, bv_len, List.length_append, HL.out]; rfl)
    have hc1 : n1 ≤ c1 := own1.cap
    have HA1 : Hid (Row w1 w.heap.size A n (bv bs)) := hid (HA0.out.below (bel1.mono hz0))
    have HB1 : Hid (Below w.heap.size w w1) := hid (HB0.out.trans (bel1.mono hz0))
    have hz1 : w.heap.size ≤ w1.heap.size := HB1.out.size
    clear own1 bel1 HA0 HB0 hz0
    go_wp2_with fail
    refine (open24_sealed A1 n1 c1 w1.heap.size bs w1 HS1.out (Nat.le_refl _) HO.out (by rw [HN1.out, HL.out]) (by rw [HL.out]; omega) hc1).mono ?_
    rintro e w2 ⟨A2, n2, c2, rfl, own2, bel2⟩
    have HP2 : Hid (Row w2 w2.heap.size A2 n2 (bv bs)) := hid own2.row
    have HS2 : Hid (Row w2 w1.heap.size A1 n1 (bv (bs ++ tail24 bs))) := hid (HS1.out.below bel2)
    have HA2 : Hid (Row w2 w.heap.size A n (bv bs)) := hid (HA1.out.below (bel2.mono hz1))
    have HB2 : Hid (Below w.heap.size w w2) := hid (HB1.out.trans (bel2.mono hz1))
    have hz2 : w1.heap.size ≤ w2.heap.size := bel2.size
    clear own2 bel2 HS1 HA1 HB1
    go_wp2_with fail
    refine (seal32_ok A n c w.heap.size bs w2 HA2.out (by omega) HO.out (by omega)).mono ?_
    rintro e w3 ⟨A3, n3, c3, rfl, own3, bel3⟩
    have HT3 : Hid (Row w3 w3.heap.size A3 n3 (bv (bs ++ tail32 bs))) := hid own3.row
    have HN3 : Hid (n3 = n + 4) := hid (by rw [← own3.len, bv_len, List.length_append, HL.out]; rfl)
    have hc3 : n3 ≤ c3 := own3.cap
    have HP3 : Hid (Row w3 w2.heap.size A2 n2 (bv bs)) := hid (HP2.out.below bel3)
    have HS3 : Hid (Row w3 w1.heap.size A1 n1 (bv (bs ++ tail24 bs))) := hid (HS2.out.below (bel3.mono hz2))
    have HA3 : Hid (Row w3 w.heap.size A n (bv bs)) := hid (HA2.out.below (bel3.mono (by omega)))
    have HB3 : Hid (Below w.heap.size w w3) := hid (HB2.out.trans (bel3.mono (by omega)))
    have hz3 : w2.heap.size ≤ w3.heap.size := bel3.size
    clear own3 bel3 HP2 HS2 HA2 HB2
    go_wp2_with fail
    refine (open32_sealed A3 n3 c3 w3.heap.size bs w3 HT3.out (Nat.le_refl _) HO.out (by rw [HN3.out, HL.out]) (by rw [HL.out]; omega) hc3).mono ?_
    rintro e w4 ⟨A4, n4, c4, rfl, own4, bel4⟩
    have HQ4 : Hid (Row w4 w4.heap.size A4 n4 (bv bs)) := hid own4.row
    have HT4 : Hid (Row w4 w4.heap.size A3 n3 (bv (bs ++ tail32 bs))) := hid ((HT3.out.below bel4).more bel4.size)
    have HP4 : Hid (Row w4 w2.heap.size A2 n2 (bv bs)) := hid (HP3.out.below (bel4.mono hz3))
    have HS4 : Hid (Row w4 w4.heap.size A1 n1 (bv (bs ++ tail24 bs))) := hid ((HS3.out.below (bel4.mono (by omega))).more (by have := bel4.size; omega))
    have HA4 : Hid (Row w4 w.heap.size A n (bv bs)) := hid (HA3.out.below (bel4.mono (by omega)))
    have HB4 : Hid (Below w.heap.size w w4) := hid (HB3.out.trans (bel4.mono (by omega)))
    have hz4 : w3.heap.size ≤ w4.heap.size := bel4.size
    clear own4 bel4 HP3 HS3 HA3 HB3 HT3
    have z1 : ((n1 : Int) != (n : Int) + 3) = false := by rw [bne_eq_false_iff_eq, HN1.out]; omega
    have z3 : ((n3 : Int) != (n : Int) + 4) = false := by rw [bne_eq_false_iff_eq, HN3.out]; omega
    have hn1b : n1 ≤ 3003 := by rw [HN1.out]; omega
    have hn1p : 0 < n1 := by rw [HN1.out]; omega
    have hn3b : n3 ≤ 3004 := by rw [HN3.out]; omega
    go_wp2_with fail
    refine (same_any A2 A n2 c2 n c w2.heap.size w.heap.size bs bs true w4 HP4.out HA4.out HO.out HO.out (by simp)).mono ?_
    rintro e w' ⟨rfl, rfl⟩
    go_wp2_with fail
    refine (same_any A4 A n4 c4 n c w4.heap.size w.heap.size bs bs true w4 HQ4.out HA4.out HO.out HO.out (by simp)).mono ?_
    rintro e w' ⟨rfl, rfl⟩
    clear HP4 HQ4 HA4
    obtain ⟨a, o, ha1, ha2, ha3, ha4, hoM⟩ := wrapped q (8 * n1) (by omega)
    have HOM := hid hoM
    have hb1 : q.tmod (8 * (n1 : Int)) = a := by rw [← ha1]; congr 1
    have hb2 : (a + 8 * (n1 : Int)).tmod (8 * (n1 : Int)) = (o : Int) := by rw [← ha4]; congr 1
    have hb3 : ¬ (8 * (n1 : Int) = 0) := by omega
    have hb4 : -24024 < a := by omega
    have hb5 : a < 24024 := by omega
    have ho24 : o < 24024 := by omega
    clear ha1 ha2 ha3 ha4 hoM
    go_wp2_with fail
    have HM : Hid (n3 = n1 + 1) := hid (by rw [HN3.out, HN1.out])
    have HBU : Hid (Burst n1 o (bs ++ tail24 bs) (bs ++ tail32 bs) 0 false) := hid (Burst.start (by rw [← bv_len]; exact HS4.out.1) (by rw [← HM.out, ← bv_len]; exact HT4.out.1) (HO.out.app (tail24_oct _)) (HO.out.app (tail32_oct _)) (sealed24 HO.out) (sealed32 HO.out))
    clear z1 z3 hb1 hb2 hb3 hb4 hb5 hz1 hz2 hz3 hz4
    go_loopw [8, 12, 16, 104] (BurRel w.heap.size w n1 n3 o) (fun _ _ _ i _ => 24 - (intOf i).toNat)
    case atStart => exact ⟨0, c1, c3, A1, A3, _, _, false, by omega, rfl, rfl, rfl, rfl, HS4.out, HT4.out, hc1, hc3, HBU.out, HB4.out⟩
    case round =>
      obtain ⟨k, d1, d2, X1, X2, ss, ts, m, hk, rfl, rfl, rfl, rfl, hs, ht, hd1, hd2, hbu, hbel⟩ := hrel
      have RS := hid hs
      have RT := hid ht
      have BU := hid hbu
      have BL := hid hbel
      have hzr : w.heap.size ≤ wr.heap.size := hbel.size
      clear hs ht hbu hbel HS4 HT4 HBU HB4 hc1 hc3
      by_cases hk24 : k < 24
      · obtain ⟨v, hv⟩ : ∃ v, v = p / 2 ^ k % 2 := ⟨_, rfl⟩
        have hand : bits .and .u32 ((p : Int) / 2 ^ k) 1 = (v : Int) := by
          rw [show (p : Int) / 2 ^ k = ((p / 2 ^ k : Nat) : Int) by norm_cast]
          refine (u32_and_nat (p / 2 ^ k) 1 (Nat.lt_of_le_of_lt (Nat.div_le_self _ _) hp) (by omega)).trans ?_
          rw [hv, show (1 : Nat) = 2 ^ 1 - 1 by decide, Nat.and_two_pow_sub_one_eq_mod]
        have hv2 : v < 2 := by rw [hv]; omega
        clear hv
        have hlt : (k : Int) < 24 := by omega
        by_cases hv0 : v = 0
        · subst hv0
          go_wp2_with fail
          go_roundw
          case rel => exact ⟨k + 1, d1, d2, X1, X2, ss, ts, m, by omega, by go_num, rfl, rfl, rfl, RS.out, RT.out, hd1, hd2, BU.out.skip, BL.out⟩
          case measure => simp [intOf]; omega
        · obtain rfl : v = 1 := by omega
          by_cases hin : o + k < 8 * n1
          · have hge : decide (8 * (n1 : Int) ≤ (o : Int) + (k : Int)) = false := by rw [decide_eq_false_iff_not]; omega
            have HIN := hid hin
            have LS : Hid (ss.length = n1) := hid BU.out.1
            have hq1 : (o + k) / 8 < n1 := by omega
            have hq3 : (o + k) / 8 < n3 := by rw [HM.out]; omega
            go_wp2_with fail
            refine (turn_at X1 n1 d1 wr.heap.size (o + k) _ ss wr (by omega) RS.out BU.out.2.2.1 (by omega) (Nat.le_refl _) hq1).mono ?_
            rintro e y1 ⟨Y1, m1, e1, rfl, owy, bely⟩
            have hm1 : m1 = n1 := by rw [← owy.len, bv_len, turned_len, LS.out]
            subst hm1
            have RY : Hid (Row y1 y1.heap.size Y1 m1 (bv (turned ss (o + k)))) := hid owy.row
            have hcy : m1 ≤ e1 := owy.cap
            have RT1 : Hid (Row y1 wr.heap.size X2 n3 (bv ts)) := hid (RT.out.below bely)
            have BL1 : Hid (Below w.heap.size w y1) := hid (BL.out.trans (bely.mono hzr))
            have hzy : wr.heap.size ≤ y1.heap.size := bely.size
            clear owy bely RS RT BL
            go_wp2_with fail
            refine (turn_at X2 n3 d2 wr.heap.size (o + k) _ ts y1 (by omega) RT1.out BU.out.2.2.2.1 (by omega) hzy hq3).mono ?_
            rintro e y2 ⟨Y2, m2, e2, rfl, owz, belz⟩
            have hm2 : m2 = n3 := by rw [← owz.len, bv_len, turned_len, BU.out.2.1, HM.out]
            subst hm2
            have RZ : Hid (Row y2 y2.heap.size Y2 m2 (bv (turned ts (o + k)))) := hid owz.row
            have hcz : m2 ≤ e2 := owz.cap
            have RY2 : Hid (Row y2 y2.heap.size Y1 m1 (bv (turned ss (o + k)))) := hid ((RY.out.below belz).more belz.size)
            have BL2 : Hid (Below w.heap.size w y2) := hid (BL1.out.trans (belz.mono (by omega)))
            clear owz belz RY RT1 BL1
            go_wp2_with fail
            go_roundw
            case rel => exact ⟨k + 1, e1, e2, Y1, Y2, _, _, true, by omega, by go_num, rfl, rfl, rfl, RY2.out, RZ.out, hcy, hcz, BU.out.turn hk24 HIN.out, BL2.out⟩
            case measure => simp [intOf]; omega
          · have hge : decide (8 * (n1 : Int) ≤ (o : Int) + (k : Int)) = true := by rw [decide_eq_true_eq]; omega
            go_wp2_with fail
            go_roundw
            case rel => exact ⟨k + 1, d1, d2, X1, X2, ss, ts, m, by omega, by go_num, rfl, rfl, rfl, RS.out, RT.out, hd1, hd2, BU.out.skip, BL.out⟩
            case measure => simp [intOf]; omega
      · obtain rfl : k = 24 := by omega
        have D := BU.out.done
        have o1 := BU.out.2.2.1
        have o2 := BU.out.2.2.2.1
        have l1 : ss.length = n1 := BU.out.1
        have l2 : ts.length = n3 := by rw [BU.out.2.1, HM.out]
        have h3 : 3 ≤ n1 := by rw [HN1.out]; omega
        have h4 : 4 ≤ n3 := by rw [HN3.out]; omega
        have HC1 : Hid (tail24 (ss.take (n1 - 3)) = ss.drop (n1 - 3) ↔ m = false) := hid ((open24_iff l1 h3 o1).trans D.1)
        have HC2 : Hid (tail32 (ts.take (n3 - 4)) = ts.drop (n3 - 4) ↔ m = false) := hid ((open32_iff l2 h4 o2).trans D.2)
        have O1 := hid o1
        have O2 := hid o2
        clear D o1 o2 l1 l2 BU
        cases m with
        | false =>
          have E1 := hid (HC1.out.2 rfl)
          have E2 := hid (HC2.out.2 rfl)
          clear HC1 HC2
          go_wp2_with fail
          refine (open24_ok X1 n1 d1 wr.heap.size ss wr RS.out (Nat.le_refl _) O1.out h3 (by omega) hd1 E1.out).mono ?_
          rintro e y1 ⟨Y1, m1, e1, rfl, owy, bely⟩
          have RT1 : Hid (Row y1 wr.heap.size X2 n3 (bv ts)) := hid (RT.out.below bely)
          have BL1 : Hid (Below w.heap.size w y1) := hid (BL.out.trans (bely.mono hzr))
          have hzy : wr.heap.size ≤ y1.heap.size := bely.size
          clear owy bely RS RT BL
          go_wp2_with fail
          refine (open32_ok X2 n3 d2 wr.heap.size ts y1 RT1.out hzy O2.out h4 (by omega) hd2 E2.out).mono ?_
          rintro e y2 ⟨Y2, m2, e2, rfl, owz, belz⟩
          have BL2 : Hid (Below w.heap.size w y2) := hid (BL1.out.trans (belz.mono (by omega)))
          clear owz belz RT1 BL1
          go_wp2_with fail
          go_ret
          exact ⟨rfl, BL2.out⟩
        | true =>
          have E1 : Hid (tail24 (ss.take (n1 - 3)) ≠ ss.drop (n1 - 3)) := hid (fun h => by have := HC1.out.1 h; cases this)
          have E2 : Hid (tail32 (ts.take (n3 - 4)) ≠ ts.drop (n3 - 4)) := hid (fun h => by have := HC2.out.1 h; cases this)
          clear HC1 HC2
          go_wp2_with fail
          refine (open24_bad X1 n1 d1 wr.heap.size ss wr RS.out (Nat.le_refl _) O1.out h3 (by omega) hd1 E1.out).mono ?_
          rintro e y1 ⟨Y1, m1, e1, rfl, owy, bely⟩
          have RT1 : Hid (Row y1 wr.heap.size X2 n3 (bv ts)) := hid (RT.out.below bely)
          have BL1 : Hid (Below w.heap.size w y1) := hid (BL.out.trans (bely.mono hzr))
          have hzy : wr.heap.size ≤ y1.heap.size := bely.size
          clear owy bely RS RT BL
          go_wp2_with fail
          refine (open32_bad X2 n3 d2 wr.heap.size ts y1 RT1.out hzy O2.out h4 (by omega) hd2 E2.out).mono ?_
          rintro e y2 ⟨Y2, m2, e2, rfl, owz, belz⟩
          have BL2 : Hid (Below w.heap.size w y2) := hid (BL1.out.trans (belz.mono (by omega)))
          clear owz belz RT1 BL1
          go_wp2_with fail
          go_ret
          exact ⟨rfl, BL2.out⟩
theorem bursts_row {w : World} (A : Option Addr) (n c : Nat) (zs : List Int) (h : Came .u8 w A n c zs) (hc : c ≤ 140737488351232) (q : Int) (q1 : -9223372036854775808 ≤ q) (q2 : q ≤ 9223372036854775807) (p : Int) (p1 : 0 ≤ p) (p2 : p ≤ 4294967295) :
    Calls Try.prog 5 #[.slice A n c, .int .i64 q, .int .u32 p] w fun e w' => e = .returned (.bool true) ∧ Below w.heap.size w w' := by
  obtain ⟨bs, hr, ho⟩ := came_u8 h
  obtain ⟨x, rfl⟩ : ∃ x : Nat, p = x := ⟨p.toNat, by omega⟩
  exact bursts_walk A n c bs q x w hr ho (Nat.le_trans h.2.1 hc) q1 q2 (by omega)
end Go.Proofs.Ytlncjcipbijndaa
