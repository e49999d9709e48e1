/-
  The walk of CrcSeals.
-/
import Derived.Test.YtlncjcipbijndaaL
import Derived.Test.YtlncjcipbijndaaR
namespace Go.Proofs.Ytlncjcipbijndaa
open Go Go.RowKit

/-- Two functions of a text tell the same: a text, and an error's number. -/
def Alike (f g : Nat) (A : Option Addr) (n c B : Nat) (bs : List Nat) : Prop :=
  ∃ (xs : List Nat) (er : Nat), xs.length ≤ bs.length + 4 ∧ Oct xs ∧ ∀ W : World, Row W B A n (bv bs) → B ≤ W.heap.size →
    Calls Try.prog f #[.slice A n c] W (RetE W.heap.size (bv xs) er W) ∧ Calls Try.prog g #[.slice A n c] W (RetE W.heap.size (bv xs) er W)

theorem seal24_both (A : Option Addr) (n c B : Nat) (bs : List Nat) (ho : Oct bs) (hm : n ≤ 4611686018427387904) : Alike 16 17 A n c B bs := by
  by_cases h : n ≤ 1048576
  · exact ⟨bs ++ tail24 bs, 0, by rw [List.length_append, tail24_len]; omega, ho.app (tail24_oct _), fun W hr hB => ⟨seal24_ok A n c B bs W hr hB ho h, refseal24_ok A n c B bs W hr hB ho h⟩⟩
  · exact ⟨[], 6, Nat.zero_le _, Oct.nil, fun W _ _ => ⟨seal24_long A n c W (by omega) hm, refseal24_long A n c W (by omega) hm⟩⟩
theorem open24_both (A : Option Addr) (n c B : Nat) (bs : List Nat) (ho : Oct bs) (hm : n ≤ 4611686018427387904) (hnc : n ≤ c) : Alike 20 21 A n c B bs := by
  by_cases h1 : n < 3
  · exact ⟨[], 3, Nat.zero_le _, Oct.nil, fun W _ _ => ⟨open24_short A n c W h1, refopen24_short A n c W h1⟩⟩
  · by_cases h2 : 1048576 + 3 < n
    · exact ⟨[], 6, Nat.zero_le _, Oct.nil, fun W _ _ => ⟨open24_long A n c W h2 hm, refopen24_long A n c W h2 hm⟩⟩
    · by_cases h3 : tail24 (bs.take (n - 3)) = bs.drop (n - 3)
      · exact ⟨bs.take (n - 3), 0, by rw [List.length_take]; omega, ho.take _, fun W hr hB => ⟨open24_ok A n c B bs W hr hB ho (by omega) (by omega) hnc h3, refopen24_any A n c B bs true W hr hB ho (by omega) (by omega) hnc (decide_eq_true h3)⟩⟩
      · exact ⟨[], 5, Nat.zero_le _, Oct.nil, fun W hr hB => ⟨open24_bad A n c B bs W hr hB ho (by omega) (by omega) hnc h3, refopen24_any A n c B bs false W hr hB ho (by omega) (by omega) hnc (decide_eq_false h3)⟩⟩

theorem seal32_both (A : Option Addr) (n c B : Nat) (bs : List Nat) (ho : Oct bs) (hm : n ≤ 4611686018427387904) : Alike 18 19 A n c B bs := by
  by_cases h : n ≤ 1048576
  · exact ⟨bs ++ tail32 bs, 0, by rw [List.length_append, tail32_len]; omega, ho.app (tail32_oct _), fun W hr hB => ⟨seal32_ok A n c B bs W hr hB ho h, refseal32_ok A n c B bs W hr hB ho h⟩⟩
  · exact ⟨[], 6, Nat.zero_le _, Oct.nil, fun W _ _ => ⟨seal32_long A n c W (by omega) hm, refseal32_long A n c W (by omega) hm⟩⟩
theorem open32_both (A : Option Addr) (n c B : Nat) (bs : List Nat) (ho : Oct bs) (hm : n ≤ 4611686018427387904) (hnc : n ≤ c) : Alike 22 23 A n c B bs := by
  by_cases h1 : n < 4
  · exact ⟨[], 3, Nat.zero_le _, Oct.nil, fun W _ _ => ⟨open32_short A n c W h1, refopen32_short A n c W h1⟩⟩
  · by_cases h2 : 1048576 + 4 < n
    · exact ⟨[], 6, Nat.zero_le _, Oct.nil, fun W _ _ => ⟨open32_long A n c W h2 hm, refopen32_long A n c W h2 hm⟩⟩
    · by_cases h3 : tail32 (bs.take (n - 4)) = bs.drop (n - 4)
      · exact ⟨bs.take (n - 4), 0, by rw [List.length_take]; omega, ho.take _, fun W hr hB => ⟨open32_ok A n c B bs W hr hB ho (by omega) (by omega) hnc h3, refopen32_any A n c B bs true W hr hB ho (by omega) (by omega) hnc (decide_eq_true h3)⟩⟩
      · exact ⟨[], 5, Nat.zero_le _, Oct.nil, fun W hr hB => ⟨open32_bad A n c B bs W hr hB ho (by omega) (by omega) hnc h3, refopen32_any A n c B bs false W hr hB ho (by omega) (by omega) hnc (decide_eq_false h3)⟩⟩

def PlusRel (base : Nat) (w : World) (A : Option Addr) (n c : Nat) (i : Value) (wr : World) : Prop :=
  ∃ (k : Nat) (vs : List Nat), k ≤ n ∧ i = .int .i64 (k : Int) ∧ Oct vs ∧ Own wr base 5 A n c (bv vs) ∧ Below base w wr

set_option maxRecDepth 100000 in
set_option maxHeartbeats 4000000 in
theorem seals_walk (A : Option Addr) (n c : Nat) (bs : List Nat) (w : World) (ha : Row w w.heap.size A n (bv bs)) (ho : Oct bs) (hm : n ≤ 140737488351232) (hnc : n ≤ c) :
    Calls Try.prog 4 #[.slice A n c] w fun e w' => e = .returned (.bool true) ∧ Below w.heap.size w w' := by
  have HA := hid ha
  have HO := hid ho
  have HL : Hid (bs.length = n) := hid (by rw [← bv_len]; exact ha.1)
  clear ha ho
  go_enter Try.func4, Try.ntmps4
  go_wp2_with fail
  refine (live_any w).mono ?_
  rintro e w0 ⟨rfl, bel0⟩
  have HA0 : Hid (Row w0 w.heap.size A n (bv bs)) := hid (HA.out.below bel0)
  have HB0 := hid bel0
  have hz0 : w.heap.size ≤ w0.heap.size := bel0.size
  clear bel0 HA
  by_cases hbig : 1048586 < n
  · go_wp2
    go_ret
    exact ⟨rfl, HB0.out⟩
  · go_wp2_with (at_builtin; refine wpList_app _ rfl (.const (.slice none 0 0)) (.tmp 18) 22 rfl w0.heap.size 5 (.int .u8 0) 1 Try.underlying22 info5 rfl none 0 0 [] rfl (Own.nil _ _ _) w.heap.size A n c (bv bs) rfl HA0.out (bv_one bs) (by omega) (by omega) (Nat.le_refl _) ?_; intro A1 c1 w1 own1 bel1; rw [Nat.zero_add, List.nil_append] at own1)
    have RW : Hid (Row w1 w1.heap.size A1 n (bv bs)) := hid own1.row
    have RA : Hid (Row w1 w.heap.size A n (bv bs)) := hid (HA0.out.below (bel1.mono hz0))
    have BL : Hid (Below w.heap.size w w1) := hid (HB0.out.trans (bel1.mono hz0))
    have hz1 : w.heap.size ≤ w1.heap.size := BL.out.size
    clear own1 bel1 HA0 HB0 hz0

    obtain ⟨xs0, er0, hxl0, ox0, ht0⟩ := seal24_both A n c w.heap.size bs HO.out (by omega)
    have OX0 := hid ox0
    have HXL0 := hid hxl0
    have HT0 := hid ht0
    clear ox0 ht0 hxl0
    go_wp2_with fail
    refine ((HT0.out w1 RA.out (by omega)).1).mono ?_
    rintro e x2 ⟨P0, m0, d0, rfl, own0, bel0⟩
    have RX0 : Hid (Own x2 w1.heap.size 5 P0 m0 d0 (bv xs0)) := hid own0
    have RW' : Hid (Row x2 w1.heap.size A1 n (bv bs)) := hid (RW.out.below (bel0.mono (by omega)))
    have RA' : Hid (Row x2 w.heap.size A n (bv bs)) := hid (RA.out.below (bel0.mono (by omega)))
    have BL' : Hid (Below w.heap.size w x2) := hid (BL.out.trans (bel0.mono (by omega)))
    have hza0 : w1.heap.size ≤ x2.heap.size := bel0.size
    clear own0 bel0 RW RA BL
    rename Hid (Row x2 w1.heap.size A1 n (bv bs)) => RW
    rename Hid (Row x2 w.heap.size A n (bv bs)) => RA
    rename Hid (Below w.heap.size w x2) => BL
    go_wp2_with fail
    refine ((HT0.out x2 RA.out (by omega)).2).mono ?_
    rintro e x3 ⟨Q0, l0, f0, rfl, own0, bel0⟩
    have RY0 : Hid (Row x3 x3.heap.size Q0 l0 (bv xs0)) := hid own0.row
    have RZ0 : Hid (Own x3 w1.heap.size 5 P0 m0 d0 (bv xs0)) := hid (RX0.out.below bel0)
    have RW' : Hid (Row x3 w1.heap.size A1 n (bv bs)) := hid (RW.out.below (bel0.mono (by omega)))
    have RA' : Hid (Row x3 w.heap.size A n (bv bs)) := hid (RA.out.below (bel0.mono (by omega)))
    have BL' : Hid (Below w.heap.size w x3) := hid (BL.out.trans (bel0.mono (by omega)))
    have hzb0 : x2.heap.size ≤ x3.heap.size := bel0.size
    clear own0 bel0 RW RA BL RX0
    rename Hid (Row x3 w1.heap.size A1 n (bv bs)) => RW
    rename Hid (Row x3 w.heap.size A n (bv bs)) => RA
    rename Hid (Below w.heap.size w x3) => BL
    go_wp2_with fail
    refine (same_any P0 Q0 m0 d0 l0 f0 x3.heap.size x3.heap.size xs0 xs0 true x3 RZ0.out.row RY0.out OX0.out OX0.out (by simp)).mono ?_
    rintro e w' ⟨rfl, rfl⟩
    clear RY0 HT0 RZ0 OX0 HXL0

    obtain ⟨xs1, er1, hxl1, ox1, ht1⟩ := seal32_both A n c w.heap.size bs HO.out (by omega)
    have OX1 := hid ox1
    have HXL1 := hid hxl1
    have HT1 := hid ht1
    clear ox1 ht1 hxl1
    go_wp2_with fail
    refine ((HT1.out x3 RA.out (by omega)).1).mono ?_
    rintro e x4 ⟨P1, m1, d1, rfl, own1, bel1⟩
    have RX1 : Hid (Own x4 x3.heap.size 5 P1 m1 d1 (bv xs1)) := hid own1
    have RW' : Hid (Row x4 w1.heap.size A1 n (bv bs)) := hid (RW.out.below (bel1.mono (by omega)))
    have RA' : Hid (Row x4 w.heap.size A n (bv bs)) := hid (RA.out.below (bel1.mono (by omega)))
    have BL' : Hid (Below w.heap.size w x4) := hid (BL.out.trans (bel1.mono (by omega)))
    have hza1 : x3.heap.size ≤ x4.heap.size := bel1.size
    clear own1 bel1 RW RA BL
    rename Hid (Row x4 w1.heap.size A1 n (bv bs)) => RW
    rename Hid (Row x4 w.heap.size A n (bv bs)) => RA
    rename Hid (Below w.heap.size w x4) => BL
    go_wp2_with fail
    refine ((HT1.out x4 RA.out (by omega)).2).mono ?_
    rintro e x5 ⟨Q1, l1, f1, rfl, own1, bel1⟩
    have RY1 : Hid (Row x5 x5.heap.size Q1 l1 (bv xs1)) := hid own1.row
    have RZ1 : Hid (Own x5 x3.heap.size 5 P1 m1 d1 (bv xs1)) := hid (RX1.out.below bel1)
    have RW' : Hid (Row x5 w1.heap.size A1 n (bv bs)) := hid (RW.out.below (bel1.mono (by omega)))
    have RA' : Hid (Row x5 w.heap.size A n (bv bs)) := hid (RA.out.below (bel1.mono (by omega)))
    have BL' : Hid (Below w.heap.size w x5) := hid (BL.out.trans (bel1.mono (by omega)))
    have hzb1 : x4.heap.size ≤ x5.heap.size := bel1.size
    clear own1 bel1 RW RA BL RX1
    rename Hid (Row x5 w1.heap.size A1 n (bv bs)) => RW
    rename Hid (Row x5 w.heap.size A n (bv bs)) => RA
    rename Hid (Below w.heap.size w x5) => BL
    go_wp2_with fail
    refine (same_any P1 Q1 m1 d1 l1 f1 x5.heap.size x5.heap.size xs1 xs1 true x5 RZ1.out.row RY1.out OX1.out OX1.out (by simp)).mono ?_
    rintro e w' ⟨rfl, rfl⟩
    clear RY1 HT1 RZ1 OX1 HXL1

    obtain ⟨xs2, er2, hxl2, ox2, ht2⟩ := open24_both A n c w.heap.size bs HO.out (by omega) hnc
    have OX2 := hid ox2
    have HXL2 := hid hxl2
    have HT2 := hid ht2
    clear ox2 ht2 hxl2
    go_wp2_with fail
    refine ((HT2.out x5 RA.out (by omega)).1).mono ?_
    rintro e x6 ⟨P2, m2, d2, rfl, own2, bel2⟩
    have RX2 : Hid (Own x6 x5.heap.size 5 P2 m2 d2 (bv xs2)) := hid own2
    have RW' : Hid (Row x6 w1.heap.size A1 n (bv bs)) := hid (RW.out.below (bel2.mono (by omega)))
    have RA' : Hid (Row x6 w.heap.size A n (bv bs)) := hid (RA.out.below (bel2.mono (by omega)))
    have BL' : Hid (Below w.heap.size w x6) := hid (BL.out.trans (bel2.mono (by omega)))
    have hza2 : x5.heap.size ≤ x6.heap.size := bel2.size
    clear own2 bel2 RW RA BL
    rename Hid (Row x6 w1.heap.size A1 n (bv bs)) => RW
    rename Hid (Row x6 w.heap.size A n (bv bs)) => RA
    rename Hid (Below w.heap.size w x6) => BL
    go_wp2_with fail
    refine ((HT2.out x6 RA.out (by omega)).2).mono ?_
    rintro e x7 ⟨Q2, l2, f2, rfl, own2, bel2⟩
    have RY2 : Hid (Row x7 x7.heap.size Q2 l2 (bv xs2)) := hid own2.row
    have RZ2 : Hid (Own x7 x5.heap.size 5 P2 m2 d2 (bv xs2)) := hid (RX2.out.below bel2)
    have RW' : Hid (Row x7 w1.heap.size A1 n (bv bs)) := hid (RW.out.below (bel2.mono (by omega)))
    have RA' : Hid (Row x7 w.heap.size A n (bv bs)) := hid (RA.out.below (bel2.mono (by omega)))
    have BL' : Hid (Below w.heap.size w x7) := hid (BL.out.trans (bel2.mono (by omega)))
    have hzb2 : x6.heap.size ≤ x7.heap.size := bel2.size
    clear own2 bel2 RW RA BL RX2
    rename Hid (Row x7 w1.heap.size A1 n (bv bs)) => RW
    rename Hid (Row x7 w.heap.size A n (bv bs)) => RA
    rename Hid (Below w.heap.size w x7) => BL
    go_wp2_with fail
    refine (same_any P2 Q2 m2 d2 l2 f2 x7.heap.size x7.heap.size xs2 xs2 true x7 RZ2.out.row RY2.out OX2.out OX2.out (by simp)).mono ?_
    rintro e w' ⟨rfl, rfl⟩
    clear RY2 HT2 RZ2 OX2 HXL2

    obtain ⟨xs3, er3, hxl3, ox3, ht3⟩ := open32_both A n c w.heap.size bs HO.out (by omega) hnc
    have OX3 := hid ox3
    have HXL3 := hid hxl3
    have HT3 := hid ht3
    clear ox3 ht3 hxl3
    go_wp2_with fail
    refine ((HT3.out x7 RA.out (by omega)).1).mono ?_
    rintro e x8 ⟨P3, m3, d3, rfl, own3, bel3⟩
    have RX3 : Hid (Own x8 x7.heap.size 5 P3 m3 d3 (bv xs3)) := hid own3
    have RW' : Hid (Row x8 w1.heap.size A1 n (bv bs)) := hid (RW.out.below (bel3.mono (by omega)))
    have RA' : Hid (Row x8 w.heap.size A n (bv bs)) := hid (RA.out.below (bel3.mono (by omega)))
    have BL' : Hid (Below w.heap.size w x8) := hid (BL.out.trans (bel3.mono (by omega)))
    have hza3 : x7.heap.size ≤ x8.heap.size := bel3.size
    clear own3 bel3 RW RA BL
    rename Hid (Row x8 w1.heap.size A1 n (bv bs)) => RW
    rename Hid (Row x8 w.heap.size A n (bv bs)) => RA
    rename Hid (Below w.heap.size w x8) => BL
    go_wp2_with fail
    refine ((HT3.out x8 RA.out (by omega)).2).mono ?_
    rintro e x9 ⟨Q3, l3, f3, rfl, own3, bel3⟩
    have RY3 : Hid (Row x9 x9.heap.size Q3 l3 (bv xs3)) := hid own3.row
    have RZ3 : Hid (Own x9 x7.heap.size 5 P3 m3 d3 (bv xs3)) := hid (RX3.out.below bel3)
    have RW' : Hid (Row x9 w1.heap.size A1 n (bv bs)) := hid (RW.out.below (bel3.mono (by omega)))
    have RA' : Hid (Row x9 w.heap.size A n (bv bs)) := hid (RA.out.below (bel3.mono (by omega)))
    have BL' : Hid (Below w.heap.size w x9) := hid (BL.out.trans (bel3.mono (by omega)))
    have hzb3 : x8.heap.size ≤ x9.heap.size := bel3.size
    clear own3 bel3 RW RA BL RX3
    rename Hid (Row x9 w1.heap.size A1 n (bv bs)) => RW
    rename Hid (Row x9 w.heap.size A n (bv bs)) => RA
    rename Hid (Below w.heap.size w x9) => BL
    go_wp2_with fail
    refine (same_any P3 Q3 m3 d3 l3 f3 x9.heap.size x9.heap.size xs3 xs3 true x9 RZ3.out.row RY3.out OX3.out OX3.out (by simp)).mono ?_
    rintro e w' ⟨rfl, rfl⟩
    clear RY3 HT3

    have hcap : m3 ≤ d3 := RZ3.out.cap
    have hm3 : m3 ≤ 4611686018427387904 := by
      have h1 := RZ3.out.len
      have h2 := HXL3.out
      have h3 := HL.out
      rw [bv_len] at h1
      omega
    go_wp2_with fail
    clear HXL3 hcap
    go_loopw [97] (PlusRel x7.heap.size x9 P3 m3 d3) (fun i _ => m3 - (intOf i).toNat)
    case atStart => exact ⟨0, xs3, Nat.zero_le _, rfl, OX3.out, RZ3.out, Below.refl _ _⟩
    case round =>
      obtain ⟨k, vs, hk, rfl, ov, hown, hbel⟩ := hrel
      have OV := hid ov
      have OW := hid hown
      have BR := hid hbel
      clear ov hown hbel RZ3 OX3
      by_cases hlt : k < m3
      · obtain ⟨g, rfl, hg, hcell, hfz, hst⟩ := OW.out.at_ (by omega)
        have hlv : vs.length = m3 := by rw [← bv_len]; exact OW.out.len
        have hx8 : vs.getD k 0 < 256 := by
          rw [List.getD_eq_getElem?_getD, List.getElem?_eq_getElem (by omega)]; exact OV.out _ (List.getElem_mem (by omega))
        have hcj := hcell k hlt
        rw [bv_at vs k (by omega)] at hcj
        have hfj := hfz k
        generalize vs.getD k 0 = x at *
        have HST : Hid (Own (wr.setCell ⟨g, k, none⟩ (.int .u8 (((x + 1) % 256 : Nat) : Int))) x7.heap.size 5 (some ⟨g, 0, none⟩) m3 d3 (bv (vs.set k ((x + 1) % 256)))) := hid (by rw [← bv_set]; exact hst k _)
        have HOS : Hid (Oct (vs.set k ((x + 1) % 256))) := hid (by
          intro y hy
          rcases List.mem_or_eq_of_mem_set hy with hy | rfl
          · exact OV.out y hy
          · omega)
        have HBW : Hid (Below x7.heap.size x9 (wr.setCell ⟨g, k, none⟩ (.int .u8 (((x + 1) % 256 : Nat) : Int)))) := hid (BR.out.setCell (p := ⟨g, k, none⟩) hg _)
        have hcast : (((x + 1) % 256 : Nat) : Int) = ((x : Int) + 1) % 256 := by omega
        rw [hcast] at HST HBW
        clear hcell hfz hst hlv OV OW BR hcast
        go_wp2_with fail
        go_roundw
        case rel => exact ⟨k + 1, _, by omega, by go_num, HOS.out, HST.out, HBW.out⟩
        case measure => simp [intOf]; omega
      · have RW2 : Hid (Row wr w1.heap.size A1 n (bv bs)) := hid (RW.out.below (BR.out.mono (by omega)))
        have RA2 : Hid (Row wr w.heap.size A n (bv bs)) := hid (RA.out.below (BR.out.mono (by omega)))
        have BL2 : Hid (Below w.heap.size w wr) := hid (BL.out.trans (BR.out.mono (by omega)))
        clear OV OW BR RW RA BL
        go_wp2_with fail
        refine (same_any A A1 n c n c1 w.heap.size w1.heap.size bs bs true wr RA2.out RW2.out HO.out HO.out (by simp)).mono ?_
        rintro e w' ⟨rfl, rfl⟩
        go_wp2_with fail
        go_ret
        exact ⟨rfl, BL2.out⟩
theorem seals_row {w : World} (A : Option Addr) (n c : Nat) (zs : List Int) (h : Came .u8 w A n c zs) (hc : c ≤ 140737488351232) :
    Calls Try.prog 4 #[.slice A n c] w fun e w' => e = .returned (.bool true) ∧ Below w.heap.size w w' := by
  obtain ⟨bs, hr, ho⟩ := came_u8 h
  exact seals_walk A n c bs w hr ho (Nat.le_trans h.2.1 hc) h.2.1
end Go.Proofs.Ytlncjcipbijndaa
