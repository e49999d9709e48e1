/-
  The walk of WireOrders.
-/
import Derived.Test.YtkbcmnheecihiaaE
namespace Go.Proofs.Ytkbcmnheecihiaa
open Go Go.RowKit

theorem Row.take {w : World} {B n : Nat} {A : Option Addr} {vs : List Value} (h : Row w B A n vs) {k : Nat} (hk : k ≤ n) : Row w B A k (vs.take k) := by
  refine ⟨by rw [List.length_take, h.1]; omega, fun hp => ?_⟩
  obtain ⟨b, o, rfl, hb, hc⟩ := h.2 (by omega)
  refine ⟨b, o, rfl, hb, fun j u hu => hc j u ?_⟩
  rw [List.getElem?_take] at hu
  split at hu
  · exact hu
  · cases hu
theorem bv_take (l : List Nat) (k : Nat) : (bv l).take k = bv (l.take k) := by simp [bv, List.map_take]
theorem bv_drop (l : List Nat) (k : Nat) : (bv l).drop k = bv (l.drop k) := by simp [bv, List.map_drop]

theorem varies1 (x : Nat) : varies [x] = vary x := by simp [varies]

/-- A number that varies, behind nothing: as a call of Vary with a new slice of one. -/
theorem vary_one (x g : Nat) (w : World) (hg : g = w.heap.size) (hx : x < 18446744073709551616) :
    Calls Try.prog 15 #[.slice none 0 0, .slice (some ⟨g, 0, none⟩) 1 1] (w.alloc (.cells #[.int .u64 (x : Int)] 27)) fun e w' => ∃ A n c, e = .returned (.slice A n c) ∧ Own w' w.heap.size 5 A n c (bv (vary x)) ∧ Below w.heap.size w w' := by
  refine (vary_any none _ 0 0 1 1 0 (g + 1) [] [x] _ (Row.nil _ _ _) (Nat.zero_le _) (Row.laid' w 27 [.int .u64 (x : Int)] g hg) (by simp; omega) (by intro y hy; simp at hy; omega) (by omega) (by omega)).mono ?_
  rintro e w3 ⟨A3, n3, c3, rfl, own3, bel3⟩
  rw [List.nil_append, varies1] at own3
  exact ⟨A3, n3, c3, rfl, own3.base_le (by simp), ((Below.refl _ w).alloc (Nat.le_refl _) _).trans (bel3.mono (by simp))⟩

set_option maxRecDepth 100000 in
set_option maxHeartbeats 2000000 in
theorem orders_walk (a b : Nat) (w : World) (ha : a < 18446744073709551616) (hb : b < 18446744073709551616) :
    Calls Try.prog 6 #[.int .u64 (a : Int), .int .u64 (b : Int)] w fun e w' => e = .returned (.bool true) ∧ Below w.heap.size w w' := by
  go_enter Try.func6, Try.ntmps6
  go_wp2_with fail
  refine (live_any w).mono ?_
  rintro e w0 ⟨rfl, bel0⟩
  have HB0 := hid bel0
  clear bel0
  go_wp2_with fail
  refine (vary_one a _ w0 rfl ha).mono ?_
  rintro e w1 ⟨A1, n1, c1, rfl, own1, bel1⟩
  have HO1 := hid own1
  have HB1 := hid bel1
  clear own1 bel1
  go_wp2_with fail
  refine (vary_one b _ w1 rfl hb).mono ?_
  rintro e w2 ⟨A2, n2, c2, rfl, own2, bel2⟩
  have HO2 := hid own2
  have HB2 := hid bel2
  clear own2 bel2
  go_wp2_with fail
  refine (fixed_ok none 0 0 0 8 a [] _ (Row.nil _ _ _) (Nat.zero_le _) (by omega) (by omega) (by omega) (by simpa using ha)).mono ?_
  rintro e w3 ⟨A3, n3, c3, rfl, own3, bel3⟩
  have HO3 := hid own3
  have HB3 := hid bel3
  clear own3 bel3
  go_wp2_with fail
  refine (fixed_ok none 0 0 0 8 b [] _ (Row.nil _ _ _) (Nat.zero_le _) (by omega) (by omega) (by omega) (by simpa using hb)).mono ?_
  rintro e w4 ⟨A4, n4, c4, rfl, own4, bel4⟩
  have HR4 : Hid (Row w4 w4.heap.size A4 n4 (bv (fixb b 8))) := hid own4.row
  have HR3 : Hid (Row w4 w3.heap.size A3 n3 (bv (fixb a 8))) := hid (HO3.out.row.below bel4)
  have bel34 : Below w2.heap.size w2 w4 := HB3.out.trans (bel4.mono HB3.out.size)
  have HR2 : Hid (Row w4 w2.heap.size A2 n2 (bv (vary b))) := hid (HO2.out.row.below bel34)
  have bel24 : Below w1.heap.size w1 w4 := HB2.out.trans (bel34.mono HB2.out.size)
  have HR1 : Hid (Row w4 w1.heap.size A1 n1 (bv (vary a))) := hid (HO1.out.row.below bel24)
  have HBF : Hid (Below w.heap.size w w4) := hid (HB0.out.trans ((HB1.out.trans (bel24.mono HB1.out.size)).mono HB0.out.size))
  have hn3 : n3 = 8 := by have := HR3.out.1; rw [bv_len, fixb_len] at this; omega
  have hn4 : n4 = 8 := by have := HR4.out.1; rw [bv_len, fixb_len] at this; omega
  have hn1 : n1 = gn a + 1 := by have := HR1.out.1; rw [bv_len, vary_len] at this; omega
  have hn2 : n2 = gn b + 1 := by have := HR2.out.1; rw [bv_len, vary_len] at this; omega
  have h21 : n2 ≤ c2 := HO2.out.cap
  clear own4 bel4 bel34 bel24 HO1 HO2 HO3 HB0 HB1 HB2 HB3
  subst hn3 hn4
  have hp1 : 0 < n1 := by omega
  have hp2 : 0 < n2 := by omega
  have hg1 : n1 ≤ 10 := by have := gn_le a ha; omega
  have hg2 : n2 ≤ 10 := by have := gn_le b hb; omega
  have HN1 := hid hn1
  have HN2 := hid hn2
  clear hn1 hn2
  have z1 : ((n1 : Int) == 0) = false := by rw [beq_eq_false_iff_ne]; omega
  have z2 : ((n2 : Int) == 0) = false := by rw [beq_eq_false_iff_ne]; omega
  have hless : Op.bytesLess (str (fixb a 8)).toList (str (fixb b 8)).toList = decide (a < b) := by rw [str_less (fixb_oct _ _) (fixb_oct _ _), less_fix8 a b ha hb]
  have e3 := run_str (P := Try.prog) w4 22 5 Try.underlying22 Try.underlying5 _ A3 8 c3 _ HR3.out 9 Try.underlying9
  have e4 := run_str (P := Try.prog) w4 22 5 Try.underlying22 Try.underlying5 _ A4 8 c4 _ HR4.out 9 Try.underlying9
  generalize str (fixb a 8) = S3 at e3 hless
  generalize str (fixb b 8) = S4 at e4 hless
  clear HR3 HR4
  rcases Nat.lt_trichotomy a b with hab | hab | hab
  · have hle : n1 ≤ n2 := by have := gn_mono ha hb (Nat.le_of_lt hab); have := HN1.out; have := HN2.out; omega
    have hne : ((a : Int) != (b : Int)) = true := by rw [bne_iff_ne]; omega
    have hles : Op.bytesLess S3.toList S4.toList = true := by rw [hless]; simpa using hab
    have hgt : decide (n2 < n1) = false := by simpa using hle
    have HAP : Hid (decide (vary a = (vary b).take n1) = false) := hid (by
      rw [decide_eq_false_iff_not]; intro e
      have h1 : (vary a).length = n1 := by rw [vary_len, HN1.out]
      rw [← h1] at e
      have := vary_apart a b ha hb e; omega)
    clear hless
    by_cases hlt : n1 < n2
    · have heq : ((n1 : Int) == (n2 : Int)) = false := by rw [beq_eq_false_iff_ne]; omega
      go_wp2_with (go_at_call 12; refine (same_any A1 A2 n1 c1 n1 c2 w1.heap.size w2.heap.size _ _ false _ HR1.out (by have := HR2.out.take hle; rw [bv_take] at this; exact this) (vary_oct a) ((vary_oct b).take _) HAP.out).mono ?_; rintro e w5 ⟨rfl, rfl⟩)
      go_ret
      exact ⟨rfl, HBF.out⟩
    · have heq : ((n1 : Int) == (n2 : Int)) = true := by rw [beq_iff_eq]; omega
      have hgeq : ∀ (t : TypeId) (x y : ByteArray), binOp .geq t (.string x) (.string y) = pure (.bool (!Op.bytesLess x.toList y.toList)) := by intro t x y; simp [binOp, Op.stringOp]
      have hl12 : Op.bytesLess (str (vary a)).toList (str (vary b)).toList = true := by
        rw [str_less (vary_oct _) (vary_oct _), less_vary a b ha hb (by rw [vary_len, vary_len]; have := HN1.out; have := HN2.out; omega)]; simpa using hab
      have e1 := run_str (P := Try.prog) w4 22 5 Try.underlying22 Try.underlying5 _ A1 n1 c1 _ HR1.out 9 Try.underlying9
      have e2 := run_str (P := Try.prog) w4 22 5 Try.underlying22 Try.underlying5 _ A2 n2 c2 _ HR2.out 9 Try.underlying9
      generalize str (vary a) = S1 at e1 hl12
      generalize str (vary b) = S2 at e2 hl12
      go_wp2_with (go_at_call 12; refine (same_any A1 A2 n1 c1 n1 c2 w1.heap.size w2.heap.size _ _ false _ HR1.out (by have := HR2.out.take hle; rw [bv_take] at this; exact this) (vary_oct a) ((vary_oct b).take _) HAP.out).mono ?_; rintro e w5 ⟨rfl, rfl⟩)
      go_ret
      exact ⟨rfl, HBF.out⟩
  · have hne : ((a : Int) != (b : Int)) = false := by rw [bne_eq_false_iff_eq]; omega
    have hles : Op.bytesLess S3.toList S4.toList = false := by rw [hless]; simp; omega
    have hnl : decide ((a : Int) < (b : Int)) = false := by simp; omega
    clear hless
    go_wp2_with fail
    go_ret
    exact ⟨rfl, HBF.out⟩
  · have hne : ((a : Int) != (b : Int)) = true := by rw [bne_iff_ne]; omega
    have hles : Op.bytesLess S3.toList S4.toList = false := by rw [hless]; simp; omega
    have hnl : decide ((a : Int) < (b : Int)) = false := by simp; omega
    clear hless
    by_cases hle : n1 ≤ n2
    · have HAP : Hid (decide (vary a = (vary b).take n1) = false) := hid (by
        rw [decide_eq_false_iff_not]; intro e
        have h1 : (vary a).length = n1 := by rw [vary_len, HN1.out]
        rw [← h1] at e
        have := vary_apart a b ha hb e; omega)
      go_wp2_with (go_at_call 12; refine (same_any A1 A2 n1 c1 n1 c2 w1.heap.size w2.heap.size _ _ false _ HR1.out (by have := HR2.out.take hle; rw [bv_take] at this; exact this) (vary_oct a) ((vary_oct b).take _) HAP.out).mono ?_; rintro e w5 ⟨rfl, rfl⟩)
      go_ret
      exact ⟨rfl, HBF.out⟩
    · go_wp2_with fail
      go_ret
      exact ⟨rfl, HBF.out⟩
theorem orders_row (a : Int) (a1 : 0 ≤ a) (a2 : a ≤ 18446744073709551615) (b : Int) (b1 : 0 ≤ b) (b2 : b ≤ 18446744073709551615) (w : World) :
    Calls Try.prog 6 #[.int .u64 a, .int .u64 b] w fun e w' => e = .returned (.bool true) ∧ Below w.heap.size w w' := by
  obtain ⟨x, rfl⟩ : ∃ x : Nat, a = x := ⟨a.toNat, by omega⟩
  obtain ⟨y, rfl⟩ : ∃ y : Nat, b = y := ⟨b.toNat, by omega⟩
  exact orders_walk x y w (by omega) (by omega)

end Go.Proofs.Ytkbcmnheecihiaa
