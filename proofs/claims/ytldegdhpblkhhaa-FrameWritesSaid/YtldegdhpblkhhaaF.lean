/-
  Contracts: crc's seal, open, Seal24, Seal32, Open24, Open32. What is asked: slices that read as bytes, of at most 3 million.
-/
import Derived.Test.YtldegdhpblkhhaaE
import Derived.Deep.RegionHeld3
import Derived.Deep.DeepCutAuto
namespace Go.Proofs.Ytldegdhpblkhhaa
open Go Go.RowKit

theorem undrew {w w1 : World} (h : Below w.drew.heap.size w.drew w1) : Below w.heap.size w w1 := ⟨h.os, h.tape, h.output, h.size, h.block⟩
theorem tail24_len (bs : List Nat) : (tail24 bs).length = 3 := rfl
theorem tail32_len (bs : List Nat) : (tail32 bs).length = 4 := rfl
theorem retE_none (er : Nat) (w : World) : RetE w.heap.size [] er w (.returned (.tuple #[.slice none 0 0, .int .i64 (er : Int)])) w := ⟨none, 0, 0, rfl, Own.nil _ _ _, Below.refl _ _⟩

set_option maxHeartbeats 1000000 in
theorem seal24_in (A : Option Addr) (n c B : Nat) (bs : List Nat) (w : World) (ha : Row w B A n (bv bs)) (hB : B ≤ w.heap.size) (ho : Oct bs) (hn : n ≤ 1048576) :
    Calls Try.prog 34 #[.slice A n c, .func (.func 35) #[] #[]] w (RetE w.heap.size (bv (bs ++ tail24 bs)) 0 w) := by
  have HA := hid ha
  have HO := hid ho
  clear ha ho
  go_enter Try.func34, Try.ntmps34
  go_wp2_with fail
  refine (tail24_any A n c B bs w HA.out hB HO.out (by omega)).mono ?_
  rintro e w1 ⟨A1, n1, c1, rfl, own1, bel1⟩
  have hn1 : n1 = 3 := by rw [← own1.len, bv_len, tail24_len]
  subst hn1
  have HO1 := hid own1
  have HB1 := hid bel1
  have HA1 : Hid (Row w1 B A n (bv bs)) := hid (HA.out.below (bel1.mono hB))
  clear own1 bel1 HA
  go_wp2_with fail
  have hsz : (w1.alloc (Obj.cells #[Value.slice A n c, Value.slice A1 3 c1] 26)).heap.size = w1.heap.size + 1 := by simp
  have c0 : (w1.alloc (Obj.cells #[Value.slice A n c, Value.slice A1 3 c1] 26)).cell? ⟨w1.heap.size, 0, none⟩ = some (.slice A n c) := by
    rw [cell_of_row _ _ 0 _ 26 (0, 0) (heap_alloc_new w1 _)]; rfl
  have c4 : (w1.alloc (Obj.cells #[Value.slice A n c, Value.slice A1 3 c1] 26)).cell? ⟨w1.heap.size, 1, none⟩ = some (.slice A1 3 c1) := by
    rw [cell_of_row _ _ 1 _ 26 (0, 0) (heap_alloc_new w1 _)]; rfl
  refine (concat_any w1.heap.size n c 3 c1 B w1.heap.size A A1 bs (tail24 bs) _ c0 c4 (by omega) (HA1.out.alloc (Nat.le_trans hB HB1.out.size) _) (HO1.out.row.alloc (Nat.le_refl _) _) (by have := HB1.out.size; omega) (by omega) (by omega) (by omega) (by omega)).mono ?_
  rintro e w2 ⟨A2, n2, c2, rfl, own2, bel2⟩
  have HO2 : Hid (Own w2 w.heap.size 5 A2 n2 c2 (bv (bs ++ tail24 bs))) := hid (own2.base_le (by have := HB1.out.size; omega))
  have HB2 : Hid (Below w.heap.size w w2) := hid ((HB1.out.alloc HB1.out.size _).trans (bel2.mono (by have := HB1.out.size; omega)))
  clear own2 bel2 c0 c4 hsz HO1 HA1 HB1
  go_wp2_with fail
  go_ret2
  exact ⟨A2, n2, c2, rfl, HO2.out, HB2.out⟩
theorem seal24_ok (A : Option Addr) (n c B : Nat) (bs : List Nat) (w : World) (ha : Row w B A n (bv bs)) (hB : B ≤ w.heap.size) (ho : Oct bs) (hn : n ≤ 1048576) :
    Calls Try.prog 13 #[.slice A n c] w (RetE w.heap.size (bv (bs ++ tail24 bs)) 0 w) := by
  have HA := hid ha
  have HO := hid ho
  clear ha ho
  go_enter Try.func13, Try.ntmps13
  go_wp2_with (go_at_call 34; refine (seal24_in A n c B bs w HA.out hB HO.out hn).mono ?_; rintro e w1 ⟨A1, n1, c1, rfl, own1, bel1⟩)
  go_ret2
  exact ⟨A1, n1, c1, rfl, own1, bel1⟩
theorem seal24_long (A : Option Addr) (n c : Nat) (w : World) (hn : 1048576 < n) (hm : n ≤ 4611686018427387904) : Calls Try.prog 13 #[.slice A n c] w (RetE w.heap.size [] 6 w) := by
  have h1 : Calls Try.prog 34 #[.slice A n c, .func (.func 35) #[] #[]] w fun e w' => e = .returned (.tuple #[.slice none 0 0, .int .i64 6]) ∧ w = w' := by
    go_enter Try.func34, Try.ntmps34
    go_wp2
    go_ret2
    exact ⟨rfl, rfl⟩
  have H1 := hid h1
  clear h1
  go_enter Try.func13, Try.ntmps13
  go_wp2_with (go_at_call 34; refine (H1.out).mono ?_; rintro e w1 ⟨rfl, rfl⟩)
  go_ret2
  exact retE_none 6 w

set_option maxHeartbeats 1000000 in
set_option maxHeartbeats 1000000 in
theorem open24_in (A : Option Addr) (n c B : Nat) (bs : List Nat) (r : Bool) (w : World) (ha : Row w B A n (bv bs)) (hB : B ≤ w.heap.size) (ho : Oct bs) (hn1 : 3 ≤ n) (hn2 : n ≤ 1048576 + 3) (hnc : n ≤ c)
    (hr : decide (tail24 (bs.take (n - 3)) = bs.drop (n - 3)) = r) :
    Calls Try.prog 45 #[.slice A n c, .int .i64 3, .func (.func 35) #[] #[]] w (if r then RetE w.heap.size (bv (bs.take (n - 3))) 0 w else RetE w.heap.size [] 5 w) := by
  obtain ⟨k, rfl⟩ : ∃ k, n = k + 3 := ⟨n - 3, by omega⟩
  rw [Nat.add_sub_cancel] at hr ⊢
  obtain ⟨b, o, rfl, hbb, _⟩ := ha.2 (by omega)
  have HT : Hid (Row w B (some ⟨b, o, none⟩) k (bv (bs.take k))) := hid (by have := ha.take (show k ≤ k + 3 by omega); rwa [bv_take] at this)
  have HD : Hid (Row w B (if c = k then some ⟨b, o, none⟩ else some ⟨b, o + k, none⟩) 3 (bv (bs.drop k))) := hid (by
    have := ha.cut (l := k) (r := k + 3) (by omega) (Nat.le_refl _) hnc
    rw [List.take_of_length_le (by rw [ha.1]; exact Nat.le_refl _), bv_drop, show k + 3 - k = 3 by omega] at this
    simpa [plain_add] using this)
  have HO := hid ho
  have HRR := hid hr
  have hsub : (((k + 3 : Nat) : Int) - 3) = (k : Int) := by omega
  have hsub2 : ((k : Int) + 3 - 3) = (k : Int) := by omega
  clear ha ho hr
  go_enter Try.func45, Try.ntmps45
  go_wp2_with fail
  have i1 : (0 : Int) ≤ (k : Int) := Int.natCast_nonneg _
  have i2 : (k : Int) ≤ (c : Int) := by omega
  have i3 : (k : Int) ≤ (k : Int) + 3 := by omega
  have i4 : (k : Int) + 3 ≤ (c : Int) := by omega
  have HTL := hid (tail24_any (some ⟨b, o, none⟩) k c B (bs.take k) w.drew (HT.out.keep (fun _ _ => rfl)) hB (HO.out.take k) (by omega))
  go_region_held3 (fun _ => True) (trivial)
    (first | (go_at_call 35; refine (HTL.out).mono ?_; rintro e w1 ⟨A1, n1, c1, rfl, own1, bel1⟩; dsimp only)
           | (go_at_call 52; refine (equal_any A1 _ n1 c1 _ _ w1.heap.size B _ _ r _ own1.row (HD.out.below ((undrew bel1).mono hB)) (tail24_oct _) (HO.out.drop k) HRR.out).mono ?_; rintro e w2 ⟨rfl, rfl⟩; dsimp only))
  have HB1 := hid (undrew bel1)
  have HT1 : Hid (Row w1 B (some ⟨b, o, none⟩) k (bv (bs.take k))) := hid (HT.out.below (HB1.out.mono hB))
  have hB1 : B ≤ w1.heap.size := Nat.le_trans hB HB1.out.size
  clear own1 bel1 HTL HT HD HRR HO
  cases r with
  | true =>
    go_wp2_with (go_at_call 39; refine (clone_any (some ⟨b, o, none⟩) k c B (bs.take k) w1 HT1.out (by omega) hB1).mono ?_; rintro e w2 ⟨A2, n2, c2, rfl, own2, bel2⟩)
    go_ret2
    show RetE w.heap.size (bv (bs.take k)) 0 w _ _
    exact ⟨A2, n2, c2, rfl, own2.base_le HB1.out.size, HB1.out.trans (bel2.mono HB1.out.size)⟩
  | false =>
    go_wp2
    go_ret2
    show RetE w.heap.size [] 5 w _ _
    exact ⟨none, 0, 0, rfl, Own.nil _ _ _, HB1.out⟩
theorem open24_ok (A : Option Addr) (n c B : Nat) (bs : List Nat) (w : World) (ha : Row w B A n (bv bs)) (hB : B ≤ w.heap.size) (ho : Oct bs) (hn1 : 3 ≤ n) (hn2 : n ≤ 1048576 + 3) (hnc : n ≤ c) (hr : tail24 (bs.take (n - 3)) = bs.drop (n - 3)) :
    Calls Try.prog 30 #[.slice A n c] w (RetE w.heap.size (bv (bs.take (n - 3))) 0 w) := by
  have H1 := hid (open24_in A n c B bs true w ha hB ho hn1 hn2 hnc (decide_eq_true hr))
  clear ha ho hr
  go_enter Try.func30, Try.ntmps30
  go_wp2_with (go_at_call 45; refine (H1.out).mono ?_; rintro e w1 ⟨A1, n1, c1, rfl, own1, bel1⟩)
  go_ret2
  exact ⟨A1, n1, c1, rfl, own1, bel1⟩
theorem open24_bad (A : Option Addr) (n c B : Nat) (bs : List Nat) (w : World) (ha : Row w B A n (bv bs)) (hB : B ≤ w.heap.size) (ho : Oct bs) (hn1 : 3 ≤ n) (hn2 : n ≤ 1048576 + 3) (hnc : n ≤ c) (hr : tail24 (bs.take (n - 3)) ≠ bs.drop (n - 3)) :
    Calls Try.prog 30 #[.slice A n c] w (RetE w.heap.size [] 5 w) := by
  have H1 := hid (open24_in A n c B bs false w ha hB ho hn1 hn2 hnc (decide_eq_false hr))
  clear ha ho hr
  go_enter Try.func30, Try.ntmps30
  go_wp2_with (go_at_call 45; refine (H1.out).mono ?_; rintro e w1 ⟨A1, n1, c1, rfl, own1, bel1⟩)
  go_ret2
  exact ⟨A1, n1, c1, rfl, own1, bel1⟩
theorem open24_short (A : Option Addr) (n c : Nat) (w : World) (hn : n < 3) : Calls Try.prog 30 #[.slice A n c] w (RetE w.heap.size [] 3 w) := by
  have h1 : Calls Try.prog 45 #[.slice A n c, .int .i64 3, .func (.func 35) #[] #[]] w fun e w' => e = .returned (.tuple #[.slice none 0 0, .int .i64 3]) ∧ w = w' := by
    go_enter Try.func45, Try.ntmps45
    go_wp2
    go_ret2
    exact ⟨rfl, rfl⟩
  have H1 := hid h1
  clear h1
  go_enter Try.func30, Try.ntmps30
  go_wp2_with (go_at_call 45; refine (H1.out).mono ?_; rintro e w1 ⟨rfl, rfl⟩)
  go_ret2
  exact retE_none 3 w
theorem open24_long (A : Option Addr) (n c : Nat) (w : World) (hn : 1048576 + 3 < n) (hm : n ≤ 4611686018427387904) : Calls Try.prog 30 #[.slice A n c] w (RetE w.heap.size [] 6 w) := by
  have h1 : Calls Try.prog 45 #[.slice A n c, .int .i64 3, .func (.func 35) #[] #[]] w fun e w' => e = .returned (.tuple #[.slice none 0 0, .int .i64 6]) ∧ w = w' := by
    go_enter Try.func45, Try.ntmps45
    go_wp2
    go_ret2
    exact ⟨rfl, rfl⟩
  have H1 := hid h1
  clear h1
  go_enter Try.func30, Try.ntmps30
  go_wp2_with (go_at_call 45; refine (H1.out).mono ?_; rintro e w1 ⟨rfl, rfl⟩)
  go_ret2
  exact retE_none 6 w

end Go.Proofs.Ytldegdhpblkhhaa
