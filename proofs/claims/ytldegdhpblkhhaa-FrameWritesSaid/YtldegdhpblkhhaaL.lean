/-
  Contracts: the document's own Seal24, Seal32, Open24, Open32. What is asked: slices that read as bytes, of at most 3 million.
-/
import Derived.Test.YtldegdhpblkhhaaF
namespace Go.Proofs.Ytldegdhpblkhhaa
open Go Go.RowKit

theorem bv_one3 {a b c : Int} : ∀ u ∈ ([.int .u8 a, .int .u8 b, .int .u8 c] : List Value), u.oneCell' = true := by
  intro u hu; simp at hu; rcases hu with rfl | rfl | rfl <;> rfl
theorem bv_one4 {a b c d : Int} : ∀ u ∈ ([.int .u8 a, .int .u8 b, .int .u8 c, .int .u8 d] : List Value), u.oneCell' = true := by
  intro u hu; simp at hu; rcases hu with rfl | rfl | rfl | rfl <;> rfl

set_option maxHeartbeats 1000000 in
theorem refseal24_ok (A : Option Addr) (n c B : Nat) (bs : List Nat) (w : World) (ha : Row w B A n (bv bs)) (_hB : B ≤ w.heap.size) (ho : Oct bs) (hn : n ≤ 1048576) :
    Calls Try.prog 29 #[.slice A n c] w (RetE w.heap.size (bv (bs ++ tail24 bs)) 0 w) := by
  have HA := hid ha
  have HT := hid (bv_tail24 ho)
  have HO := hid ho
  have hs := sum24_lt ho
  clear ha ho
  go_enter Try.func29, Try.ntmps29
  go_wp2_with fail
  refine (refsum24_any A n c B bs w HA.out HO.out (by omega)).mono ?_
  rintro e w' ⟨rfl, rfl⟩
  go_wp2_with (first
    | (at_builtin; refine wpList_app _ rfl (.const (.slice none 0 0)) (.tmp 10) 26 rfl w.heap.size 5 (.int .u8 0) 1 Try.underlying26 info5 rfl none 0 0 [] rfl (Own.nil _ _ _) B A n c (bv bs) rfl HA.out (bv_one bs) (by omega) (by omega) (Nat.le_refl _) ?_; intro A1 c1 w1 own1 bel1; rw [Nat.zero_add, List.nil_append] at own1)
    | (at_builtin; refine wpList_app _ rfl (.tmp 11) (.tmp 20) 26 rfl w.heap.size 5 (.int .u8 0) 1 Try.underlying26 info5 rfl A1 n c1 (bv bs) rfl (own1.alloc _) (w1.heap.size + 1) _ 3 3 [.int .u8 ((sum24 bs : Int) / 65536), .int .u8 ((sum24 bs : Int) / 256 % 256), .int .u8 ((sum24 bs : Int) % 256)] rfl (Row.laid w1 5 [.int .u8 ((sum24 bs : Int) / 65536), .int .u8 ((sum24 bs : Int) / 256 % 256), .int .u8 ((sum24 bs : Int) % 256)]) bv_one3 (by omega) (by omega) (by have := bel1.size; simp; omega) ?_; intro A2 c2 w2 own2 bel2))
  go_ret2
  exact ⟨A2, n + 3, c2, rfl, by rw [bv_app, HT.out]; exact own2, (bel1.alloc bel1.size _).trans bel2⟩
theorem refseal24_long (A : Option Addr) (n c : Nat) (w : World) (hn : 1048576 < n) (hm : n ≤ 4611686018427387904) : Calls Try.prog 29 #[.slice A n c] w (RetE w.heap.size [] 6 w) := by
  go_enter Try.func29, Try.ntmps29
  go_wp2
  go_ret2
  exact retE_none 6 w

set_option maxHeartbeats 1000000 in
set_option maxRecDepth 100000 in
set_option maxHeartbeats 1000000 in
theorem refopen24_any (A : Option Addr) (n c B : Nat) (bs : List Nat) (r : Bool) (w : World) (ha : Row w B A n (bv bs)) (hB : B ≤ w.heap.size) (ho : Oct bs) (hn1 : 3 ≤ n) (hn2 : n ≤ 1048576 + 3) (hnc : n ≤ c)
    (hr : decide (tail24 (bs.take (n - 3)) = bs.drop (n - 3)) = r) :
    Calls Try.prog 32 #[.slice A n c] w (if r then RetE w.heap.size (bv (bs.take (n - 3))) 0 w else RetE w.heap.size [] 5 w) := by
  obtain ⟨k, hk⟩ : ∃ k, k = n - 3 := ⟨_, rfl⟩
  rw [← hk] at hr ⊢
  obtain ⟨b, o, rfl, hbb, _⟩ := ha.2 (by omega)
  have HA := hid ha
  have HT : Hid (Row w B (some ⟨b, o, none⟩) k (bv (bs.take k))) := hid (by have := ha.take (show k ≤ n by omega); rwa [bv_take] at this)
  have HO := hid ho
  have HRR : Hid (decide (bs.take k ++ tail24 (bs.take k) = bs) = r) := hid (by
    rw [← hr, decide_eq_decide]
    constructor
    · intro e
      have e2 : bs.take k ++ tail24 (bs.take k) = bs.take k ++ bs.drop k := by rw [List.take_append_drop]; exact e
      exact List.append_cancel_left e2
    · intro e; rw [e, List.take_append_drop])
  have hsub : (n : Int) - 3 = (k : Int) := by omega
  have hkb : k ≤ 1048576 := by omega
  have t1 : decide ((n : Int) < 3) = false := by rw [decide_eq_false_iff_not]; omega
  have t2 : decide (1048579 < (n : Int)) = false := by rw [decide_eq_false_iff_not]; omega
  have i1 : (0 : Int) ≤ (k : Int) := Int.natCast_nonneg _
  have i2 : (k : Int) ≤ (c : Int) := by omega
  have hnb : n ≤ 1048580 := by omega
  clear hk hn1 hn2
  clear ha ho hr
  go_enter Try.func32, Try.ntmps32
  go_wp2_with (at_builtin; refine wpList_app _ rfl (.const (.slice none 0 0)) (.tmp 17) 26 rfl w.heap.size 5 (.int .u8 0) 1 Try.underlying26 info5 rfl none 0 0 [] rfl (Own.nil _ _ _) B (some ⟨b, o, none⟩) k c (bv (bs.take k)) rfl HT.out (bv_one _) (by omega) (by omega) (Nat.le_refl _) ?_; intro A1 c1 w1 own1 bel1; rw [Nat.zero_add, List.nil_append] at own1)
  have HO1 := hid own1
  have HB1 := hid bel1
  clear own1 bel1 HT
  go_wp2_with fail
  refine (refseal24_ok A1 k c1 w1.heap.size (bs.take k) w1 HO1.out.row (Nat.le_refl _) (HO.out.take k) (by omega)).mono ?_
  rintro e w2 ⟨A2, n2, c2, rfl, own2, bel2⟩
  have h1 := run_str (P := Try.prog) w2 26 5 Try.underlying26 Try.underlying5 w2.heap.size A2 n2 c2 _ own2.row 9 Try.underlying9
  have h2 := run_str (P := Try.prog) w2 26 5 Try.underlying26 Try.underlying5 B (some ⟨b, o, none⟩) n c _ ((HA.out.below (HB1.out.mono hB)).below (bel2.mono (Nat.le_trans hB HB1.out.size))) 9 Try.underlying9
  have HE : Hid (((str (bs.take k ++ tail24 (bs.take k))).toList == (str bs).toList) = r) := hid (by rw [str_eq ((HO.out.take k).app (tail24_oct _)) HO.out]; exact HRR.out)
  have HO2 : Hid (Own w2 w.heap.size 5 A1 k c1 (bv (bs.take k))) := hid (HO1.out.below bel2)
  have HB2 : Hid (Below w.heap.size w w2) := hid (HB1.out.trans (bel2.mono HB1.out.size))
  have he := HE.out
  clear own2 bel2 HO1 HB1 HRR HE HA
  generalize str (bs.take k ++ tail24 (bs.take k)) = S1 at *
  generalize str bs = S2 at *
  cases r with
  | true =>
    go_wp2_with fail
    go_ret2
    show RetE w.heap.size (bv (bs.take k)) 0 w _ _
    exact ⟨A1, k, c1, rfl, HO2.out, HB2.out⟩
  | false =>
    go_wp2_with fail
    go_ret2
    show RetE w.heap.size [] 5 w _ _
    exact ⟨none, 0, 0, rfl, Own.nil _ _ _, HB2.out⟩
theorem refopen24_short (A : Option Addr) (n c : Nat) (w : World) (hn : n < 3) : Calls Try.prog 32 #[.slice A n c] w (RetE w.heap.size [] 3 w) := by
  go_enter Try.func32, Try.ntmps32
  go_wp2
  go_ret2
  exact retE_none 3 w
theorem refopen24_long (A : Option Addr) (n c : Nat) (w : World) (hn : 1048576 + 3 < n) (hm : n ≤ 4611686018427387904) : Calls Try.prog 32 #[.slice A n c] w (RetE w.heap.size [] 6 w) := by
  go_enter Try.func32, Try.ntmps32
  go_wp2
  go_ret2
  exact retE_none 6 w

end Go.Proofs.Ytldegdhpblkhhaa
