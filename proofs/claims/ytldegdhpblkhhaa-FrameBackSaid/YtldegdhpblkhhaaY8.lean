/-
  frame.Read: what it answers, at every text of at most 3,000 bytes.
-/
import Derived.Test.YtldegdhpblkhhaaX8
import Derived.Test.YtldegdhpblkhhaaN
namespace Go.Proofs.Ytldegdhpblkhhaa
open Go Go.RowKit
set_option maxRecDepth 100000 in
theorem read_none (A : Option Addr) (n c er : Nat) (w : World) (he : ((er : Int) != 0) = true) (HO : ∀ w' : World, Below w.heap.size w w' → Calls Try.prog 30 #[.slice A n c] w' (RetE w'.heap.size [] er w')) :
    Calls Try.prog 11 #[.slice A n c] w fun e w' => e = .returned (.tuple #[fv fz, .int .i64 (er : Int)]) ∧ Below w.heap.size w w' := by
  have H := hid HO
  clear HO
  go_enter Try.func11, Try.ntmps11
  go_wp2_with (first
    | (refine wpList_svf (x := fz) rfl (.tmp 2) (.tmp 15) rfl rfl rfl v2 ?_; intro w3 v3 b3 o3 _; have B3 : Hid (Below w.heap.size w w3) := hid (B2.out.trans b3))
    | (go_at_call 30; (with_reducible refine (H.out w1 b1).mono ?_); rintro e w2 ⟨A2, n2, c2, rfl, own2, b2⟩; have v2 := v1.keep b2; have B2 : Hid (Below w.heap.size w w2) := hid (b1.trans (b2.mono b1.size)); clear v1 b2)
    | (refine wpList_alf rfl rfl ?_; intro w1 v1 b1 s1))
  exact bodyPost_ret (results_f1 Try.results11 _ rfl v3) rfl ⟨rfl, B3.out⟩
set_option maxRecDepth 100000 in
set_option maxHeartbeats 1000000 in
theorem read_some (A : Option Addr) (n c : Nat) (l : List Nat) (x : Fr) (is : Bool) (w : World) (HO : ∀ w' : World, Below w.heap.size w w' → Calls Try.prog 30 #[.slice A n c] w' (RetE w'.heap.size (bv l) 0 w')) (ho : Oct l) (hl : l.length ≤ 1048576) (hf : (frOf (flds l).1, (flds l).2) = (x, is)) :
    Calls Try.prog 11 #[.slice A n c] w fun e w' => e = .returned (if is = true ∧ OkF x then .tuple #[fv x, .int .i64 0] else .tuple #[fv fz, .int .i64 4]) ∧ Below w.heap.size w w' := by
  have H := hid HO
  have HF : Hid (∀ (A : Option Addr) (n c : Nat) (w : World), Row w w.heap.size A n (bv l) → n ≤ c → Calls Try.prog 31 #[.slice A n c] w fun e w' => e = .returned (.tuple #[fv x, .bool is]) ∧ Below w.heap.size w w') := hid (fun A n c w hr hnc => by
    have := fields_any A n c w.heap.size l w hr (Nat.le_refl _) ho hnc (by have := hr.1; rw [bv_len] at this; omega)
    rw [(Prod.mk.inj hf).1, (Prod.mk.inj hf).2] at this
    exact this)
  have HC := hid (fun w => check_any x w)
  clear HO ho hl hf
  cases is with
  | false =>
    rw [if_neg (fun e => by cases e.1)]
    go_enter Try.func11, Try.ntmps11
    go_wp2_with (first
      | (refine wpList_svf (x := fz) rfl (.tmp 2) (.tmp 29) rfl rfl rfl v5 ?_; intro w6 v6 b6 o6 _; have B6 : Hid (Below w.heap.size w w6) := hid (B5.out.trans b6))
      | (refine wpList_svf (x := x) rfl (.tmp 6) (.tmp 20) rfl rfl rfl u4 ?_; intro w5 u5 b5 o5 _; have v5 := v4.other o5 (by have := v3.lt; omega); have B5 : Hid (Below w.heap.size w w5) := hid (B4.out.trans (b5.mono B3.out.size)))
      | (refine wpList_alf rfl rfl ?_; intro w4 u4 b4 s4; have v4 := v3.keep b4; have B4 : Hid (Below w.heap.size w w4) := hid (B3.out.trans (b4.mono B3.out.size)))
      | (go_at_call 31; (with_reducible refine (HF.out A2 n2 c2 w2 own2.row own2.cap).mono ?_); rintro e w3 ⟨rfl, b3⟩; have v3 := v2.keep b3; have B3 : Hid (Below w.heap.size w w3) := hid (B2.out.trans (b3.mono B2.out.size)); clear v2 b3)
      | (go_at_call 30; (with_reducible refine (H.out w1 b1).mono ?_); rintro e w2 ⟨A2, n2, c2, rfl, own2, b2⟩; have v2 := v1.keep b2; have B2 : Hid (Below w.heap.size w w2) := hid (b1.trans (b2.mono b1.size)); clear v1 b2)
      | (refine wpList_alf rfl rfl ?_; intro w1 v1 b1 s1))
    exact bodyPost_ret (results_f1 Try.results11 _ rfl v6) rfl ⟨rfl, B6.out⟩
  | true =>
    by_cases hok : OkF x
    · rw [okE_ok hok] at HC
      rw [if_pos ⟨rfl, hok⟩]
      clear hok
      go_enter Try.func11, Try.ntmps11
      go_wp2_with (first
        | (refine wpList_svf (x := x) rfl (.tmp 2) (.tmp 30) rfl rfl rfl v6 ?_; intro w7 v7 b7 o7 _; have B7 : Hid (Below w.heap.size w w7) := hid (B6.out.trans b7))
        | (refine wpList_ldf rfl (.tmp 6) rfl rfl u6 ?_)
        | (go_at_call 15; (with_reducible refine (HC.out w5).mono ?_); rintro e w6 ⟨rfl, b6⟩; have v6 := v5.keep b6; have u6 := u5.keep b6; have B6 : Hid (Below w.heap.size w w6) := hid (B5.out.trans (b6.mono B5.out.size)))
        | (refine wpList_ldf rfl (.tmp 6) rfl rfl u5 ?_)
        | (refine wpList_svf (x := x) rfl (.tmp 6) (.tmp 20) rfl rfl rfl u4 ?_; intro w5 u5 b5 o5 _; have v5 := v4.other o5 (by have := v3.lt; omega); have B5 : Hid (Below w.heap.size w w5) := hid (B4.out.trans (b5.mono B3.out.size)))
        | (refine wpList_alf rfl rfl ?_; intro w4 u4 b4 s4; have v4 := v3.keep b4; have B4 : Hid (Below w.heap.size w w4) := hid (B3.out.trans (b4.mono B3.out.size)))
        | (go_at_call 31; (with_reducible refine (HF.out A2 n2 c2 w2 own2.row own2.cap).mono ?_); rintro e w3 ⟨rfl, b3⟩; have v3 := v2.keep b3; have B3 : Hid (Below w.heap.size w w3) := hid (B2.out.trans (b3.mono B2.out.size)); clear v2 b3)
        | (go_at_call 30; (with_reducible refine (H.out w1 b1).mono ?_); rintro e w2 ⟨A2, n2, c2, rfl, own2, b2⟩; have v2 := v1.keep b2; have B2 : Hid (Below w.heap.size w w2) := hid (b1.trans (b2.mono b1.size)); clear v1 b2)
        | (refine wpList_alf rfl rfl ?_; intro w1 v1 b1 s1))
      exact bodyPost_ret (results_f1 Try.results11 _ rfl v7) rfl ⟨rfl, B7.out⟩
    · rw [okE_bad hok] at HC
      rw [if_neg (fun e => hok e.2)]
      clear hok
      go_enter Try.func11, Try.ntmps11
      go_wp2_with (first
        | (refine wpList_svf (x := fz) rfl (.tmp 2) (.tmp 29) rfl rfl rfl v6 ?_; intro w7 v7 b7 o7 _; have B7 : Hid (Below w.heap.size w w7) := hid (B6.out.trans b7))
        | (go_at_call 15; (with_reducible refine (HC.out w5).mono ?_); rintro e w6 ⟨rfl, b6⟩; have v6 := v5.keep b6; have B6 : Hid (Below w.heap.size w w6) := hid (B5.out.trans (b6.mono B5.out.size)))
        | (refine wpList_ldf rfl (.tmp 6) rfl rfl u5 ?_)
        | (refine wpList_svf (x := x) rfl (.tmp 6) (.tmp 20) rfl rfl rfl u4 ?_; intro w5 u5 b5 o5 _; have v5 := v4.other o5 (by have := v3.lt; omega); have B5 : Hid (Below w.heap.size w w5) := hid (B4.out.trans (b5.mono B3.out.size)))
        | (refine wpList_alf rfl rfl ?_; intro w4 u4 b4 s4; have v4 := v3.keep b4; have B4 : Hid (Below w.heap.size w w4) := hid (B3.out.trans (b4.mono B3.out.size)))
        | (go_at_call 31; (with_reducible refine (HF.out A2 n2 c2 w2 own2.row own2.cap).mono ?_); rintro e w3 ⟨rfl, b3⟩; have v3 := v2.keep b3; have B3 : Hid (Below w.heap.size w w3) := hid (B2.out.trans (b3.mono B2.out.size)); clear v2 b3)
        | (go_at_call 30; (with_reducible refine (H.out w1 b1).mono ?_); rintro e w2 ⟨A2, n2, c2, rfl, own2, b2⟩; have v2 := v1.keep b2; have B2 : Hid (Below w.heap.size w w2) := hid (b1.trans (b2.mono b1.size)); clear v1 b2)
        | (refine wpList_alf rfl rfl ?_; intro w1 v1 b1 s1))
      exact bodyPost_ret (results_f1 Try.results11 _ rfl v7) rfl ⟨rfl, B7.out⟩
theorem read_any (A : Option Addr) (n c B : Nat) (bs : List Nat) (w : World) (ha : Row w B A n (bv bs)) (hB : B ≤ w.heap.size) (ho : Oct bs) (hnc : n ≤ c) (hn : n ≤ 1048579) :
    Calls Try.prog 11 #[.slice A n c] w fun e w' => e = .returned (.tuple #[fv (rd bs).1, .int .i64 ((rd bs).2 : Nat)]) ∧ Below w.heap.size w w' := by
  have hl : bs.length = n := by rw [← bv_len]; exact ha.1
  unfold rd
  rw [hl]
  by_cases h3 : n < 3
  · rw [if_pos h3]
    exact read_none A n c 3 w rfl (fun w' _ => open24_short A n c w' h3)
  · rw [if_neg h3, if_neg (by omega)]
    by_cases ht : tail24 (bs.take (n - 3)) = bs.drop (n - 3)
    · rw [if_pos ht]
      refine (read_some A n c (bs.take (n - 3)) _ _ w (fun w' hb => open24_ok A n c B bs w' (ha.below (hb.mono hB)) (Nat.le_trans hB hb.size) ho (by omega) (by omega) hnc ht) (ho.take _) (by rw [List.length_take]; omega) rfl).mono ?_
      rintro e w' ⟨rfl, b⟩
      refine ⟨?_, b⟩
      split <;> rfl
    · rw [if_neg ht]
      exact read_none A n c 5 w rfl (fun w' hb => open24_bad A n c B bs w' (ha.below (hb.mono hB)) (Nat.le_trans hB hb.size) ho (by omega) (by omega) hnc ht)
end Go.Proofs.Ytldegdhpblkhhaa
