/-
  The walk of MediumArrives, whatever came in.
-/
import Derived.Test.YtjmkhhmibkiijaaAR
import Derived.Test.YtjmkhhmibkiijaaG
import Derived.Test.YtjmkhhmibkiijaaR
namespace Go.Proofs.Ytjmkhhmibkiijaa
open Go Go.RowKit

set_option maxRecDepth 100000 in
set_option maxHeartbeats 4000000 in
theorem arrives_row {w : World} (x : Ar) (_hx : Row w w.heap.size x.A x.n (bv x.b)) (_ho : AirOk x) (to : Int) (_t1 : -9223372036854775808 ≤ to) (_t2 : to ≤ 9223372036854775807) (n : Int) (_n1 : -9223372036854775808 ≤ n) (_n2 : n ≤ 9223372036854775807)
    (A : Option Addr) (m c : Nat) (rs : List Ro) (ha : Mx w w.heap.size A m rs) (hm : m ≤ 9223372036854775807) :
    Calls Try.prog 3 #[itv x, .int .i64 to, .int .i64 n, .slice A m c] w fun e w' => e = .returned (.bool true) ∧ Below w.heap.size w w' := by
  have HA := hid ha
  have HM := hid hm
  clear ha hm _hx _ho _t1 _t2 _n1 _n2
  have HF : Hid (∀ w', Below w.heap.size w w' → Calls Try.prog 9 #[.slice A m c] w' fun e w'' => e = .returned (.bool (dfew rs)) ∧ w' = w'') := hid fun w' h => dfew_any A m c w.heap.size rs w' (HA.out.below h) HM.out
  generalize dfew rs = F at *
  cases F with
  | false =>
    go_enter Try.func3, Try.ntmps3
    go_wp2_with (first
      | (go_at_call 9; refine (HF.out w2 B2.out).mono ?_; rintro e w3 ⟨rfl, rfl⟩)
      | (go_at_call 8; refine (live_any w1).mono ?_; rintro e w2 ⟨rfl, b2⟩; have B2 : Hid (Below w.heap.size w w2) := hid (b1.trans (b2.mono b1.size)))
      | (refine wpList_boxa (x := x) rfl (.tmp 0) rfl rfl ?_; intro w1 v1 b1 s1))
    go_ret
    exact ⟨rfl, B2.out⟩
  | true =>
    by_cases hn : 200 < x.n
    · have d : decide ((200 : Int) < (x.n : Int)) = true := decide_eq_true (by omega)
      clear hn
      go_enter Try.func3, Try.ntmps3
      go_wp2_with (first
        | (go_at_call 9; refine (HF.out w2 B2.out).mono ?_; rintro e w3 ⟨rfl, rfl⟩; have q5 := v2.c5)
        | (go_at_call 8; refine (live_any w1).mono ?_; rintro e w2 ⟨rfl, b2⟩; have B2 : Hid (Below w.heap.size w w2) := hid (b1.trans (b2.mono b1.size)); have v2 := v1.below b2 v1.lt)
        | (refine wpList_boxa (x := x) rfl (.tmp 0) rfl rfl ?_; intro w1 v1 b1 s1))
      go_ret
      exact ⟨rfl, B2.out⟩
    · have d : decide ((200 : Int) < (x.n : Int)) = false := decide_eq_false (by omega)
      clear hn
      have H10 : Hid (∀ w', Below w.heap.size w w' → Calls Try.prog 10 #[itv x, .int .i64 to, .slice A m c] w' (RetT w' (arr x to rs))) := hid fun w' h => arrive_any x to A m c w.heap.size rs w' (HA.out.below h) h.size HM.out
      have H11 : Hid (∀ w', Below w.heap.size w w' → Calls Try.prog 11 #[itv x, .int .i64 to, .slice A m c] w' (RetT w' (arr x to rs))) := hid fun w' h => rarrive_any x to A m c w.heap.size rs w' (HA.out.below h) h.size HM.out
      have H12 : Hid (∀ w', Below w.heap.size w w' → Calls Try.prog 12 #[.int .i64 n, .slice A m c] w' fun e w'' => e = .returned (.int .i64 (delE n rs)) ∧ Below w'.heap.size w' w'') := hid fun w' h => delays_any A m c w.heap.size n rs w' (HA.out.below h) h.size HM.out
      have H13 : Hid (∀ w', Below w.heap.size w w' → Calls Try.prog 13 #[.int .i64 n, .slice A m c] w' fun e w'' => e = .returned (.int .i64 (delE n rs)) ∧ Below w'.heap.size w' w'') := hid fun w' h => rdelays_any A m c w.heap.size n rs w' (HA.out.below h) h.size HM.out
      generalize arr x to rs = T at *
      obtain ⟨p1, p2, p3⟩ := T
      generalize delE n rs = D at *
      have e1 : (p1 == p1) = true := by simp
      have e2 : (p2 == p2) = true := by simp
      have e3 : (p3 == p3) = true := by simp
      have e4 : (D == D) = true := by simp
      clear HA HM
      go_enter Try.func3, Try.ntmps3
      go_wp2_with (first
        | (go_at_call 13; refine (H13.out w5 B5.out).mono ?_; rintro e w6 ⟨rfl, b6⟩; have B6 : Hid (Below w.heap.size w w6) := hid (B5.out.trans (b6.mono B5.out.size)))
        | (go_at_call 12; refine (H12.out w4 B4.out).mono ?_; rintro e w5 ⟨rfl, b5⟩; have B5 : Hid (Below w.heap.size w w5) := hid (B4.out.trans (b5.mono B4.out.size)))
        | (go_at_call 11; refine (H11.out w3 B3.out).mono ?_; rintro e w4 ⟨rfl, b4⟩; have B4 : Hid (Below w.heap.size w w4) := hid (B3.out.trans (b4.mono B3.out.size)))
        | (refine wpList_lda (x := x) rfl (.tmp 4) rfl rfl v3 ?_)
        | (go_at_call 10; refine (H10.out w2 B2.out).mono ?_; rintro e w3 ⟨rfl, b3⟩; have B3 : Hid (Below w.heap.size w w3) := hid (B2.out.trans (b3.mono B2.out.size)); have v3 := v2.below b3 v2.lt)
        | (refine wpList_lda (x := x) rfl (.tmp 4) rfl rfl v2 ?_)
        | (go_at_call 9; refine (HF.out w2 B2.out).mono ?_; rintro e w3 ⟨rfl, rfl⟩; have q5 := v2.c5)
        | (go_at_call 8; refine (live_any w1).mono ?_; rintro e w2 ⟨rfl, b2⟩; have B2 : Hid (Below w.heap.size w w2) := hid (b1.trans (b2.mono b1.size)); have v2 := v1.below b2 v1.lt)
        | (refine wpList_boxa (x := x) rfl (.tmp 0) rfl rfl ?_; intro w1 v1 b1 s1))
      go_ret
      exact ⟨rfl, B6.out⟩
end Go.Proofs.Ytjmkhhmibkiijaa
