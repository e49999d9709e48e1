/-
  medium.Same at things that are the same but for where their bytes lie: yes. What is asked: bytes are bytes.
-/
import Derived.Test.YtjmkhhmibkiijaaF
namespace Go.Proofs.Ytjmkhhmibkiijaa
open Go Go.RowKit

theorem equal_any (A A2 : Option Addr) (n c m c2 B B2 : Nat) (a b : List Nat) (r : Bool) (w : World) (ha : Row w B A n (bv a)) (hb : Row w B2 A2 m (bv b)) (oa : Oct a) (ob : Oct b) (hr : decide (a = b) = r) :
    Calls Try.prog 36 #[.slice A n c, .slice A2 m c2] w fun e w' => e = .returned (.bool r) ∧ w = w' := by
  have h1 := run_str (P := Try.prog) w 23 5 Try.underlying23 Try.underlying5 B A n c a ha 9 Try.underlying9
  have h2 := run_str (P := Try.prog) w 23 5 Try.underlying23 Try.underlying5 B2 A2 m c2 b hb 9 Try.underlying9
  have HE := hid (str_eq oa ob)
  have HR := hid hr
  clear hr ha hb
  go_enter Try.func36, Try.ntmps36
  go_wp2
  go_ret
  exact ⟨ret_bool (by rw [← HR.out, ← HE.out]), rfl⟩
set_option maxRecDepth 100000 in
set_option maxHeartbeats 2000000 in
theorem same1_any (x : Ar) (A2 : Option Addr) (c2 B B2 : Nat) (w : World) (hx : Row w B x.A x.n (bv x.b)) (hy : Row w B2 A2 x.n (bv x.b)) (hB : B ≤ w.heap.size) (hB2 : B2 ≤ w.heap.size) (ho : Oct x.b) :
    Calls Try.prog 35 #[itv x, itv { x with A := A2, c := c2 }] w fun e w' => e = .returned (.bool true) ∧ Below w.heap.size w w' := by
  have HX := hid hx
  have HY := hid hy
  have HO := hid ho
  clear hx hy ho
  have HE : Hid (∀ w', Below w.heap.size w w' → Calls Try.prog 36 #[.slice x.A x.n x.c, .slice A2 x.n c2] w' fun e w'' => e = .returned (.bool true) ∧ w' = w'') := hid fun w' h => equal_any _ _ _ _ _ _ _ _ x.b x.b true w' (HX.out.below (h.mono hB)) (HY.out.below (h.mono hB2)) HO.out HO.out (by simp)
  obtain ⟨id, fr, ch, sa, en, A, n, c, bad, lf, b⟩ := x
  have e1 : (id == id) = true := by simp
  have e2 : (fr == fr) = true := by simp
  have e3 : (ch == ch) = true := by simp
  have e4 : (sa == sa) = true := by simp
  have e5 : (en == en) = true := by simp
  have e6 : (bad == bad) = true := by simp
  have e7 : (lf == lf) = true := by simp
  clear HX HY HO
  go_enter Try.func35, Try.ntmps35
  go_wp2_with (first
    | (go_at_call 36; refine (HE.out w2 B2.out).mono ?_; rintro e w3 ⟨rfl, rfl⟩)
    | (refine wpList_boxa (x := ⟨id, fr, ch, sa, en, A2, n, c2, bad, lf, b⟩) rfl (.tmp 1) rfl rfl ?_; intro w2 u2 b2 s2; have v2 := v1.below b2 v1.lt; have B2 : Hid (Below w.heap.size w w2) := hid (b1.trans (b2.mono b1.size)); have p0 := v2.c0; have p1 := v2.c1; have p2 := v2.c2; have p3 := v2.c3; have p4 := v2.c4; have p5 := v2.c5; have p6 := v2.c6; have p7 := v2.c7; have q0 := u2.c0; have q1 := u2.c1; have q2 := u2.c2; have q3 := u2.c3; have q4 := u2.c4; have q5 := u2.c5; have q6 := u2.c6; have q7 := u2.c7; clear v1 v2 u2 b1 b2)
    | (refine wpList_boxa (x := ⟨id, fr, ch, sa, en, A, n, c, bad, lf, b⟩) rfl (.tmp 0) rfl rfl ?_; intro w1 v1 b1 s1))
  go_ret
  exact ⟨rfl, B2.out⟩
set_option maxRecDepth 100000 in
set_option maxHeartbeats 2000000 in
theorem same_func (A A2 : Option Addr) (n c c2 B B2 : Nat) (xs ys : List Ar) (w : World) (hx : RA w B A n xs) (hy : RA w B2 A2 n ys) (hB : B ≤ w.heap.size) (hB2 : B2 ≤ w.heap.size) (hn : n ≤ 100000) (ho : ∀ j, j < n → Oct (nth xs j).b) (hs : ∀ j, j < n → ∃ A c, nth ys j = { nth xs j with A := A, c := c }) :
    Calls Try.prog 34 #[.slice A n c, .slice A2 n c2, .func (.func 35) #[] #[]] w fun e w' => e = .returned (.bool true) ∧ Below w.heap.size w w' := by
  have HX := hid hx
  have HY := hid hy
  have HO := hid ho
  have HS := hid hs
  have hne : ((n : Int) != (n : Int)) = false := by simp
  clear hx hy ho hs
  go_enter Try.func34, Try.ntmps34
  go_wp2
  go_loopw [17] (fun t wr => ∃ j : Nat, t = .int .i64 (j : Int) ∧ j ≤ n ∧ Below w.heap.size w wr) (fun t _ => n - (intOf t).toNat)
  case atStart => exact ⟨0, rfl, by omega, Below.refl _ _⟩
  case round =>
    obtain ⟨j, rfl, hj, hbel⟩ := hrel
    have HB := hid hbel
    clear hbel
    by_cases hlt : j < n
    · have hRx := hid (HX.out.below (HB.out.mono hB))
      have hRy := hid (HY.out.below (HB.out.mono hB2))
      obtain ⟨b, o, rfl, _, hc⟩ := hRx.out.1.all (by omega)
      obtain ⟨b', o', rfl, _, hc'⟩ := hRy.out.1.all (by omega)
      have r1 := hid (hc j hlt)
      have r2 := hid (hc' j hlt)
      obtain ⟨A9, c9, e9⟩ := HS.out j hlt
      have HXR : Hid (Row wr B (nth xs j).A (nth xs j).n (bv (nth xs j).b)) := hid (hRx.out.2 _ (nth_mem (by rw [hRx.out.1.1]; exact hlt)))
      have HYR : Hid (Row wr B2 A9 (nth xs j).n (bv (nth xs j).b)) := hid (by
        have := hRy.out.2 _ (nth_mem (l := ys) (k := j) (by rw [hRy.out.1.1]; exact hlt))
        rwa [e9] at this)
      have HOO := hid (HO.out j hlt)
      rw [e9] at r2
      have hjn : (j : Int) < (n : Int) := by omega
      have hBr : w.heap.size ≤ wr.heap.size := HB.out.size
      clear hc hc' e9
      generalize nth xs j = x at *
      have HQ : Hid (∀ w', Below wr.heap.size wr w' → Calls Try.prog 35 #[itv x, itv { x with A := A9, c := c9 }] w' fun e w'' => e = .returned (.bool true) ∧ Below w'.heap.size w' w'') := hid fun w' h =>
        same1_any x A9 c9 B B2 w' (HXR.out.below (h.mono (Nat.le_trans hB hBr))) (HYR.out.below (h.mono (Nat.le_trans hB2 hBr))) (Nat.le_trans (Nat.le_trans hB hBr) h.size) (Nat.le_trans (Nat.le_trans hB2 hBr) h.size) HOO.out
      go_wp2_with (first
        | (go_at_call 35; refine (HQ.out w6 B6.out).mono ?_; rintro e w7 ⟨rfl, b7⟩)
        | (refine wpList_lda (x := { x with A := A9, c := c9 }) rfl (.tmp 9) rfl rfl u6 ?_)
        | (refine wpList_lda (x := x) rfl (.tmp 8) rfl rfl v6 ?_)
        | (refine wpList_sva (x := { x with A := A9, c := c9 }) rfl (.tmp 9) (.tmp 25) rfl rfl rfl u5 ?_; intro w6 u6 b6 o6 s6; have B6 : Hid (Below wr.heap.size wr w6) := hid (B5.out.trans (b6.mono B4.out.size)); have v6 := v5.below b6 v4.lt)
        | (refine wpList_sva (x := x) rfl (.tmp 8) (.tmp 21) rfl rfl rfl v3 ?_; intro w4 v4 b4 o4 s4; have B4 : Hid (Below wr.heap.size wr w4) := hid (b3.trans b4))
        | (refine wpList_lde (x := { x with A := A9, c := c9 }) rfl (.tmp 24) rfl rfl (range_keep r2.out (World.block_lt_of_cell? wr _ (r2.out 0 _ rfl)) B4.out) ?_)
        | (refine wpList_ala rfl rfl ?_; intro w5 u5 b5 s5; have v5 := v4.below b5 v4.lt; have B5 : Hid (Below wr.heap.size wr w5) := hid (B4.out.trans (b5.mono B4.out.size)))
        | (refine wpList_ala rfl rfl ?_; intro w3 v3 b3 s3)
        | (refine wpList_lde (x := x) rfl (.tmp 20) rfl rfl r1.out ?_))
      go_roundw
      case rel => exact ⟨j + 1, by go_num, by omega, (HB.out.trans (B6.out.mono HB.out.size)).trans (b7.mono (Nat.le_trans HB.out.size B6.out.size))⟩
      case measure => simp [intOf]; omega
    · go_wp2
      go_ret
      exact ⟨rfl, HB.out⟩
theorem same_true (A A2 : Option Addr) (n c c2 B B2 : Nat) (xs ys : List Ar) (w : World) (hx : RA w B A n xs) (hy : RA w B2 A2 n ys) (hB : B ≤ w.heap.size) (hB2 : B2 ≤ w.heap.size) (hn : n ≤ 100000) (ho : ∀ j, j < n → Oct (nth xs j).b) (hs : ∀ j, j < n → ∃ A c, nth ys j = { nth xs j with A := A, c := c }) :
    Calls Try.prog 20 #[.slice A n c, .slice A2 n c2] w fun e w' => e = .returned (.bool true) ∧ Below w.heap.size w w' := by
  have H := hid (same_func A A2 n c c2 B B2 xs ys w hx hy hB hB2 hn ho hs)
  clear hx hy ho hs
  go_enter Try.func20, Try.ntmps20
  go_wp2_with (go_at_call 34; refine H.out.mono ?_; rintro e w2 ⟨rfl, b2⟩)
  go_ret
  exact ⟨rfl, b2⟩
end Go.Proofs.Ytjmkhhmibkiijaa
