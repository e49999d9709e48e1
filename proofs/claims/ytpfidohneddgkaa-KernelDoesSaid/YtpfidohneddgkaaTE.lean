/-
  The walk of KernelTells: whether any queue may be, it sorted, and whether two are the same, as the document tells it. What is asked: the queues came in (numbers of 64 bits; the slices' lengths are no more than their capacities).
-/
import Derived.Test.YtpfidohneddgkaaKK
import Derived.Deep.QuietTactic
import Derived.BigQuiet
namespace Go.Proofs.Ytpfidohneddgkaa
open Go Go.RowKit Go.Maps

/-- A load of a queue, or of a queue's slice, in a quiet region. -/
theorem wpQuiet_ldq {ops : Array Oper} {w : World} {Q : Act → Prop} {o : Oper} {rest : List Oper} {a : Act} {x : Operand} {g : Nat} {q : Qu} (hw : Region.wanted o (yielded ops a.tmps) = true) (ho : o.op = .load 25 x)
    (hx : a.eval x = .pointer (some ⟨g, 0, none⟩)) (hr : VarQ w g q) (h : wpQuiet Try.prog ops (fun w' => ∃ p : Regrown, w' = Sort.grow (redrawn w p.d) p.os) Q rest (a.put o.dst (qv q))) : wpQuiet Try.prog ops (fun w' => ∃ p : Regrown, w' = Sort.grow (redrawn w p.d) p.os) Q (o :: rest) a := by
  unfold wpQuiet
  rw [if_pos hw]
  refine ⟨qv q, fun w' hw' => ?_, h⟩
  unfold Oper.quietAt
  have : (execOp a.eval o).run Try.prog w' = .ok (.value (qv q)) w' := by
    unfold execOp
    have := ldqv (hr.below2 (Cl.below hw'))
    simp only [ho, hx, Instr.loadAt, Instr.sureAddr, Sem.run_bind, Sem.run_pure, Result.andThen_ok, this]
  rw [this]
  exact ⟨rfl, rfl⟩
theorem wpQuiet_ldi {ops : Array Oper} {w : World} {Q : Act → Prop} {o : Oper} {rest : List Oper} {a : Act} {x : Operand} {g : Nat} {v : It} (hw : Region.wanted o (yielded ops a.tmps) = true) (ho : o.op = .load 36 x)
    (hx : a.eval x = .pointer (some ⟨g, 0, none⟩)) (hr : VarI w g v) (h : wpQuiet Try.prog ops (fun w' => ∃ p : Regrown, w' = Sort.grow (redrawn w p.d) p.os) Q rest (a.put o.dst (itv v))) : wpQuiet Try.prog ops (fun w' => ∃ p : Regrown, w' = Sort.grow (redrawn w p.d) p.os) Q (o :: rest) a :=
  wpQuiet_ld hw ho hx hr.1 h

theorem wpQuiet_ld0 {ops : Array Oper} {w : World} {Q : Act → Prop} {o : Oper} {rest : List Oper} {a : Act} {x : Operand} {g : Nat} {v : Value} (hw : Region.wanted o (yielded ops a.tmps) = true) (ho : o.op = .load 22 x)
    (hx : a.eval x = .pointer (some ⟨g, 0, none⟩)) (hr : w.cell? ⟨g, 0, none⟩ = some v) (h : wpQuiet Try.prog ops (fun w' => ∃ p : Regrown, w' = Sort.grow (redrawn w p.d) p.os) Q rest (a.put o.dst v)) : wpQuiet Try.prog ops (fun w' => ∃ p : Regrown, w' = Sort.grow (redrawn w p.d) p.os) Q (o :: rest) a := by
  unfold wpQuiet
  rw [if_pos hw]
  refine ⟨v, fun w' hw' => ?_, h⟩
  unfold Oper.quietAt
  have hc : w'.cell? ⟨g, 0, none⟩ = some v := by obtain ⟨p, rfl⟩ := hw'; exact cell_regrown hr p.d p.os
  have : (execOp a.eval o).run Try.prog w' = .ok (.value v) w' := by
    unfold execOp
    simp [ho, hx, Instr.loadAt, Instr.sureAddr, loadVar, Try.isAgg22, hc]
  rw [this]
  exact ⟨rfl, rfl⟩

/-- Whether two queues are the same: both tell it alike. -/
theorem same_both (A D : Option Addr) (n c m d B B2 : Nat) (nx nw hz nx2 nw2 hz2 : Int) (xs ys : List It) (hn : n ≤ 4096) (hm : m ≤ 4096) : ∃ r, (∀ w, Row w B A n xs → Row w B2 D m ys → B ≤ w.heap.size → B2 ≤ w.heap.size →
      Calls Try.prog 29 #[qv ⟨A, n, c, nx, nw, hz⟩, qv ⟨D, m, d, nx2, nw2, hz2⟩] w fun e w' => e = .returned (.bool r) ∧ Below w.heap.size w w') ∧
    (∀ w, Row w B A n xs → Row w B2 D m ys → B ≤ w.heap.size → B2 ≤ w.heap.size →
      Calls Try.prog 23 #[qv ⟨A, n, c, nx, nw, hz⟩, qv ⟨D, m, d, nx2, nw2, hz2⟩] w fun e w' => e = .returned (.bool r) ∧ Below w.heap.size w w') := by
  by_cases h : nx = nx2 ∧ nw = nw2 ∧ hz = hz2
  · obtain ⟨rfl, rfl, rfl⟩ := h
    exact ⟨_, fun w h1 h2 h3 h4 => ksame_yes A D n c m d B B2 nx nw hz xs ys _ w h1 h2 h3 h4 hn hm rfl, fun w h1 h2 h3 h4 => rsame_yes A D n c m d B B2 nx nw hz xs ys _ w h1 h2 h3 h4 hn hm rfl⟩
  · exact ⟨false, fun w _ _ _ _ => ksame_no A D n c m d nx nw hz nx2 nw2 hz2 w h, fun w _ _ _ _ => rsame_no A D n c m d nx nw hz nx2 nw2 hz2 w h⟩

set_option maxRecDepth 100000 in
theorem tells_many (A D : Option Addr) (n c m d : Nat) (nx nw hz nx2 nw2 hz2 : Int) (w : World) (h : 200 < n ∨ 200 < m) :
    Calls Try.prog 4 #[qv ⟨A, n, c, nx, nw, hz⟩, qv ⟨D, m, d, nx2, nw2, hz2⟩] w fun e w' => e = .returned (.bool true) ∧ Below w.heap.size w w' := by
  have h' : decide ((n : Int) ≤ 200) = false ∨ (decide ((n : Int) ≤ 200) = true ∧ decide ((m : Int) ≤ 200) = false) := by simp; omega
  clear h
  rcases h' with h1 | ⟨h1, h2⟩
  · have F1 := hid h1
    clear h1
    go_enter Try.func4, Try.ntmps4
    go_wp2_with (first
      | (refine wpList_boxq (q := ⟨D, m, d, nx2, nw2, hz2⟩) rfl (.tmp 1) rfl rfl ?_; intro w2 u2 b2 _; have v2 := v1.below2 b2; have B2 : Hid (Below w.heap.size w w2) := hid (b1.trans (b2.mono b1.size)))
      | (refine wpList_boxq (q := ⟨A, n, c, nx, nw, hz⟩) rfl (.tmp 0) rfl rfl ?_; intro w1 v1 b1 _)
      | (go_at_call 9; refine (live_any w2).mono ?_; rintro e w3 ⟨rfl, b3⟩; have v3 := v2.below2 b3; have u3 := u2.below2 b3; have B3 : Hid (Below w.heap.size w w3) := hid (B2.out.trans (b3.mono B2.out.size)))
      | (refine wpList_ldq rfl (.tmp 2) rfl rfl v3 ?_)
      | (go_at_call 10; refine (few_any A n c nx nw hz w3 _ F1.out).mono ?_; rintro e w4 ⟨rfl, b4⟩; have u4 := u3.below2 b4; have B4 : Hid (Below w.heap.size w w4) := hid (B3.out.trans (b4.mono B3.out.size))))
    go_ret
    exact ⟨rfl, B4.out⟩
  · have F1 := hid h1
    have F2 := hid h2
    clear h1 h2
    go_enter Try.func4, Try.ntmps4
    go_wp2_with (first
      | (refine wpList_boxq (q := ⟨D, m, d, nx2, nw2, hz2⟩) rfl (.tmp 1) rfl rfl ?_; intro w2 u2 b2 _; have v2 := v1.below2 b2; have B2 : Hid (Below w.heap.size w w2) := hid (b1.trans (b2.mono b1.size)))
      | (refine wpList_boxq (q := ⟨A, n, c, nx, nw, hz⟩) rfl (.tmp 0) rfl rfl ?_; intro w1 v1 b1 _)
      | (go_at_call 9; refine (live_any w2).mono ?_; rintro e w3 ⟨rfl, b3⟩; have v3 := v2.below2 b3; have u3 := u2.below2 b3; have B3 : Hid (Below w.heap.size w w3) := hid (B2.out.trans (b3.mono B2.out.size)))
      | (refine wpList_ldq rfl (.tmp 2) rfl rfl v3 ?_)
      | (refine wpList_ldq rfl (.tmp 3) rfl rfl u4 ?_)
      | (go_at_call 10; (with_reducible refine (few_any D m d nx2 nw2 hz2 w4 _ F2.out).mono ?_); rintro e w5 ⟨rfl, b5⟩; have B5 : Hid (Below w.heap.size w w5) := hid (B4.out.trans (b5.mono B4.out.size)))
      | (go_at_call 10; refine (few_any A n c nx nw hz w3 _ F1.out).mono ?_; rintro e w4 ⟨rfl, b4⟩; have u4 := u3.below2 b4; have B4 : Hid (Below w.heap.size w w4) := hid (B3.out.trans (b4.mono B3.out.size))))
    go_ret
    exact ⟨rfl, B5.out⟩

set_option maxRecDepth 100000 in
set_option maxHeartbeats 4000000 in
theorem tells_walk (A D : Option Addr) (n c m d : Nat) (nx nw hz nx2 nw2 hz2 : Int) (xs ys : List It) (w : World) (ha : Row w w.heap.size A n xs) (hb : Row w w.heap.size D m ys) (hnc : n ≤ c) (hs : SqOk xs) (hn : n ≤ 200) (hm : m ≤ 200) :
    Calls Try.prog 4 #[qv ⟨A, n, c, nx, nw, hz⟩, qv ⟨D, m, d, nx2, nw2, hz2⟩] w fun e w' => e = .returned (.bool true) ∧ Below w.heap.size w w' := by
  have F1 : Hid (decide ((n : Int) ≤ 200) = true) := hid (decide_eq_true (by omega))
  have F2 : Hid (decide ((m : Int) ≤ 200) = true) := hid (decide_eq_true (by omega))
  obtain ⟨ok, hok⟩ : ∃ ok, okB nx nw hz xs = ok := ⟨_, rfl⟩
  obtain ⟨L, hL⟩ : ∃ L, L = if ok then srt xs else xs := ⟨_, rfl⟩
  have HT := hid (fun w' (hk : Below w.heap.size w w') => tidy_any A n c nx nw hz w.heap.size xs w' ok (ha.below hk) hk.size (by omega) hs hok)
  have HU := hid (fun w' (hk : Below w.heap.size w w') => rtidy_any A n c nx nw hz w.heap.size xs w' ok (ha.below hk) hk.size (by omega) hnc hok)
  rw [← hL] at HT HU
  have K1 := hid (fun w' (hk : Below w.heap.size w w') => kcheck_any ⟨A, n, c, nx, nw, hz⟩ w.heap.size xs w' (ha.below hk) hk.size (by show n ≤ 4096; omega) hs)
  have K2 := hid (fun w' (hk : Below w.heap.size w w') => rcheck_any A n c nx nw hz w.heap.size xs w' (ha.below hk) hk.size (by omega) hnc)
  obtain ⟨r, hS1, hS2⟩ := same_both A D n c m d w.heap.size w.heap.size nx nw hz nx2 nw2 hz2 xs ys (by omega) (by omega)
  have S1 := hid (fun w' (hk : Below w.heap.size w w') => hS1 w' (ha.below hk) (hb.below hk) hk.size hk.size)
  have S2 := hid (fun w' (hk : Below w.heap.size w w') => hS2 w' (ha.below hk) (hb.below hk) hk.size hk.size)
  generalize okE nx nw hz xs = E at *
  clear ha hb hs hok hL hS1 hS2
  go_enter Try.func4, Try.ntmps4
  go_wp2_with (first
    | (refine wpList_boxq (q := ⟨D, m, d, nx2, nw2, hz2⟩) rfl (.tmp 1) rfl rfl ?_; intro w2 u2 b2 _; have v2 := v1.below2 b2; have B2 : Hid (Below w.heap.size w w2) := hid (b1.trans (b2.mono b1.size)))
    | (refine wpList_boxq (q := ⟨A, n, c, nx, nw, hz⟩) rfl (.tmp 0) rfl rfl ?_; intro w1 v1 b1 _)
    | (go_at_call 9; refine (live_any w2).mono ?_; rintro e w3 ⟨rfl, b3⟩; have v3 := v2.below2 b3; have u3 := u2.below2 b3; have B3 : Hid (Below w.heap.size w w3) := hid (B2.out.trans (b3.mono B2.out.size)))
    | (refine wpList_ldq rfl (.tmp 2) rfl rfl v8 ?_)
    | (refine wpList_ldq rfl (.tmp 2) rfl rfl v5 ?_)
    | (refine wpList_ldq rfl (.tmp 2) rfl rfl v3 ?_)
    | (refine wpList_ldq rfl (.tmp 3) rfl rfl u4 ?_)
    | (go_at_call 10; (with_reducible refine (few_any D m d nx2 nw2 hz2 w4 _ F2.out).mono ?_); rintro e w5 ⟨rfl, b5⟩; have v5 := v4.below2 b5; have u5 := u4.below2 b5; have B5 : Hid (Below w.heap.size w w5) := hid (B4.out.trans (b5.mono B4.out.size)))
    | (go_at_call 10; refine (few_any A n c nx nw hz w3 _ F1.out).mono ?_; rintro e w4 ⟨rfl, b4⟩; have v4 := v3.below2 b4; have u4 := u3.below2 b4; have B4 : Hid (Below w.heap.size w w4) := hid (B3.out.trans (b4.mono B3.out.size)))
    | (go_at_call 25; refine (HT.out w5 B5.out).mono ?_; rintro e w6 ⟨A6, c6, l6, rfl, rfl, q6⟩; have v6 := v5.below2 q6.2.2; have u6 := u5.below2 q6.2.2; have B6 : Hid (Below w.heap.size w w6) := hid (B5.out.trans (q6.2.2.mono B5.out.size)))
    | (refine wpList_svq rfl (.tmp 7) (.tmp 21) rfl rfl rfl y10 ?_; intro w11 y11 b11 _ _; have v11 := v10.below b11 v9.lt; have u11 := u10.below b11 u9.lt; have t11 := t10.below b11 t9.lt; have rt11 := rt10.below (b11.mono Z9.out); have ry11 := ry10.below b11; have B11 : Hid (Below w.heap.size w w11) := hid (B10.out.trans (b11.mono B9.out.size)); have Z11 : Hid (w6.heap.size ≤ w11.heap.size) := hid (Nat.le_trans Z10.out b11.size); have Y11 : Hid (w9.heap.size ≤ w11.heap.size) := hid (Nat.le_trans Y10.out b11.size))
    | (refine wpList_alq rfl rfl ?_; intro w10 y10 b10 _; have v10 := v9.below2 b10; have u10 := u9.below2 b10; have t10 := t9.below2 b10; have rt10 := rt9.below (b10.mono Z9.out); have ry10 := q9.1.below b10; have B10 : Hid (Below w.heap.size w w10) := hid (B9.out.trans (b10.mono B9.out.size)); have Z10 : Hid (w6.heap.size ≤ w10.heap.size) := hid (Nat.le_trans Z9.out b10.size); have Y10 : Hid (w9.heap.size ≤ w10.heap.size) := hid b10.size)
    | (go_at_call 26; refine (HU.out w8 B8.out).mono ?_; rintro e w9 ⟨A9, c9, l9, rfl, rfl, q9⟩; have v9 := v8.below2 q9.2.2; have u9 := u8.below2 q9.2.2; have t9 := t8.below2 q9.2.2; have rt9 := rt8.below (q9.2.2.mono Z8.out); have B9 : Hid (Below w.heap.size w w9) := hid (B8.out.trans (q9.2.2.mono B8.out.size)); have Z9 : Hid (w6.heap.size ≤ w9.heap.size) := hid (Nat.le_trans Z8.out q9.2.2.size))
    | (refine wpList_svq rfl (.tmp 6) (.tmp 19) rfl rfl rfl t7 ?_; intro w8 t8 b8 _ _; have v8 := v7.below b8 v6.lt; have u8 := u7.below b8 u6.lt; have rt8 := rt7.below b8; have B8 : Hid (Below w.heap.size w w8) := hid (B7.out.trans (b8.mono B6.out.size)); have Z8 : Hid (w6.heap.size ≤ w8.heap.size) := hid (Nat.le_trans Z7.out b8.size))
    | (refine wpList_alq rfl rfl ?_; intro w7 t7 b7 _; have v7 := v6.below2 b7; have u7 := u6.below2 b7; have rt7 := q6.1.below b7; have B7 : Hid (Below w.heap.size w w7) := hid (B6.out.trans (b7.mono B6.out.size)); have Z7 : Hid (w6.heap.size ≤ w7.heap.size) := hid b7.size))
  have BB := hid (fun dd os => (B11.out.trans ((below_regrown w11 dd os).mono B11.out.size)))
  have T1 := hid (fun dd os => Calls.regrown_of (K1.out (Sort.grow (redrawn w11 dd) os) (BB.out dd os)))
  have T2 := hid (fun dd os => Calls.regrown_of (K2.out (Sort.grow (redrawn w11 dd) os) (BB.out dd os)))
  have T3 := hid (fun dd os => Calls.regrown_of (rsame_yes A6 A9 n c6 n c9 w6.heap.size w9.heap.size nx nw hz l9 l9 true (Sort.grow (redrawn w11 dd) os) (rt11.below ((below_regrown w11 dd os).mono Z11.out)) (ry11.below ((below_regrown w11 dd os).mono Y11.out)) (Nat.le_trans Z11.out (below_regrown w11 dd os).size) (Nat.le_trans Y11.out (below_regrown w11 dd os).size) (by omega) (by omega) (by simp)))
  have T4 := hid (fun dd os => Calls.regrown_of (same_any A6 A9 n c6 n c9 w6.heap.size w9.heap.size l9 l9 true (Sort.grow (redrawn w11 dd) os) (rt11.below ((below_regrown w11 dd os).mono Z11.out)) (ry11.below ((below_regrown w11 dd os).mono Y11.out)) (Nat.le_trans Z11.out (below_regrown w11 dd os).size) (Nat.le_trans Y11.out (below_regrown w11 dd os).size) (by omega) (by omega) (by simp)))
  have T5 := hid (fun dd os => Calls.regrown_of (S1.out (Sort.grow (redrawn w11 dd) os) (BB.out dd os)))
  have T6 := hid (fun dd os => Calls.regrown_of (S2.out (Sort.grow (redrawn w11 dd) os) (BB.out dd os)))
  have x0 : Hid (w11.cell? ⟨w6.heap.size, 0, none⟩ = some (.slice A6 n c6)) := hid t11.c0
  have x1 : Hid (w11.cell? ⟨w9.heap.size, 0, none⟩ = some (.slice A9 n c9)) := hid y11.c0
  have V := hid v11
  have U := hid u11
  have T := hid t11
  have Y := hid y11
  clear v1 v2 v3 v4 v5 v6 v7 v8 v9 v10 v11 u2 u3 u4 u5 u6 u7 u8 u9 u10 u11 t7 t8 t9 t10 t11 y10 y11 rt7 rt8 rt9 rt10 rt11 ry10 ry11 q6 q9 HT HU K1 K2 S1 S2
  refine wp_region_quiet_below (by kernel_rfl) (by kernel_rfl) ?_
  repeat (first | refine wpQuiet_ldq rfl rfl rfl V.out ?_ | refine wpQuiet_ldq rfl rfl rfl U.out ?_ | refine wpQuiet_ldq rfl rfl rfl T.out ?_ | refine wpQuiet_ldq rfl rfl rfl Y.out ?_ | refine wpQuiet_ld0 rfl rfl rfl x0.out ?_ | refine wpQuiet_ld0 rfl rfl rfl x1.out ?_ | quiet_step (first | with_reducible exact T1.out _ _ | with_reducible exact T2.out _ _ | with_reducible exact T3.out _ _ | with_reducible exact T4.out _ _ | with_reducible exact T5.out _ _ | with_reducible exact T6.out _ _))
  refine wpQuiet_nil ?_
  intro _ hw'
  obtain ⟨⟨dq, osq⟩, hw''⟩ := hw'
  subst hw''
  have HW := hid (BB.out dq osq)
  generalize Sort.grow (redrawn w11 dq) osq = w12 at *
  clear T1 T2 T3 T4 T5 T6 x0 x1
  go_wp2
  go_ret
  exact ⟨ret_bool (by simp), HW.out⟩
theorem tells_row {w : World} (A : Option Addr) (n c : Nat) (nx nw hz : Int) (xs : List It) (ha : Row w w.heap.size A n xs) (hnc : n ≤ c) (_ : c ≤ 9223372036854775807) (hs : SqOk xs) (_ : 0 ≤ nx) (_ : nx ≤ 18446744073709551615)
    (D : Option Addr) (m d : Nat) (nx2 nw2 hz2 : Int) (ys : List It) (hb : Row w w.heap.size D m ys) (_ : m ≤ d) (_ : d ≤ 9223372036854775807) (_ : SqOk ys) (_ : 0 ≤ nx2) (_ : nx2 ≤ 18446744073709551615) :
    Calls Try.prog 4 #[qv ⟨A, n, c, nx, nw, hz⟩, qv ⟨D, m, d, nx2, nw2, hz2⟩] w fun e w' => e = .returned (.bool true) ∧ Below w.heap.size w w' := by
  by_cases h : n ≤ 200 ∧ m ≤ 200
  · exact tells_walk A D n c m d nx nw hz nx2 nw2 hz2 xs ys w ha hb hnc hs h.1 h.2
  · exact tells_many A D n c m d nx nw hz nx2 nw2 hz2 w (by omega)
end Go.Proofs.Ytpfidohneddgkaa
