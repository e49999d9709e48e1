/-
  medl's functions: checkSlot, owner, Round, Owner, Begin, Last, At, Off, Next: what each answers, at every schedule and number.
-/
import Derived.Test.YtjnfckhfgpbbiaaC
import Derived.Lib.QuietBelow
namespace Go.Proofs.Ytjnfckhfgpbbiaa
open Go Go.RowKit
theorem okE_ok {x : Md} (h : Ok x) : okE x = 0 := if_pos h
theorem okE_bad {x : Md} (h : ¬ Ok x) : okE x = 1 := if_neg h
/-- The worlds of a quiet region: what was there is as it was. -/
def Cl (w w' : World) : Prop := ∃ p : Regrown, w' = Sort.grow (redrawn w p.d) p.os
theorem Cl.below {w w' : World} (h : Cl w w') : Below w.heap.size w w' := by obtain ⟨p, rfl⟩ := h; exact below_regrown w p.d p.os
/-- Loads of a schedule and of a number in a quiet region. -/
theorem wpQuiet_ldm {ops : Array Oper} {w : World} {Q : Act → Prop} {o : Oper} {rest : List Oper} {a : Act} {y : Operand} {g : Nat} {x : Md} (hw : Region.wanted o (yielded ops a.tmps) = true) (ho : o.op = .load 23 y)
    (hx : a.eval y = .pointer (some ⟨g, 0, none⟩)) (hr : VarM w g x) (h : wpQuiet Try.prog ops (fun w' => ∃ p : Regrown, w' = Sort.grow (redrawn w p.d) p.os) Q rest (a.put o.dst (mv x))) : wpQuiet Try.prog ops (fun w' => ∃ p : Regrown, w' = Sort.grow (redrawn w p.d) p.os) Q (o :: rest) a := by
  unfold wpQuiet
  rw [if_pos hw]
  refine ⟨mv x, fun w' hw' => ?_, h⟩
  unfold Oper.quietAt
  have : (execOp a.eval o).run Try.prog w' = .ok (.value (mv x)) w' := by
    unfold execOp
    have := ldmv (hr.keep (Cl.below hw'))
    simp only [ho, hx, Instr.loadAt, Instr.sureAddr, Sem.run_bind, Sem.run_pure, Result.andThen_ok, this]
  rw [this]
  exact ⟨rfl, rfl⟩
theorem wpQuiet_ldn {ops : Array Oper} {w : World} {Q : Act → Prop} {o : Oper} {rest : List Oper} {a : Act} {y : Operand} {p : Addr} {v : Value} (hw : Region.wanted o (yielded ops a.tmps) = true) (ho : o.op = .load 3 y)
    (hx : a.eval y = .pointer (some p)) (hr : w.cell? p = some v) (h : wpQuiet Try.prog ops (fun w' => ∃ p : Regrown, w' = Sort.grow (redrawn w p.d) p.os) Q rest (a.put o.dst v)) : wpQuiet Try.prog ops (fun w' => ∃ p : Regrown, w' = Sort.grow (redrawn w p.d) p.os) Q (o :: rest) a := by
  unfold wpQuiet
  rw [if_pos hw]
  refine ⟨v, fun w' hw' => ?_, h⟩
  unfold Oper.quietAt
  have hc : w'.cell? p = some v := by obtain ⟨q, rfl⟩ := hw'; exact cell_regrown hr q.d q.os
  have : (execOp a.eval o).run Try.prog w' = .ok (.value v) w' := by
    unfold execOp
    simp [ho, hx, Instr.loadAt, Instr.sureAddr, loadVar, Try.isAgg3, hc]
  rw [this]
  exact ⟨rfl, rfl⟩

/-! ### checkSlot, owner -/
theorem slot_any (x : Md) (k : Int) (w : World) (e : Int) (he : (if Ok x ∧ k ≤ 4294967296 then (0 : Int) else 1) = e) : Calls Try.prog 22 #[mv x, .int .u64 k] w fun r w' => r = .returned (.int .i64 e) ∧ Below w.heap.size w w' := by
  by_cases hk : Ok x
  · have HC := hid (fun w => (okE_ok hk ▸ check_any x w : Calls Try.prog 15 #[mv x] w fun e w' => e = .returned (.int .i64 0) ∧ Below w.heap.size w w'))
    by_cases h4 : k ≤ 4294967296
    · rw [if_pos ⟨hk, h4⟩] at he
      subst he
      clear hk
      have h4' : decide (4294967296 < k) = false := by simp; omega
      clear h4
      go_enter Try.func22, Try.ntmps22
      go_wp2_with (first
        | (go_at_call 15; (with_reducible refine (HC.out w1).mono ?_); rintro e w2 ⟨rfl, b2⟩; have B2 : Hid (Below w.heap.size w w2) := hid (b1.trans (b2.mono b1.size)))
        | (refine wpList_ldm rfl (.tmp 2) rfl rfl v1 ?_)
        | (refine wpList_boxm (x := x) rfl (.tmp 0) rfl rfl ?_; intro w1 v1 b1 s1))
      go_ret
      exact ⟨rfl, B2.out⟩
    · rw [if_neg (by intro h; exact h4 h.2)] at he
      subst he
      clear hk
      have h4' : decide (4294967296 < k) = true := by simp; omega
      clear h4
      go_enter Try.func22, Try.ntmps22
      go_wp2_with (first
        | (go_at_call 15; (with_reducible refine (HC.out w1).mono ?_); rintro e w2 ⟨rfl, b2⟩; have B2 : Hid (Below w.heap.size w w2) := hid (b1.trans (b2.mono b1.size)))
        | (refine wpList_ldm rfl (.tmp 2) rfl rfl v1 ?_)
        | (refine wpList_boxm (x := x) rfl (.tmp 0) rfl rfl ?_; intro w1 v1 b1 s1))
      go_ret
      exact ⟨rfl, B2.out⟩
  · have HC := hid (fun w => (okE_bad hk ▸ check_any x w : Calls Try.prog 15 #[mv x] w fun e w' => e = .returned (.int .i64 1) ∧ Below w.heap.size w w'))
    rw [if_neg (by intro h; exact hk h.1)] at he
    subst he
    clear hk
    go_enter Try.func22, Try.ntmps22
    go_wp2_with (first
      | (go_at_call 15; (with_reducible refine (HC.out w1).mono ?_); rintro e w2 ⟨rfl, b2⟩; have B2 : Hid (Below w.heap.size w w2) := hid (b1.trans (b2.mono b1.size)))
      | (refine wpList_ldm rfl (.tmp 2) rfl rfl v1 ?_)
      | (refine wpList_boxm (x := x) rfl (.tmp 0) rfl rfl ?_; intro w1 v1 b1 s1))
    go_ret
    exact ⟨rfl, B2.out⟩
theorem owner_ok (n s l f d k O : Int) (w : World) (h1 : 2 ≤ n) (h2 : n ≤ 16) (hk : 0 ≤ k) (hk2 : k ≤ 4294967296) (hO : k % n = O) : Calls Try.prog 23 #[mv ⟨n, s, l, f, d⟩, .int .u64 k] w fun r w' => r = .returned (.int .i64 O) ∧ Below w.heap.size w w' := by
  have a1 := Int.emod_nonneg k (show n ≠ 0 by omega)
  have a2 := Int.emod_lt_of_pos k (show 0 < n by omega)
  rw [hO] at a1 a2
  go_enter Try.func23, Try.ntmps23
  go_wp2_with (first
    | (refine wpList_boxm (x := ⟨n, s, l, f, d⟩) rfl (.tmp 0) rfl rfl ?_; intro w1 v1 b1 s1; have c0 : w1.cell? ⟨w.heap.size, 0, none⟩ = some (.int .i64 n) := v1.c0))
  go_ret
  exact ⟨ret_int (by first | exact hO | rfl | omega), b1⟩
/-! ### What may not be -/
theorem own_bad (x : Md) (k : Int) (w : World) (h : ¬ (Ok x ∧ k ≤ 4294967296)) : Calls Try.prog 16 #[mv x, .int .u64 k] w fun r w' => r = .returned (.tuple #[.int .i64 0, .int .i64 1]) ∧ Below w.heap.size w w' := by
  have HC := hid (fun w => slot_any x k w 1 (if_neg h))
  clear h
  go_enter Try.func16, Try.ntmps16
  go_wp2_with (first
    | (go_at_call 22; (with_reducible refine (HC.out w1).mono ?_); rintro e w2 ⟨rfl, b2⟩; have B2 : Hid (Below w.heap.size w w2) := hid (b1.trans (b2.mono b1.size)))
    | (refine wpList_ldm rfl (.tmp 2) rfl rfl v1 ?_)
    | (refine wpList_boxm (x := x) rfl (.tmp 0) rfl rfl ?_; intro w1 v1 b1 s1))
  go_ret2
  exact ⟨rfl, B2.out⟩
theorem begin_bad (x : Md) (k : Int) (w : World) (h : ¬ (Ok x ∧ k ≤ 4294967296)) : Calls Try.prog 18 #[mv x, .int .u64 k] w fun r w' => r = .returned (.tuple #[.int .i64 0, .int .i64 1]) ∧ Below w.heap.size w w' := by
  have HC := hid (fun w => slot_any x k w 1 (if_neg h))
  clear h
  go_enter Try.func18, Try.ntmps18
  go_wp2_with (first
    | (go_at_call 22; (with_reducible refine (HC.out w1).mono ?_); rintro e w2 ⟨rfl, b2⟩; have B2 : Hid (Below w.heap.size w w2) := hid (b1.trans (b2.mono b1.size)))
    | (refine wpList_ldm rfl (.tmp 2) rfl rfl v1 ?_)
    | (refine wpList_boxm (x := x) rfl (.tmp 0) rfl rfl ?_; intro w1 v1 b1 s1))
  go_ret2
  exact ⟨rfl, B2.out⟩
theorem last_bad (x : Md) (k : Int) (w : World) (h : ¬ (Ok x ∧ k ≤ 4294967296)) : Calls Try.prog 17 #[mv x, .int .u64 k] w fun r w' => r = .returned (.tuple #[.bool false, .int .i64 1]) ∧ Below w.heap.size w w' := by
  have HC := hid (fun w => slot_any x k w 1 (if_neg h))
  clear h
  go_enter Try.func17, Try.ntmps17
  go_wp2_with (first
    | (go_at_call 22; (with_reducible refine (HC.out w1).mono ?_); rintro e w2 ⟨rfl, b2⟩; have B2 : Hid (Below w.heap.size w w2) := hid (b1.trans (b2.mono b1.size)))
    | (refine wpList_ldm rfl (.tmp 2) rfl rfl v1 ?_)
    | (refine wpList_boxm (x := x) rfl (.tmp 0) rfl rfl ?_; intro w1 v1 b1 s1))
  go_ret2
  exact ⟨rfl, B2.out⟩
theorem next_bad (x : Md) (k m : Int) (w : World) (h : ¬ (Ok x ∧ k ≤ 4294967296)) : Calls Try.prog 13 #[mv x, .int .u64 k, .int .i64 m] w fun r w' => r = .returned (.tuple #[.int .u64 0, .int .i64 1]) ∧ Below w.heap.size w w' := by
  have HC := hid (fun w => slot_any x k w 1 (if_neg h))
  clear h
  go_enter Try.func13, Try.ntmps13
  go_wp2_with (first
    | (go_at_call 22; (with_reducible refine (HC.out w1).mono ?_); rintro e w2 ⟨rfl, b2⟩; have B2 : Hid (Below w.heap.size w w2) := hid (b1.trans (b2.mono b1.size)))
    | (refine wpList_ldm rfl (.tmp 3) rfl rfl v1 ?_)
    | (refine wpList_boxm (x := x) rfl (.tmp 0) rfl rfl ?_; intro w1 v1 b1 s1))
  go_ret2
  exact ⟨rfl, B2.out⟩
theorem round_bad (x : Md)  (w : World) (h : ¬ Ok x) : Calls Try.prog 19 #[mv x] w fun r w' => r = .returned (.tuple #[.int .i64 0, .int .i64 1]) ∧ Below w.heap.size w w' := by
  have HC := hid (fun w => (okE_bad h ▸ check_any x w : Calls Try.prog 15 #[mv x] w fun e w' => e = .returned (.int .i64 1) ∧ Below w.heap.size w w'))
  clear h
  go_enter Try.func19, Try.ntmps19
  go_wp2_with (first
    | (go_at_call 15; (with_reducible refine (HC.out w1).mono ?_); rintro e w2 ⟨rfl, b2⟩; have B2 : Hid (Below w.heap.size w w2) := hid (b1.trans (b2.mono b1.size)))
    | (refine wpList_ldm rfl (.tmp 1) rfl rfl v1 ?_)
    | (refine wpList_boxm (x := x) rfl (.tmp 0) rfl rfl ?_; intro w1 v1 b1 s1))
  go_ret2
  exact ⟨rfl, B2.out⟩
theorem at_bad (x : Md) (t : Int) (w : World) (h : ¬ Ok x) : Calls Try.prog 9 #[mv x, .int .i64 t] w fun r w' => r = .returned (.tuple #[.int .u64 0, .int .i64 0, .int .i64 1]) ∧ Below w.heap.size w w' := by
  have HC := hid (fun w => (okE_bad h ▸ check_any x w : Calls Try.prog 15 #[mv x] w fun e w' => e = .returned (.int .i64 1) ∧ Below w.heap.size w w'))
  clear h
  go_enter Try.func9, Try.ntmps9
  go_wp2_with (first
    | (go_at_call 15; (with_reducible refine (HC.out w1).mono ?_); rintro e w2 ⟨rfl, b2⟩; have B2 : Hid (Below w.heap.size w w2) := hid (b1.trans (b2.mono b1.size)))
    | (refine wpList_ldm rfl (.tmp 2) rfl rfl v1 ?_)
    | (refine wpList_boxm (x := x) rfl (.tmp 0) rfl rfl ?_; intro w1 v1 b1 s1))
  go_ret3
  exact ⟨rfl, B2.out⟩
theorem off_bad (x : Md) (t : Int) (w : World) (h : ¬ Ok x) : Calls Try.prog 11 #[mv x, .int .i64 t] w fun r w' => r = .returned (.tuple #[.int .i64 0, .bool false, .int .i64 1]) ∧ Below w.heap.size w w' := by
  have HC := hid (fun w => (okE_bad h ▸ check_any x w : Calls Try.prog 15 #[mv x] w fun e w' => e = .returned (.int .i64 1) ∧ Below w.heap.size w w'))
  clear h
  go_enter Try.func11, Try.ntmps11
  go_wp2_with (first
    | (go_at_call 15; (with_reducible refine (HC.out w1).mono ?_); rintro e w2 ⟨rfl, b2⟩; have B2 : Hid (Below w.heap.size w w2) := hid (b1.trans (b2.mono b1.size)))
    | (refine wpList_ldm rfl (.tmp 2) rfl rfl v1 ?_)
    | (refine wpList_boxm (x := x) rfl (.tmp 0) rfl rfl ?_; intro w1 v1 b1 s1))
  go_ret3
  exact ⟨rfl, B2.out⟩
/-! ### What may be -/
theorem mul_small {a b A B : Int} (ha : 0 ≤ a) (hA : a ≤ A) (hb : 0 ≤ b) (hB : b ≤ B) : 0 ≤ a * b ∧ a * b ≤ A * B := ⟨Int.mul_nonneg ha hb, Int.mul_le_mul hA hB hb (by omega)⟩
theorem round_ok (n s l f d R : Int) (w : World) (h : Ok ⟨n, s, l, f, d⟩) (hR : n * s = R) : Calls Try.prog 19 #[mv ⟨n, s, l, f, d⟩] w fun r w' => r = .returned (.tuple #[.int .i64 R, .int .i64 0]) ∧ Below w.heap.size w w' := by
  have HC := hid (fun w => (okE_ok h ▸ check_any ⟨n, s, l, f, d⟩ w : Calls Try.prog 15 #[mv ⟨n, s, l, f, d⟩] w fun e w' => e = .returned (.int .i64 0) ∧ Below w.heap.size w w'))
  obtain ⟨h1, h2, h3, h4, h5, h6, h7, h8, h9⟩ := h
  simp only at h1 h2 h3 h4 h5 h6 h7 h8 h9
  have hb := mul_small (show 0 ≤ n by omega) h2 (show 0 ≤ s by omega) h4
  rw [hR] at hb
  obtain ⟨hb1, hb2⟩ := hb
  go_enter Try.func19, Try.ntmps19
  go_wp2_with (first
    | (go_at_call 15; (with_reducible refine (HC.out w1).mono ?_); rintro e w2 ⟨rfl, b2⟩; have v2 := v1.keep b2; have B2 : Hid (Below w.heap.size w w2) := hid (b1.trans (b2.mono b1.size)); have c0 : w2.cell? ⟨w.heap.size, 0, none⟩ = some (.int .i64 n) := v2.c0; have c1 : w2.cell? ⟨w.heap.size, 1, none⟩ = some (.int .i64 s) := v2.c1; clear v1)
    | (refine wpList_ldm rfl (.tmp 1) rfl rfl v1 ?_)
    | (refine wpList_boxm (x := ⟨n, s, l, f, d⟩) rfl (.tmp 0) rfl rfl ?_; intro w1 v1 b1 s1))
  go_ret2
  exact ⟨rfl, B2.out⟩
theorem begin_ok (n s l f d k R : Int) (w : World) (h : Ok ⟨n, s, l, f, d⟩) (hk : 0 ≤ k) (hk2 : k ≤ 4294967296) (hR : k * s = R) : Calls Try.prog 18 #[mv ⟨n, s, l, f, d⟩, .int .u64 k] w fun r w' => r = .returned (.tuple #[.int .i64 R, .int .i64 0]) ∧ Below w.heap.size w w' := by
  have HC := hid (fun w => slot_any ⟨n, s, l, f, d⟩ k w 0 (if_pos ⟨h, hk2⟩))
  obtain ⟨h1, h2, h3, h4, h5, h6, h7, h8, h9⟩ := h
  simp only at h1 h2 h3 h4 h5 h6 h7 h8 h9
  have hb := mul_small hk hk2 (show 0 ≤ s by omega) h4
  rw [hR] at hb
  obtain ⟨hb1, hb2⟩ := hb
  go_enter Try.func18, Try.ntmps18
  go_wp2_with (first
    | (go_at_call 22; (with_reducible refine (HC.out w1).mono ?_); rintro e w2 ⟨rfl, b2⟩; have v2 := v1.keep b2; have B2 : Hid (Below w.heap.size w w2) := hid (b1.trans (b2.mono b1.size)); have c1 : w2.cell? ⟨w.heap.size, 1, none⟩ = some (.int .i64 s) := v2.c1; clear v1)
    | (refine wpList_ldm rfl (.tmp 2) rfl rfl v1 ?_)
    | (refine wpList_boxm (x := ⟨n, s, l, f, d⟩) rfl (.tmp 0) rfl rfl ?_; intro w1 v1 b1 s1))
  go_ret2
  exact ⟨rfl, B2.out⟩
theorem own_ok (n s l f d k O : Int) (w : World) (h : Ok ⟨n, s, l, f, d⟩) (hk : 0 ≤ k) (hk2 : k ≤ 4294967296) (hO : k % n = O) : Calls Try.prog 16 #[mv ⟨n, s, l, f, d⟩, .int .u64 k] w fun r w' => r = .returned (.tuple #[.int .i64 O, .int .i64 0]) ∧ Below w.heap.size w w' := by
  have HC := hid (fun w => slot_any ⟨n, s, l, f, d⟩ k w 0 (if_pos ⟨h, hk2⟩))
  have HO := hid (fun w => owner_ok n s l f d k O w h.1 h.2.1 hk hk2 hO)
  clear hO
  obtain ⟨h1, h2, h3, h4, h5, h6, h7, h8, h9⟩ := h
  simp only at h1 h2 h3 h4 h5 h6 h7 h8 h9
  go_enter Try.func16, Try.ntmps16
  go_wp2_with (first
    | (go_at_call 23; (with_reducible refine (HO.out w2).mono ?_); rintro e w3 ⟨rfl, b3⟩; have B3 : Hid (Below w.heap.size w w3) := hid (B2.out.trans (b3.mono B2.out.size)))
    | (refine wpList_ldm rfl (.tmp 2) rfl rfl v2 ?_)
    | (go_at_call 22; (with_reducible refine (HC.out w1).mono ?_); rintro e w2 ⟨rfl, b2⟩; have v2 := v1.keep b2; have B2 : Hid (Below w.heap.size w w2) := hid (b1.trans (b2.mono b1.size)); clear v1)
    | (refine wpList_ldm rfl (.tmp 2) rfl rfl v1 ?_)
    | (refine wpList_boxm (x := ⟨n, s, l, f, d⟩) rfl (.tmp 0) rfl rfl ?_; intro w1 v1 b1 s1))
  go_ret2
  exact ⟨rfl, B3.out⟩
theorem last_ok (n s l f d k O : Int) (L : Bool) (w : World) (h : Ok ⟨n, s, l, f, d⟩) (hk : 0 ≤ k) (hk2 : k ≤ 4294967296) (hO : k % n = O) (hL : (O == n - 1) = L) : Calls Try.prog 17 #[mv ⟨n, s, l, f, d⟩, .int .u64 k] w fun r w' => r = .returned (.tuple #[.bool L, .int .i64 0]) ∧ Below w.heap.size w w' := by
  have HC := hid (fun w => slot_any ⟨n, s, l, f, d⟩ k w 0 (if_pos ⟨h, hk2⟩))
  have HO := hid (fun w => owner_ok n s l f d k O w h.1 h.2.1 hk hk2 hO)
  clear hO
  obtain ⟨h1, h2, h3, h4, h5, h6, h7, h8, h9⟩ := h
  simp only at h1 h2 h3 h4 h5 h6 h7 h8 h9
  go_enter Try.func17, Try.ntmps17
  go_wp2_with (first
    | (go_at_call 22; (with_reducible refine (HC.out w1).mono ?_); rintro e w2 ⟨rfl, b2⟩; have v2 := v1.keep b2; have B2 : Hid (Below w.heap.size w w2) := hid (b1.trans (b2.mono b1.size)); clear v1)
    | (refine wpList_ldm rfl (.tmp 2) rfl rfl v1 ?_)
    | (refine wpList_boxm (x := ⟨n, s, l, f, d⟩) rfl (.tmp 0) rfl rfl ?_; intro w1 v1 b1 s1))
  have BB := hid (fun dd os => (B2.out.trans ((below_regrown w2 dd os).mono B2.out.size)))
  have T1 := hid (fun dd os => Calls.regrown_of (HO.out (Sort.grow (redrawn w2 dd) os)))
  have x0 : Hid (w2.cell? ⟨w.heap.size, 0, none⟩ = some (.int .i64 n)) := hid v2.c0
  have V := hid v2
  clear v2 HO HC
  refine wp_region_quiet_below (by kernel_rfl) (by kernel_rfl) ?_
  repeat (first | refine wpQuiet_ldm rfl rfl rfl V.out ?_ | refine wpQuiet_ldn rfl rfl rfl x0.out ?_ | quiet_step (with_reducible exact T1.out _ _))
  refine wpQuiet_nil ?_
  intro _ hw'
  obtain ⟨⟨dq, osq⟩, hw''⟩ := hw'
  subst hw''
  have HW := hid (BB.out dq osq)
  generalize Sort.grow (redrawn w2 dq) osq = w12 at *
  clear T1 x0
  go_wp2
  go_ret2
  have hwr : IntKind.i64.wrap (n - 1) = n - 1 := by rw [IntKind.wrap_i64]; omega
  refine ⟨?_, HW.out⟩
  show Ending.returned (.tuple #[.bool (O == IntKind.i64.wrap (n - 1)), .int .i64 0]) = _
  rw [hwr, hL]
/-! ### At, Off -/
theorem at_neg (n s l f d t : Int) (w : World) (h : Ok ⟨n, s, l, f, d⟩) (ht : t < 0) : Calls Try.prog 9 #[mv ⟨n, s, l, f, d⟩, .int .i64 t] w fun r w' => r = .returned (.tuple #[.int .u64 0, .int .i64 0, .int .i64 1]) ∧ Below w.heap.size w w' := by
  have HC := hid (fun w => (okE_ok h ▸ check_any ⟨n, s, l, f, d⟩ w : Calls Try.prog 15 #[mv ⟨n, s, l, f, d⟩] w fun e w' => e = .returned (.int .i64 0) ∧ Below w.heap.size w w'))
  clear h
  go_enter Try.func9, Try.ntmps9
  go_wp2_with (first
    | (go_at_call 15; (with_reducible refine (HC.out w1).mono ?_); rintro e w2 ⟨rfl, b2⟩; have v2 := v1.keep b2; have B2 : Hid (Below w.heap.size w w2) := hid (b1.trans (b2.mono b1.size)); clear v1)
    | (refine wpList_ldm rfl (.tmp 2) rfl rfl v1 ?_)
    | (refine wpList_boxm (x := ⟨n, s, l, f, d⟩) rfl (.tmp 0) rfl rfl ?_; intro w1 v1 b1 s1))
  go_ret3
  exact ⟨rfl, B2.out⟩
theorem at_over (n s l f d t q : Int) (w : World) (h : Ok ⟨n, s, l, f, d⟩) (ht : 0 ≤ t) (ht2 : t ≤ 9223372036854775807) (hq : t / s = q) (hq2 : 4294967296 < q) : Calls Try.prog 9 #[mv ⟨n, s, l, f, d⟩, .int .i64 t] w fun r w' => r = .returned (.tuple #[.int .u64 0, .int .i64 0, .int .i64 2]) ∧ Below w.heap.size w w' := by
  have HC := hid (fun w => (okE_ok h ▸ check_any ⟨n, s, l, f, d⟩ w : Calls Try.prog 15 #[mv ⟨n, s, l, f, d⟩] w fun e w' => e = .returned (.int .i64 0) ∧ Below w.heap.size w w'))
  obtain ⟨h1, h2, h3, h4, h5, h6, h7, h8, h9⟩ := h
  simp only at h1 h2 h3 h4 h5 h6 h7 h8 h9
  go_enter Try.func9, Try.ntmps9
  go_wp2_with (first
    | (go_at_call 15; (with_reducible refine (HC.out w1).mono ?_); rintro e w2 ⟨rfl, b2⟩; have v2 := v1.keep b2; have B2 : Hid (Below w.heap.size w w2) := hid (b1.trans (b2.mono b1.size)); have c1 : w2.cell? ⟨w.heap.size, 1, none⟩ = some (.int .i64 s) := v2.c1; clear v1)
    | (refine wpList_ldm rfl (.tmp 2) rfl rfl v1 ?_)
    | (refine wpList_boxm (x := ⟨n, s, l, f, d⟩) rfl (.tmp 0) rfl rfl ?_; intro w1 v1 b1 s1))
  go_ret3
  exact ⟨rfl, B2.out⟩
theorem at_ok (n s l f d t q r : Int) (w : World) (h : Ok ⟨n, s, l, f, d⟩) (ht : 0 ≤ t) (ht2 : t ≤ 9223372036854775807) (hq : t / s = q) (hr : t % s = r) (hq0 : 0 ≤ q) (hq2 : q ≤ 4294967296) : Calls Try.prog 9 #[mv ⟨n, s, l, f, d⟩, .int .i64 t] w fun e w' => e = .returned (.tuple #[.int .u64 q, .int .i64 r, .int .i64 0]) ∧ Below w.heap.size w w' := by
  have HC := hid (fun w => (okE_ok h ▸ check_any ⟨n, s, l, f, d⟩ w : Calls Try.prog 15 #[mv ⟨n, s, l, f, d⟩] w fun e w' => e = .returned (.int .i64 0) ∧ Below w.heap.size w w'))
  obtain ⟨h1, h2, h3, h4, h5, h6, h7, h8, h9⟩ := h
  simp only at h1 h2 h3 h4 h5 h6 h7 h8 h9
  go_enter Try.func9, Try.ntmps9
  go_wp2_with (first
    | (go_at_call 15; (with_reducible refine (HC.out w1).mono ?_); rintro e w2 ⟨rfl, b2⟩; have v2 := v1.keep b2; have B2 : Hid (Below w.heap.size w w2) := hid (b1.trans (b2.mono b1.size)); have c1 : w2.cell? ⟨w.heap.size, 1, none⟩ = some (.int .i64 s) := v2.c1; clear v1)
    | (refine wpList_ldm rfl (.tmp 2) rfl rfl v1 ?_)
    | (refine wpList_boxm (x := ⟨n, s, l, f, d⟩) rfl (.tmp 0) rfl rfl ?_; intro w1 v1 b1 s1))
  go_region
  go_wp2
  go_ret3
  exact ⟨ret_three rfl hr rfl, B2.out.drew⟩
theorem off_over (n s l f d t : Int) (w : World) (h : Ok ⟨n, s, l, f, d⟩) (ht : t < -9223372036854775808 + l) : Calls Try.prog 11 #[mv ⟨n, s, l, f, d⟩, .int .i64 t] w fun r w' => r = .returned (.tuple #[.int .i64 0, .bool false, .int .i64 2]) ∧ Below w.heap.size w w' := by
  have HC := hid (fun w => (okE_ok h ▸ check_any ⟨n, s, l, f, d⟩ w : Calls Try.prog 15 #[mv ⟨n, s, l, f, d⟩] w fun e w' => e = .returned (.int .i64 0) ∧ Below w.heap.size w w'))
  obtain ⟨h1, h2, h3, h4, h5, h6, h7, h8, h9⟩ := h
  simp only at h1 h2 h3 h4 h5 h6 h7 h8 h9
  go_enter Try.func11, Try.ntmps11
  go_wp2_with (first
    | (go_at_call 15; (with_reducible refine (HC.out w1).mono ?_); rintro e w2 ⟨rfl, b2⟩; have v2 := v1.keep b2; have B2 : Hid (Below w.heap.size w w2) := hid (b1.trans (b2.mono b1.size)); have c2 : w2.cell? ⟨w.heap.size, 2, none⟩ = some (.int .i64 l) := v2.c2; clear v1)
    | (refine wpList_ldm rfl (.tmp 2) rfl rfl v1 ?_)
    | (refine wpList_boxm (x := ⟨n, s, l, f, d⟩) rfl (.tmp 0) rfl rfl ?_; intro w1 v1 b1 s1))
  go_ret3
  exact ⟨rfl, B2.out⟩
theorem off_in (n s l f d t D : Int) (B : Bool) (w : World) (h : Ok ⟨n, s, l, f, d⟩) (ht : -9223372036854775808 + l ≤ t) (ht2 : t ≤ 9223372036854775807) (hD : t - l = D) (hd : decide (-d ≤ D) = true) (hB : decide (D ≤ d) = B) : Calls Try.prog 11 #[mv ⟨n, s, l, f, d⟩, .int .i64 t] w fun e w' => e = .returned (.tuple #[.int .i64 D, .bool B, .int .i64 0]) ∧ Below w.heap.size w w' := by
  have HC := hid (fun w => (okE_ok h ▸ check_any ⟨n, s, l, f, d⟩ w : Calls Try.prog 15 #[mv ⟨n, s, l, f, d⟩] w fun e w' => e = .returned (.int .i64 0) ∧ Below w.heap.size w w'))
  obtain ⟨h1, h2, h3, h4, h5, h6, h7, h8, h9⟩ := h
  simp only at h1 h2 h3 h4 h5 h6 h7 h8 h9
  go_enter Try.func11, Try.ntmps11
  go_wp2_with (first
    | (go_at_call 15; (with_reducible refine (HC.out w1).mono ?_); rintro e w2 ⟨rfl, b2⟩; have v2 := v1.keep b2; have B2 : Hid (Below w.heap.size w w2) := hid (b1.trans (b2.mono b1.size)); have c2 : w2.cell? ⟨w.heap.size, 2, none⟩ = some (.int .i64 l) := v2.c2; have c4 : w2.cell? ⟨w.heap.size, 4, none⟩ = some (.int .i64 d) := v2.c4; clear v1)
    | (refine wpList_ldm rfl (.tmp 2) rfl rfl v1 ?_)
    | (refine wpList_boxm (x := ⟨n, s, l, f, d⟩) rfl (.tmp 0) rfl rfl ?_; intro w1 v1 b1 s1))
  go_region
  go_wp2
  go_ret3
  exact ⟨rfl, B2.out.drew⟩
theorem off_early (n s l f d t D : Int) (w : World) (h : Ok ⟨n, s, l, f, d⟩) (ht : -9223372036854775808 + l ≤ t) (ht2 : t ≤ 9223372036854775807) (hD : t - l = D) (hd : decide (-d ≤ D) = false) : Calls Try.prog 11 #[mv ⟨n, s, l, f, d⟩, .int .i64 t] w fun e w' => e = .returned (.tuple #[.int .i64 D, .bool false, .int .i64 0]) ∧ Below w.heap.size w w' := by
  have HC := hid (fun w => (okE_ok h ▸ check_any ⟨n, s, l, f, d⟩ w : Calls Try.prog 15 #[mv ⟨n, s, l, f, d⟩] w fun e w' => e = .returned (.int .i64 0) ∧ Below w.heap.size w w'))
  obtain ⟨h1, h2, h3, h4, h5, h6, h7, h8, h9⟩ := h
  simp only at h1 h2 h3 h4 h5 h6 h7 h8 h9
  go_enter Try.func11, Try.ntmps11
  go_wp2_with (first
    | (go_at_call 15; (with_reducible refine (HC.out w1).mono ?_); rintro e w2 ⟨rfl, b2⟩; have v2 := v1.keep b2; have B2 : Hid (Below w.heap.size w w2) := hid (b1.trans (b2.mono b1.size)); have c2 : w2.cell? ⟨w.heap.size, 2, none⟩ = some (.int .i64 l) := v2.c2; have c4 : w2.cell? ⟨w.heap.size, 4, none⟩ = some (.int .i64 d) := v2.c4; clear v1)
    | (refine wpList_ldm rfl (.tmp 2) rfl rfl v1 ?_)
    | (refine wpList_boxm (x := ⟨n, s, l, f, d⟩) rfl (.tmp 0) rfl rfl ?_; intro w1 v1 b1 s1))
  go_region
  go_wp2
  go_ret3
  exact ⟨rfl, B2.out.drew⟩
/-! ### Next -/
theorem next_node (n s l f d k m : Int) (w : World) (h : Ok ⟨n, s, l, f, d⟩) (hk2 : k ≤ 4294967296) (hm : (decide (m < 0) || decide (n ≤ m)) = true) : Calls Try.prog 13 #[mv ⟨n, s, l, f, d⟩, .int .u64 k, .int .i64 m] w fun r w' => r = .returned (.tuple #[.int .u64 0, .int .i64 1]) ∧ Below w.heap.size w w' := by
  have HC := hid (fun w => slot_any ⟨n, s, l, f, d⟩ k w 0 (if_pos ⟨h, hk2⟩))
  clear h
  go_enter Try.func13, Try.ntmps13
  go_wp2_with (first
    | (go_at_call 22; (with_reducible refine (HC.out w1).mono ?_); rintro e w2 ⟨rfl, b2⟩; have v2 := v1.keep b2; have B2 : Hid (Below w.heap.size w w2) := hid (b1.trans (b2.mono b1.size)); have c0 : w2.cell? ⟨w.heap.size, 0, none⟩ = some (.int .i64 n) := v2.c0; clear v1)
    | (refine wpList_ldm rfl (.tmp 3) rfl rfl v1 ?_)
    | (refine wpList_boxm (x := ⟨n, s, l, f, d⟩) rfl (.tmp 0) rfl rfl ?_; intro w1 v1 b1 s1))
  all_goals
    go_ret2
    exact ⟨rfl, B2.out⟩
theorem next_own_ok (n s l f d k m O N : Int) (w : World) (h : Ok ⟨n, s, l, f, d⟩) (hk : 0 ≤ k) (hk2 : k ≤ 4294967296) (hm : 0 ≤ m) (hm2 : m < n) (hO : k % n = O) (hA : m - O ≤ 0) (hN : k + (m - O + n) = N) (hN2 : N ≤ 4294967296) : Calls Try.prog 13 #[mv ⟨n, s, l, f, d⟩, .int .u64 k, .int .i64 m] w fun r w' => r = .returned (.tuple #[.int .u64 N, .int .i64 0]) ∧ Below w.heap.size w w' := by
  have HC := hid (fun w => slot_any ⟨n, s, l, f, d⟩ k w 0 (if_pos ⟨h, hk2⟩))
  have HO := hid (fun w => owner_ok n s l f d k O w h.1 h.2.1 hk hk2 hO)
  obtain ⟨h1, h2, h3, h4, h5, h6, h7, h8, h9⟩ := h
  simp only at h1 h2 h3 h4 h5 h6 h7 h8 h9
  have o1 := Int.emod_nonneg k (show n ≠ 0 by omega)
  have o2 := Int.emod_lt_of_pos k (show 0 < n by omega)
  rw [hO] at o1 o2
  clear hO
  go_enter Try.func13, Try.ntmps13
  go_wp2_with (first
    | (go_at_call 23; (with_reducible refine (HO.out w2).mono ?_); rintro e w3 ⟨rfl, b3⟩; have v3 := v2.keep b3; have B3 : Hid (Below w.heap.size w w3) := hid (B2.out.trans (b3.mono B2.out.size)); have e0 : w3.cell? ⟨w.heap.size, 0, none⟩ = some (.int .i64 n) := v3.c0; clear v2 c0)
    | (refine wpList_ldm rfl (.tmp 3) rfl rfl v2 ?_)
    | (go_at_call 22; (with_reducible refine (HC.out w1).mono ?_); rintro e w2 ⟨rfl, b2⟩; have v2 := v1.keep b2; have B2 : Hid (Below w.heap.size w w2) := hid (b1.trans (b2.mono b1.size)); have c0 : w2.cell? ⟨w.heap.size, 0, none⟩ = some (.int .i64 n) := v2.c0; clear v1)
    | (refine wpList_ldm rfl (.tmp 3) rfl rfl v1 ?_)
    | (refine wpList_boxm (x := ⟨n, s, l, f, d⟩) rfl (.tmp 0) rfl rfl ?_; intro w1 v1 b1 s1))
  go_ret2
  exact ⟨by first | rfl | exact ret_two (by omega) rfl, B3.out⟩
theorem next_own_over (n s l f d k m O N : Int) (w : World) (h : Ok ⟨n, s, l, f, d⟩) (hk : 0 ≤ k) (hk2 : k ≤ 4294967296) (hm : 0 ≤ m) (hm2 : m < n) (hO : k % n = O) (hA : m - O ≤ 0) (hN : k + (m - O + n) = N) (hN2 : 4294967296 < N) : Calls Try.prog 13 #[mv ⟨n, s, l, f, d⟩, .int .u64 k, .int .i64 m] w fun r w' => r = .returned (.tuple #[.int .u64 0, .int .i64 2]) ∧ Below w.heap.size w w' := by
  have HC := hid (fun w => slot_any ⟨n, s, l, f, d⟩ k w 0 (if_pos ⟨h, hk2⟩))
  have HO := hid (fun w => owner_ok n s l f d k O w h.1 h.2.1 hk hk2 hO)
  obtain ⟨h1, h2, h3, h4, h5, h6, h7, h8, h9⟩ := h
  simp only at h1 h2 h3 h4 h5 h6 h7 h8 h9
  have o1 := Int.emod_nonneg k (show n ≠ 0 by omega)
  have o2 := Int.emod_lt_of_pos k (show 0 < n by omega)
  rw [hO] at o1 o2
  clear hO
  go_enter Try.func13, Try.ntmps13
  go_wp2_with (first
    | (go_at_call 23; (with_reducible refine (HO.out w2).mono ?_); rintro e w3 ⟨rfl, b3⟩; have v3 := v2.keep b3; have B3 : Hid (Below w.heap.size w w3) := hid (B2.out.trans (b3.mono B2.out.size)); have e0 : w3.cell? ⟨w.heap.size, 0, none⟩ = some (.int .i64 n) := v3.c0; clear v2 c0)
    | (refine wpList_ldm rfl (.tmp 3) rfl rfl v2 ?_)
    | (go_at_call 22; (with_reducible refine (HC.out w1).mono ?_); rintro e w2 ⟨rfl, b2⟩; have v2 := v1.keep b2; have B2 : Hid (Below w.heap.size w w2) := hid (b1.trans (b2.mono b1.size)); have c0 : w2.cell? ⟨w.heap.size, 0, none⟩ = some (.int .i64 n) := v2.c0; clear v1)
    | (refine wpList_ldm rfl (.tmp 3) rfl rfl v1 ?_)
    | (refine wpList_boxm (x := ⟨n, s, l, f, d⟩) rfl (.tmp 0) rfl rfl ?_; intro w1 v1 b1 s1))
  go_ret2
  exact ⟨by first | rfl | exact ret_two (by omega) rfl, B3.out⟩
theorem next_ahead_ok (n s l f d k m O N : Int) (w : World) (h : Ok ⟨n, s, l, f, d⟩) (hk : 0 ≤ k) (hk2 : k ≤ 4294967296) (hm : 0 ≤ m) (hm2 : m < n) (hO : k % n = O) (hA : 0 < m - O) (hN : k + (m - O) = N) (hN2 : N ≤ 4294967296) : Calls Try.prog 13 #[mv ⟨n, s, l, f, d⟩, .int .u64 k, .int .i64 m] w fun r w' => r = .returned (.tuple #[.int .u64 N, .int .i64 0]) ∧ Below w.heap.size w w' := by
  have HC := hid (fun w => slot_any ⟨n, s, l, f, d⟩ k w 0 (if_pos ⟨h, hk2⟩))
  have HO := hid (fun w => owner_ok n s l f d k O w h.1 h.2.1 hk hk2 hO)
  obtain ⟨h1, h2, h3, h4, h5, h6, h7, h8, h9⟩ := h
  simp only at h1 h2 h3 h4 h5 h6 h7 h8 h9
  have o1 := Int.emod_nonneg k (show n ≠ 0 by omega)
  have o2 := Int.emod_lt_of_pos k (show 0 < n by omega)
  rw [hO] at o1 o2
  clear hO
  go_enter Try.func13, Try.ntmps13
  go_wp2_with (first
    | (go_at_call 23; (with_reducible refine (HO.out w2).mono ?_); rintro e w3 ⟨rfl, b3⟩; have v3 := v2.keep b3; have B3 : Hid (Below w.heap.size w w3) := hid (B2.out.trans (b3.mono B2.out.size)); have e0 : w3.cell? ⟨w.heap.size, 0, none⟩ = some (.int .i64 n) := v3.c0; clear v2 c0)
    | (refine wpList_ldm rfl (.tmp 3) rfl rfl v2 ?_)
    | (go_at_call 22; (with_reducible refine (HC.out w1).mono ?_); rintro e w2 ⟨rfl, b2⟩; have v2 := v1.keep b2; have B2 : Hid (Below w.heap.size w w2) := hid (b1.trans (b2.mono b1.size)); have c0 : w2.cell? ⟨w.heap.size, 0, none⟩ = some (.int .i64 n) := v2.c0; clear v1)
    | (refine wpList_ldm rfl (.tmp 3) rfl rfl v1 ?_)
    | (refine wpList_boxm (x := ⟨n, s, l, f, d⟩) rfl (.tmp 0) rfl rfl ?_; intro w1 v1 b1 s1))
  go_ret2
  exact ⟨by first | rfl | exact ret_two (by omega) rfl, B3.out⟩
theorem next_ahead_over (n s l f d k m O N : Int) (w : World) (h : Ok ⟨n, s, l, f, d⟩) (hk : 0 ≤ k) (hk2 : k ≤ 4294967296) (hm : 0 ≤ m) (hm2 : m < n) (hO : k % n = O) (hA : 0 < m - O) (hN : k + (m - O) = N) (hN2 : 4294967296 < N) : Calls Try.prog 13 #[mv ⟨n, s, l, f, d⟩, .int .u64 k, .int .i64 m] w fun r w' => r = .returned (.tuple #[.int .u64 0, .int .i64 2]) ∧ Below w.heap.size w w' := by
  have HC := hid (fun w => slot_any ⟨n, s, l, f, d⟩ k w 0 (if_pos ⟨h, hk2⟩))
  have HO := hid (fun w => owner_ok n s l f d k O w h.1 h.2.1 hk hk2 hO)
  obtain ⟨h1, h2, h3, h4, h5, h6, h7, h8, h9⟩ := h
  simp only at h1 h2 h3 h4 h5 h6 h7 h8 h9
  have o1 := Int.emod_nonneg k (show n ≠ 0 by omega)
  have o2 := Int.emod_lt_of_pos k (show 0 < n by omega)
  rw [hO] at o1 o2
  clear hO
  go_enter Try.func13, Try.ntmps13
  go_wp2_with (first
    | (go_at_call 23; (with_reducible refine (HO.out w2).mono ?_); rintro e w3 ⟨rfl, b3⟩; have v3 := v2.keep b3; have B3 : Hid (Below w.heap.size w w3) := hid (B2.out.trans (b3.mono B2.out.size)); have e0 : w3.cell? ⟨w.heap.size, 0, none⟩ = some (.int .i64 n) := v3.c0; clear v2 c0)
    | (refine wpList_ldm rfl (.tmp 3) rfl rfl v2 ?_)
    | (go_at_call 22; (with_reducible refine (HC.out w1).mono ?_); rintro e w2 ⟨rfl, b2⟩; have v2 := v1.keep b2; have B2 : Hid (Below w.heap.size w w2) := hid (b1.trans (b2.mono b1.size)); have c0 : w2.cell? ⟨w.heap.size, 0, none⟩ = some (.int .i64 n) := v2.c0; clear v1)
    | (refine wpList_ldm rfl (.tmp 3) rfl rfl v1 ?_)
    | (refine wpList_boxm (x := ⟨n, s, l, f, d⟩) rfl (.tmp 0) rfl rfl ?_; intro w1 v1 b1 s1))
  go_ret2
  exact ⟨by first | rfl | exact ret_two (by omega) rfl, B3.out⟩
end Go.Proofs.Ytjnfckhfgpbbiaa
