/-
  medl's functions: checkSlot, owner, Round, Owner, Begin, Last, At, Off, Next: what each answers, at every schedule and number.
-/
import Derived.Test.YtpncbfhbiifncaaC
import Derived.Lib.QuietBelow
namespace Go.Proofs.Ytpncbfhbiifncaa
open Go Go.RowKit
theorem okE_ok {x : Md} (h : Ok x) : okE x = 0 := if_pos h
theorem okE_bad {x : Md} (h : ¬ Ok x) : okE x = 1 := if_neg h
/-- The worlds of a quiet region: what was there is as it was. -/
def Cl (w w' : World) : Prop := ∃ p : Regrown, w' = Sort.grow (redrawn w p.d) p.os
theorem Cl.below {w w' : World} (h : Cl w w') : Below w.heap.size w w' := by obtain ⟨p, rfl⟩ := h; exact below_regrown w p.d p.os
/-- Loads of a schedule and of a number in a quiet region. -/
theorem wpQuiet_ldm {ops : Array Oper} {w : World} {Q : Act → Prop} {o : Oper} {rest : List Oper} {a : Act} {y : Operand} {g : Nat} {x : Md} (hw : Region.wanted o (yielded ops a.tmps) = true) (ho : o.op = .load 26 y)
    (hx : a.eval y = .pointer (some ⟨g, 0, none⟩)) (hr : VarM w g x) (h : wpQuiet Try.prog ops (fun w' => ∃ p : Regrown, w' = Sort.grow (redrawn w p.d) p.os) Q rest (a.put o.dst (mv x))) : wpQuiet Try.prog ops (fun w' => ∃ p : Regrown, w' = Sort.grow (redrawn w p.d) p.os) Q (o :: rest) a := by
  unfold wpQuiet
  rw [if_pos hw]
  refine ⟨mv x, fun w' hw' => ?_, h⟩
  unfold Oper.quietAt
  have : (execOp a.eval o).run Try.prog w' = .ok (.value (mv x)) w' := by
    unfold execOp
    have := ldmv (hr.keep (Cl.below hw'))
    simp only [ho, hx, Instr.loadAt, Instr.sureAddr, Sem.run_bind, Sem.run_pure, Result.andThen_ok, this]
  rw [this]
  exact ⟨rfl, rfl⟩
theorem wpQuiet_ldn {ops : Array Oper} {w : World} {Q : Act → Prop} {o : Oper} {rest : List Oper} {a : Act} {y : Operand} {p : Addr} {v : Value} (hw : Region.wanted o (yielded ops a.tmps) = true) (ho : o.op = .load 3 y)
    (hx : a.eval y = .pointer (some p)) (hr : w.cell? p = some v) (h : wpQuiet Try.prog ops (fun w' => ∃ p : Regrown, w' = Sort.grow (redrawn w p.d) p.os) Q rest (a.put o.dst v)) : wpQuiet Try.prog ops (fun w' => ∃ p : Regrown, w' = Sort.grow (redrawn w p.d) p.os) Q (o :: rest) a := by
  unfold wpQuiet
  rw [if_pos hw]
  refine ⟨v, fun w' hw' => ?_, h⟩
  unfold Oper.quietAt
  have hc : w'.cell? p = some v := by obtain ⟨q, rfl⟩ := hw'; exact cell_regrown hr q.d q.os
  have : (execOp a.eval o).run Try.prog w' = .ok (.value v) w' := by
    unfold execOp
    simp [ho, hx, Instr.loadAt, Instr.sureAddr, loadVar, Try.isAgg3, hc]
  rw [this]
  exact ⟨rfl, rfl⟩

/-! ### checkSlot, owner -/
theorem slot_any (x : Md) (k : Int) (w : World) (e : Int) (he : (if Ok x ∧ k ≤ 4294967296 then (0 : Int) else 1) = e) : Calls Try.prog 25 #[mv x, .int .u64 k] w fun r w' => r = .returned (.int .i64 e) ∧ Below w.heap.size w w' := by
  by_cases hk : Ok x
  · have HC := hid (fun w => (okE_ok hk ▸ check_any x w : Calls Try.prog 12 #[mv x] w fun e w' => e = .returned (.int .i64 0) ∧ Below w.heap.size w w'))
    by_cases h4 : k ≤ 4294967296
    · rw [if_pos ⟨hk, h4⟩] at he
      subst he
      clear hk
      have h4' : decide (4294967296 < k) = false := by simp; omega
      clear h4
      go_enter Try.func25, Try.ntmps25
      go_wp2_with (first
        | (go_at_call 12; (with_reducible refine (HC.out w1).mono ?_); rintro e w2 ⟨rfl, b2⟩; have B2 : Hid (Below w.heap.size w w2) := hid (b1.trans (b2.mono b1.size)))
        | (refine wpList_ldm rfl (.tmp 2) rfl rfl v1 ?_)
        | (refine wpList_boxm (x := x) rfl (.tmp 0) rfl rfl ?_; intro w1 v1 b1 s1))
      go_ret
      exact ⟨rfl, B2.out⟩
    · rw [if_neg (by intro h; exact h4 h.2)] at he
      subst he
      clear hk
      have h4' : decide (4294967296 < k) = true := by simp; omega
      clear h4
      go_enter Try.func25, Try.ntmps25
      go_wp2_with (first
        | (go_at_call 12; (with_reducible refine (HC.out w1).mono ?_); rintro e w2 ⟨rfl, b2⟩; have B2 : Hid (Below w.heap.size w w2) := hid (b1.trans (b2.mono b1.size)))
        | (refine wpList_ldm rfl (.tmp 2) rfl rfl v1 ?_)
        | (refine wpList_boxm (x := x) rfl (.tmp 0) rfl rfl ?_; intro w1 v1 b1 s1))
      go_ret
      exact ⟨rfl, B2.out⟩
  · have HC := hid (fun w => (okE_bad hk ▸ check_any x w : Calls Try.prog 12 #[mv x] w fun e w' => e = .returned (.int .i64 1) ∧ Below w.heap.size w w'))
    rw [if_neg (by intro h; exact hk h.1)] at he
    subst he
    clear hk
    go_enter Try.func25, Try.ntmps25
    go_wp2_with (first
      | (go_at_call 12; (with_reducible refine (HC.out w1).mono ?_); rintro e w2 ⟨rfl, b2⟩; have B2 : Hid (Below w.heap.size w w2) := hid (b1.trans (b2.mono b1.size)))
      | (refine wpList_ldm rfl (.tmp 2) rfl rfl v1 ?_)
      | (refine wpList_boxm (x := x) rfl (.tmp 0) rfl rfl ?_; intro w1 v1 b1 s1))
    go_ret
    exact ⟨rfl, B2.out⟩
theorem owner_ok (n s l f d k O : Int) (w : World) (h1 : 2 ≤ n) (h2 : n ≤ 16) (hk : 0 ≤ k) (hk2 : k ≤ 4294967296) (hO : k % n = O) : Calls Try.prog 26 #[mv ⟨n, s, l, f, d⟩, .int .u64 k] w fun r w' => r = .returned (.int .i64 O) ∧ Below w.heap.size w w' := by
  have a1 := Int.emod_nonneg k (show n ≠ 0 by omega)
  have a2 := Int.emod_lt_of_pos k (show 0 < n by omega)
  rw [hO] at a1 a2
  go_enter Try.func26, Try.ntmps26
  go_wp2_with (first
    | (refine wpList_boxm (x := ⟨n, s, l, f, d⟩) rfl (.tmp 0) rfl rfl ?_; intro w1 v1 b1 s1; have c0 : w1.cell? ⟨w.heap.size, 0, none⟩ = some (.int .i64 n) := v1.c0))
  go_ret
  exact ⟨ret_int (by first | exact hO | rfl | omega), b1⟩
/-! ### What may not be -/
theorem own_bad (x : Md) (k : Int) (w : World) (h : ¬ (Ok x ∧ k ≤ 4294967296)) : Calls Try.prog 13 #[mv x, .int .u64 k] w fun r w' => r = .returned (.tuple #[.int .i64 0, .int .i64 1]) ∧ Below w.heap.size w w' := by
  have HC := hid (fun w => slot_any x k w 1 (if_neg h))
  clear h
  go_enter Try.func13, Try.ntmps13
  go_wp2_with (first
    | (go_at_call 25; (with_reducible refine (HC.out w1).mono ?_); rintro e w2 ⟨rfl, b2⟩; have B2 : Hid (Below w.heap.size w w2) := hid (b1.trans (b2.mono b1.size)))
    | (refine wpList_ldm rfl (.tmp 2) rfl rfl v1 ?_)
    | (refine wpList_boxm (x := x) rfl (.tmp 0) rfl rfl ?_; intro w1 v1 b1 s1))
  go_ret2
  exact ⟨rfl, B2.out⟩
theorem next_bad (x : Md) (k m : Int) (w : World) (h : ¬ (Ok x ∧ k ≤ 4294967296)) : Calls Try.prog 18 #[mv x, .int .u64 k, .int .i64 m] w fun r w' => r = .returned (.tuple #[.int .u64 0, .int .i64 1]) ∧ Below w.heap.size w w' := by
  have HC := hid (fun w => slot_any x k w 1 (if_neg h))
  clear h
  go_enter Try.func18, Try.ntmps18
  go_wp2_with (first
    | (go_at_call 25; (with_reducible refine (HC.out w1).mono ?_); rintro e w2 ⟨rfl, b2⟩; have B2 : Hid (Below w.heap.size w w2) := hid (b1.trans (b2.mono b1.size)))
    | (refine wpList_ldm rfl (.tmp 3) rfl rfl v1 ?_)
    | (refine wpList_boxm (x := x) rfl (.tmp 0) rfl rfl ?_; intro w1 v1 b1 s1))
  go_ret2
  exact ⟨rfl, B2.out⟩
theorem mul_le {a b A B : Int} (ha : 0 ≤ a) (hA : a ≤ A) (hb : 0 ≤ b) (hB : b ≤ B) : 0 ≤ a * b ∧ a * b ≤ A * B := ⟨Int.mul_nonneg ha hb, Int.mul_le_mul hA hB hb (by omega)⟩
theorem own_ok (n s l f d k O : Int) (w : World) (h : Ok ⟨n, s, l, f, d⟩) (hk : 0 ≤ k) (hk2 : k ≤ 4294967296) (hO : k % n = O) : Calls Try.prog 13 #[mv ⟨n, s, l, f, d⟩, .int .u64 k] w fun r w' => r = .returned (.tuple #[.int .i64 O, .int .i64 0]) ∧ Below w.heap.size w w' := by
  have HC := hid (fun w => slot_any ⟨n, s, l, f, d⟩ k w 0 (if_pos ⟨h, hk2⟩))
  have HO := hid (fun w => owner_ok n s l f d k O w h.1 h.2.1 hk hk2 hO)
  clear hO
  obtain ⟨h1, h2, h3, h4, h5, h6, h7, h8, h9⟩ := h
  simp only at h1 h2 h3 h4 h5 h6 h7 h8 h9
  go_enter Try.func13, Try.ntmps13
  go_wp2_with (first
    | (go_at_call 26; (with_reducible refine (HO.out w2).mono ?_); rintro e w3 ⟨rfl, b3⟩; have B3 : Hid (Below w.heap.size w w3) := hid (B2.out.trans (b3.mono B2.out.size)))
    | (refine wpList_ldm rfl (.tmp 2) rfl rfl v2 ?_)
    | (go_at_call 25; (with_reducible refine (HC.out w1).mono ?_); rintro e w2 ⟨rfl, b2⟩; have v2 := v1.keep b2; have B2 : Hid (Below w.heap.size w w2) := hid (b1.trans (b2.mono b1.size)); clear v1)
    | (refine wpList_ldm rfl (.tmp 2) rfl rfl v1 ?_)
    | (refine wpList_boxm (x := ⟨n, s, l, f, d⟩) rfl (.tmp 0) rfl rfl ?_; intro w1 v1 b1 s1))
  go_ret2
  exact ⟨rfl, B3.out⟩
theorem next_node (n s l f d k m : Int) (w : World) (h : Ok ⟨n, s, l, f, d⟩) (hk2 : k ≤ 4294967296) (hm : (decide (m < 0) || decide (n ≤ m)) = true) : Calls Try.prog 18 #[mv ⟨n, s, l, f, d⟩, .int .u64 k, .int .i64 m] w fun r w' => r = .returned (.tuple #[.int .u64 0, .int .i64 1]) ∧ Below w.heap.size w w' := by
  have HC := hid (fun w => slot_any ⟨n, s, l, f, d⟩ k w 0 (if_pos ⟨h, hk2⟩))
  clear h
  go_enter Try.func18, Try.ntmps18
  go_wp2_with (first
    | (go_at_call 25; (with_reducible refine (HC.out w1).mono ?_); rintro e w2 ⟨rfl, b2⟩; have v2 := v1.keep b2; have B2 : Hid (Below w.heap.size w w2) := hid (b1.trans (b2.mono b1.size)); have c0 : w2.cell? ⟨w.heap.size, 0, none⟩ = some (.int .i64 n) := v2.c0; clear v1)
    | (refine wpList_ldm rfl (.tmp 3) rfl rfl v1 ?_)
    | (refine wpList_boxm (x := ⟨n, s, l, f, d⟩) rfl (.tmp 0) rfl rfl ?_; intro w1 v1 b1 s1))
  all_goals
    go_ret2
    exact ⟨rfl, B2.out⟩
theorem next_own_ok (n s l f d k m O N : Int) (w : World) (h : Ok ⟨n, s, l, f, d⟩) (hk : 0 ≤ k) (hk2 : k ≤ 4294967296) (hm : 0 ≤ m) (hm2 : m < n) (hO : k % n = O) (hA : m - O ≤ 0) (hN : k + (m - O + n) = N) (hN2 : N ≤ 4294967296) : Calls Try.prog 18 #[mv ⟨n, s, l, f, d⟩, .int .u64 k, .int .i64 m] w fun r w' => r = .returned (.tuple #[.int .u64 N, .int .i64 0]) ∧ Below w.heap.size w w' := by
  have HC := hid (fun w => slot_any ⟨n, s, l, f, d⟩ k w 0 (if_pos ⟨h, hk2⟩))
  have HO := hid (fun w => owner_ok n s l f d k O w h.1 h.2.1 hk hk2 hO)
  obtain ⟨h1, h2, h3, h4, h5, h6, h7, h8, h9⟩ := h
  simp only at h1 h2 h3 h4 h5 h6 h7 h8 h9
  have o1 := Int.emod_nonneg k (show n ≠ 0 by omega)
  have o2 := Int.emod_lt_of_pos k (show 0 < n by omega)
  rw [hO] at o1 o2
  clear hO
  go_enter Try.func18, Try.ntmps18
  go_wp2_with (first
    | (go_at_call 26; (with_reducible refine (HO.out w2).mono ?_); rintro e w3 ⟨rfl, b3⟩; have v3 := v2.keep b3; have B3 : Hid (Below w.heap.size w w3) := hid (B2.out.trans (b3.mono B2.out.size)); have e0 : w3.cell? ⟨w.heap.size, 0, none⟩ = some (.int .i64 n) := v3.c0; clear v2 c0)
    | (refine wpList_ldm rfl (.tmp 3) rfl rfl v2 ?_)
    | (go_at_call 25; (with_reducible refine (HC.out w1).mono ?_); rintro e w2 ⟨rfl, b2⟩; have v2 := v1.keep b2; have B2 : Hid (Below w.heap.size w w2) := hid (b1.trans (b2.mono b1.size)); have c0 : w2.cell? ⟨w.heap.size, 0, none⟩ = some (.int .i64 n) := v2.c0; clear v1)
    | (refine wpList_ldm rfl (.tmp 3) rfl rfl v1 ?_)
    | (refine wpList_boxm (x := ⟨n, s, l, f, d⟩) rfl (.tmp 0) rfl rfl ?_; intro w1 v1 b1 s1))
  go_ret2
  exact ⟨by first | rfl | exact ret_two (by omega) rfl, B3.out⟩
theorem next_own_over (n s l f d k m O N : Int) (w : World) (h : Ok ⟨n, s, l, f, d⟩) (hk : 0 ≤ k) (hk2 : k ≤ 4294967296) (hm : 0 ≤ m) (hm2 : m < n) (hO : k % n = O) (hA : m - O ≤ 0) (hN : k + (m - O + n) = N) (hN2 : 4294967296 < N) : Calls Try.prog 18 #[mv ⟨n, s, l, f, d⟩, .int .u64 k, .int .i64 m] w fun r w' => r = .returned (.tuple #[.int .u64 0, .int .i64 2]) ∧ Below w.heap.size w w' := by
  have HC := hid (fun w => slot_any ⟨n, s, l, f, d⟩ k w 0 (if_pos ⟨h, hk2⟩))
  have HO := hid (fun w => owner_ok n s l f d k O w h.1 h.2.1 hk hk2 hO)
  obtain ⟨h1, h2, h3, h4, h5, h6, h7, h8, h9⟩ := h
  simp only at h1 h2 h3 h4 h5 h6 h7 h8 h9
  have o1 := Int.emod_nonneg k (show n ≠ 0 by omega)
  have o2 := Int.emod_lt_of_pos k (show 0 < n by omega)
  rw [hO] at o1 o2
  clear hO
  go_enter Try.func18, Try.ntmps18
  go_wp2_with (first
    | (go_at_call 26; (with_reducible refine (HO.out w2).mono ?_); rintro e w3 ⟨rfl, b3⟩; have v3 := v2.keep b3; have B3 : Hid (Below w.heap.size w w3) := hid (B2.out.trans (b3.mono B2.out.size)); have e0 : w3.cell? ⟨w.heap.size, 0, none⟩ = some (.int .i64 n) := v3.c0; clear v2 c0)
    | (refine wpList_ldm rfl (.tmp 3) rfl rfl v2 ?_)
    | (go_at_call 25; (with_reducible refine (HC.out w1).mono ?_); rintro e w2 ⟨rfl, b2⟩; have v2 := v1.keep b2; have B2 : Hid (Below w.heap.size w w2) := hid (b1.trans (b2.mono b1.size)); have c0 : w2.cell? ⟨w.heap.size, 0, none⟩ = some (.int .i64 n) := v2.c0; clear v1)
    | (refine wpList_ldm rfl (.tmp 3) rfl rfl v1 ?_)
    | (refine wpList_boxm (x := ⟨n, s, l, f, d⟩) rfl (.tmp 0) rfl rfl ?_; intro w1 v1 b1 s1))
  go_ret2
  exact ⟨by first | rfl | exact ret_two (by omega) rfl, B3.out⟩
theorem next_ahead_ok (n s l f d k m O N : Int) (w : World) (h : Ok ⟨n, s, l, f, d⟩) (hk : 0 ≤ k) (hk2 : k ≤ 4294967296) (hm : 0 ≤ m) (hm2 : m < n) (hO : k % n = O) (hA : 0 < m - O) (hN : k + (m - O) = N) (hN2 : N ≤ 4294967296) : Calls Try.prog 18 #[mv ⟨n, s, l, f, d⟩, .int .u64 k, .int .i64 m] w fun r w' => r = .returned (.tuple #[.int .u64 N, .int .i64 0]) ∧ Below w.heap.size w w' := by
  have HC := hid (fun w => slot_any ⟨n, s, l, f, d⟩ k w 0 (if_pos ⟨h, hk2⟩))
  have HO := hid (fun w => owner_ok n s l f d k O w h.1 h.2.1 hk hk2 hO)
  obtain ⟨h1, h2, h3, h4, h5, h6, h7, h8, h9⟩ := h
  simp only at h1 h2 h3 h4 h5 h6 h7 h8 h9
  have o1 := Int.emod_nonneg k (show n ≠ 0 by omega)
  have o2 := Int.emod_lt_of_pos k (show 0 < n by omega)
  rw [hO] at o1 o2
  clear hO
  go_enter Try.func18, Try.ntmps18
  go_wp2_with (first
    | (go_at_call 26; (with_reducible refine (HO.out w2).mono ?_); rintro e w3 ⟨rfl, b3⟩; have v3 := v2.keep b3; have B3 : Hid (Below w.heap.size w w3) := hid (B2.out.trans (b3.mono B2.out.size)); have e0 : w3.cell? ⟨w.heap.size, 0, none⟩ = some (.int .i64 n) := v3.c0; clear v2 c0)
    | (refine wpList_ldm rfl (.tmp 3) rfl rfl v2 ?_)
    | (go_at_call 25; (with_reducible refine (HC.out w1).mono ?_); rintro e w2 ⟨rfl, b2⟩; have v2 := v1.keep b2; have B2 : Hid (Below w.heap.size w w2) := hid (b1.trans (b2.mono b1.size)); have c0 : w2.cell? ⟨w.heap.size, 0, none⟩ = some (.int .i64 n) := v2.c0; clear v1)
    | (refine wpList_ldm rfl (.tmp 3) rfl rfl v1 ?_)
    | (refine wpList_boxm (x := ⟨n, s, l, f, d⟩) rfl (.tmp 0) rfl rfl ?_; intro w1 v1 b1 s1))
  go_ret2
  exact ⟨by first | rfl | exact ret_two (by omega) rfl, B3.out⟩
theorem next_ahead_over (n s l f d k m O N : Int) (w : World) (h : Ok ⟨n, s, l, f, d⟩) (hk : 0 ≤ k) (hk2 : k ≤ 4294967296) (hm : 0 ≤ m) (hm2 : m < n) (hO : k % n = O) (hA : 0 < m - O) (hN : k + (m - O) = N) (hN2 : 4294967296 < N) : Calls Try.prog 18 #[mv ⟨n, s, l, f, d⟩, .int .u64 k, .int .i64 m] w fun r w' => r = .returned (.tuple #[.int .u64 0, .int .i64 2]) ∧ Below w.heap.size w w' := by
  have HC := hid (fun w => slot_any ⟨n, s, l, f, d⟩ k w 0 (if_pos ⟨h, hk2⟩))
  have HO := hid (fun w => owner_ok n s l f d k O w h.1 h.2.1 hk hk2 hO)
  obtain ⟨h1, h2, h3, h4, h5, h6, h7, h8, h9⟩ := h
  simp only at h1 h2 h3 h4 h5 h6 h7 h8 h9
  have o1 := Int.emod_nonneg k (show n ≠ 0 by omega)
  have o2 := Int.emod_lt_of_pos k (show 0 < n by omega)
  rw [hO] at o1 o2
  clear hO
  go_enter Try.func18, Try.ntmps18
  go_wp2_with (first
    | (go_at_call 26; (with_reducible refine (HO.out w2).mono ?_); rintro e w3 ⟨rfl, b3⟩; have v3 := v2.keep b3; have B3 : Hid (Below w.heap.size w w3) := hid (B2.out.trans (b3.mono B2.out.size)); have e0 : w3.cell? ⟨w.heap.size, 0, none⟩ = some (.int .i64 n) := v3.c0; clear v2 c0)
    | (refine wpList_ldm rfl (.tmp 3) rfl rfl v2 ?_)
    | (go_at_call 25; (with_reducible refine (HC.out w1).mono ?_); rintro e w2 ⟨rfl, b2⟩; have v2 := v1.keep b2; have B2 : Hid (Below w.heap.size w w2) := hid (b1.trans (b2.mono b1.size)); have c0 : w2.cell? ⟨w.heap.size, 0, none⟩ = some (.int .i64 n) := v2.c0; clear v1)
    | (refine wpList_ldm rfl (.tmp 3) rfl rfl v1 ?_)
    | (refine wpList_boxm (x := ⟨n, s, l, f, d⟩) rfl (.tmp 0) rfl rfl ?_; intro w1 v1 b1 s1))
  go_ret2
  exact ⟨by first | rfl | exact ret_two (by omega) rfl, B3.out⟩
end Go.Proofs.Ytpncbfhbiifncaa
