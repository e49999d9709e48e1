/-
  The walk of HeapTotal: at any three things it answers true.
-/
import Derived.Test.YtopdklmhiglehaaM
import Derived.Test.YtopdklmhiglehaaR
namespace Go.Proofs.Ytopdklmhiglehaa
open Go Go.RowKit

theorem wpList_ldw {w : World} {ops : Array Oper} {rest : List Oper} {op : Oper} {a : Act} {Q : Exit → Act → World → Prop} (hgd : Region.wanted op (yielded ops a.tmps) = true) (x : Operand) (ho : op.op = .load 24 x) {b o : Nat} {v : It} (hx : a.eval x = .pointer (some ⟨b, o, none⟩))
    (hr : w.rangeAt b o (enc v)) (h : wpList Try.prog ops Q rest (a.put op.dst (itv v)) w) : wpList Try.prog ops Q (op :: rest) a w :=
  wpList_step fun _ hK => by rw [if_pos hgd]; exact wp_load_mid 24 x ho b o hx (enc v) _ hr Try.underlying24 rfl (by rw [size24]; rfl) (hK _ _ h)
/-- Three things that were boxed lie as they were. -/
def Tri (h : Nat) (a b c : It) (w0 w : World) : Prop := w.rangeAt h 0 (enc a) ∧ w.rangeAt (h + 1) 0 (enc b) ∧ w.rangeAt (h + 1 + 1) 0 (enc c) ∧ Below h w0 w ∧ h + 3 ≤ w.heap.size
theorem Tri.step {h : Nat} {a b c : It} {w0 w w' : World} (t : Tri h a b c w0 w) (k : Below w.heap.size w w') : Tri h a b c w0 w' := by
  obtain ⟨t1, t2, t3, t4, t5⟩ := t
  exact ⟨range_keep t1 (by omega) k, range_keep t2 (by omega) k, range_keep t3 (by omega) k, t4.trans (k.mono (by omega)), Nat.le_trans t5 k.size⟩
set_option maxHeartbeats 4000000 in
theorem total_any (a b c : It) (w : World) : Calls Try.prog 8 #[itv a, itv b, itv c] w fun e w' => e = .returned (.bool true) ∧ Below w.heap.size w w' := by
  have f1 : Hid (lt a b = true → lt b a = true → False) := hid fun h1 h2 => by rw [lt_asym h1] at h2; cases h2
  have f2 : Hid (decide (a = b) = (!lt a b && !lt b a)) := hid (by
    by_cases h : a = b
    · subst h; simp [lt_irr]
    · rw [decide_eq_false h]
      cases h1 : lt a b
      · cases h2 : lt b a
        · exact absurd (lt_tri h1 h2) h
        · rfl
      · rfl)
  have f3 : Hid (lt a b = true → lt b c = true → lt a c = true) := hid lt_trans
  have L1 := hid (fun w => less_any a b w)
  have L2 := hid (fun w => less_any b a w)
  have L3 := hid (fun w => less_any b c w)
  have L4 := hid (fun w => less_any a c w)
  have q1 := fun w => eqItv a b w
  have q2 := fun p q w => guItv .eql p q a b w
  rw [f2.out] at q1
  clear f2
  obtain ⟨W, hW⟩ : ∃ W, W = ((w.alloc (.cells (enc a).toArray 24)).alloc (.cells (enc b).toArray 24)).alloc (.cells (enc c).toArray 24) := ⟨_, rfl⟩
  have RA : Hid (W.rangeAt w.heap.size 0 (enc a)) := hid (by rw [hW]; exact World.rangeAt_alloc (World.rangeAt_alloc (range_new w a 24) _) _)
  have RB : Hid (W.rangeAt (w.heap.size + 1) 0 (enc b)) := hid (by rw [hW]; have := World.rangeAt_alloc (range_new (w.alloc (.cells (enc a).toArray 24)) b 24) (.cells (enc c).toArray 24); simpa using this)
  have RC : Hid (W.rangeAt (w.heap.size + 1 + 1) 0 (enc c)) := hid (by rw [hW]; have := range_new ((w.alloc (.cells (enc a).toArray 24)).alloc (.cells (enc b).toArray 24)) c 24; simpa using this)
  have BW : Hid (Below w.heap.size w W) := hid (by rw [hW]; exact (((Below.refl _ _).alloc (Nat.le_refl _) _).alloc (by simp) _).alloc (by simp; omega) _)
  have SW : Hid (w.heap.size + 3 ≤ W.heap.size) := hid (by rw [hW]; simp)
  generalize lt a b = R1 at *
  generalize lt b a = R2 at *
  generalize lt b c = R3 at *
  generalize lt a c = R4 at *
  obtain ⟨a1, a2, a3, a4, a5, a6⟩ := a
  obtain ⟨b1, b2, b3, b4, b5, b6⟩ := b
  obtain ⟨c1, c2, c3, c4, c5, c6⟩ := c
  change W = ((w.alloc (.cells #[.int .i64 a1, .int .i64 a2, .int .u64 a3, .int .i64 a4, .int .i64 a5, .int .u64 a6] 24)).alloc (.cells #[.int .i64 b1, .int .i64 b2, .int .u64 b3, .int .i64 b4, .int .i64 b5, .int .u64 b6] 24)).alloc (.cells #[.int .i64 c1, .int .i64 c2, .int .u64 c3, .int .i64 c4, .int .i64 c5, .int .u64 c6] 24) at hW
  show Calls Try.prog 8 #[.agg #[.int .i64 a1, .int .i64 a2, .int .u64 a3, .int .i64 a4, .int .i64 a5, .int .u64 a6], .agg #[.int .i64 b1, .int .i64 b2, .int .u64 b3, .int .i64 b4, .int .i64 b5, .int .u64 b6], .agg #[.int .i64 c1, .int .i64 c2, .int .u64 c3, .int .i64 c4, .int .i64 c5, .int .u64 c6]] w _
  have HW := hid hW
  clear hW
  go_enter Try.func8, Try.ntmps8
  go_wp2_with fail
  rw [← HW.out]
  clear HW
  refine (live_any W).mono ?_
  rintro e w1 ⟨rfl, bel1⟩
  have hs := SW.out
  have T : Hid (Tri w.heap.size (a1, a2, a3, a4, a5, a6) (b1, b2, b3, b4, b5, b6) (c1, c2, c3, c4, c5, c6) w w1) := hid (Tri.step ⟨RA.out, RB.out, RC.out, BW.out, hs⟩ bel1)
  clear bel1 RA RB RC BW SW hs
  cases R1 <;> cases R2 <;> cases R3 <;> cases R4
  all_goals first
    | exact absurd (f1.out rfl rfl) id
    | exact absurd (f3.out rfl rfl) (by decide)
    | (clear f1 f3
       go_wp2_with (first
         | (refine wpList_ldw rfl (.tmp 3) rfl rfl T.out.1 ?_)
         | (refine wpList_ldw rfl (.tmp 4) rfl rfl T.out.2.1 ?_)
         | (refine wpList_ldw rfl (.tmp 5) rfl rfl T.out.2.2.1 ?_)
         | (go_at_call 15; ((with_reducible refine (L1.out _).mono ?_); rintro e w2 ⟨rfl, bel⟩; replace T := hid (T.out.step bel); clear bel))
         | (go_at_call 15; ((with_reducible refine (L2.out _).mono ?_); rintro e w2 ⟨rfl, bel⟩; replace T := hid (T.out.step bel); clear bel))
         | (go_at_call 15; ((with_reducible refine (L3.out _).mono ?_); rintro e w2 ⟨rfl, bel⟩; replace T := hid (T.out.step bel); clear bel))
         | (go_at_call 15; ((with_reducible refine (L4.out _).mono ?_); rintro e w2 ⟨rfl, bel⟩; replace T := hid (T.out.step bel); clear bel)))
       go_ret
       exact ⟨rfl, T.out.2.2.2.1⟩)
theorem total_row {w : World} (a b c : It) : Calls Try.prog 8 #[itv a, itv b, itv c] w fun e w' => e = .returned (.bool true) ∧ Below w.heap.size w w' := total_any a b c w
end Go.Proofs.Ytopdklmhiglehaa
