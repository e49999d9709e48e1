/-
  The walk of MemberComes: it returns true at every schedule, node, own members, slot and kind.
-/
import Derived.Test.YtbfaebobainhjaaWA
import Derived.Test.YtbfaebobainhjaaVT
namespace Go.Proofs.Ytbfaebobainhjaa
open Go Go.RowKit
theorem wpList_fk {w : World} {g : Nat} {x : Fr} {ops : Array Oper} {rest : List Oper} {o : Oper} {a : Act} {Q : Exit → Act → World → Prop} (hg : o.guard = none) (y z : Operand) (ho : o.op = .store 3 y z) {n : Int} (hx : a.eval y = .pointer (some ⟨g, 0, none⟩)) (hy : a.eval z = .int .i64 n) (hv : VarF w g x)
    (h : ∀ w', VarF w' g { x with k := n } → Below g w w' → Oth g w w' → Hid (w'.heap.size = w.heap.size) → wpList Try.prog ops Q rest (a.put o.dst undef) w') : wpList Try.prog ops Q (o :: rest) a w :=
  wpList_st1 hg 3 y z ho 0 (.int .i64 n) hx hy rfl rfl size3 (fun j hj => hv.2 j (by omega)) (by omega) (h _ ⟨range_set (cs := encf x) hv.1 hv.2 (by rw [encf_len]; omega), there_set _ _ hv.2⟩ (setCells_oth g _ _ _).1 (setCells_oth g _ _ _).2 (hid (setCells_size _ _ _ _)))
section
variable (n s l f d : Int) (me : Int) (k : Int) (own : Nat) (w : World)
set_option maxHeartbeats 4000000 in
set_option maxRecDepth 100000 in
theorem comes_o (c : Bool) (HO : ∀ w, Calls Try.prog 21 #[mv ⟨n, s, l, f, d⟩, .int .u64 k] w (RetO 0 1 w)) : Calls Try.prog 6 #[mv ⟨n, s, l, f, d⟩, .int .i64 me, .int .u16 (own : Int), .int .u64 k, .bool c] w (TrueB w) := by
  have HL := hid live_any
  replace HO := hid HO
  go_enter Try.func6, Try.ntmps6
  go_wp2_with (first
    | (go_at_call 21; (with_reducible refine (HO.out w2).mono ?_); rintro e w3 ⟨rfl, b3⟩; have m3 := m2.keep b3; have c0 : w3.cell? ⟨w.heap.size, 0, none⟩ = some (.int .i64 n) := m3.c0; have B3 : Hid (Below w.heap.size w w3) := hid (B2.out.trans (b3.mono B2.out.size)))
    | (refine wpList_ldm rfl (.tmp 5) rfl rfl m2 ?_)
    | (go_at_call 10; (with_reducible refine (HL.out w1).mono ?_); rintro e w2 ⟨rfl, b2⟩; have m2 := v1.keep b2; have B2 : Hid (Below w.heap.size w w2) := hid (b1.trans (b2.mono b1.size)))
    | (refine wpList_boxm (x := ⟨n, s, l, f, d⟩) rfl (.tmp 0) rfl rfl ?_; intro w1 v1 b1 s1))
  go_ret
  exact ⟨by first | rfl | exact ret_bool (by simp), B3.out⟩
set_option maxHeartbeats 4000000 in
set_option maxRecDepth 100000 in
theorem comes_lo (c : Bool) (O : Int) (HO : ∀ w, Calls Try.prog 21 #[mv ⟨n, s, l, f, d⟩, .int .u64 k] w (RetO O 0 w)) (h1 : me < 0) : Calls Try.prog 6 #[mv ⟨n, s, l, f, d⟩, .int .i64 me, .int .u16 (own : Int), .int .u64 k, .bool c] w (TrueB w) := by
  have HL := hid live_any
  replace HO := hid HO
  go_enter Try.func6, Try.ntmps6
  go_wp2_with (first
    | (go_at_call 21; (with_reducible refine (HO.out w2).mono ?_); rintro e w3 ⟨rfl, b3⟩; have m3 := m2.keep b3; have c0 : w3.cell? ⟨w.heap.size, 0, none⟩ = some (.int .i64 n) := m3.c0; have B3 : Hid (Below w.heap.size w w3) := hid (B2.out.trans (b3.mono B2.out.size)))
    | (refine wpList_ldm rfl (.tmp 5) rfl rfl m2 ?_)
    | (go_at_call 10; (with_reducible refine (HL.out w1).mono ?_); rintro e w2 ⟨rfl, b2⟩; have m2 := v1.keep b2; have B2 : Hid (Below w.heap.size w w2) := hid (b1.trans (b2.mono b1.size)))
    | (refine wpList_boxm (x := ⟨n, s, l, f, d⟩) rfl (.tmp 0) rfl rfl ?_; intro w1 v1 b1 s1))
  go_ret
  exact ⟨by first | rfl | exact ret_bool (by simp), B3.out⟩
set_option maxHeartbeats 4000000 in
set_option maxRecDepth 100000 in
theorem comes_hi (c : Bool) (O : Int) (HO : ∀ w, Calls Try.prog 21 #[mv ⟨n, s, l, f, d⟩, .int .u64 k] w (RetO O 0 w)) (h1 : 0 ≤ me) (h2 : n ≤ me) : Calls Try.prog 6 #[mv ⟨n, s, l, f, d⟩, .int .i64 me, .int .u16 (own : Int), .int .u64 k, .bool c] w (TrueB w) := by
  have HL := hid live_any
  replace HO := hid HO
  go_enter Try.func6, Try.ntmps6
  go_wp2_with (first
    | (go_at_call 21; (with_reducible refine (HO.out w2).mono ?_); rintro e w3 ⟨rfl, b3⟩; have m3 := m2.keep b3; have c0 : w3.cell? ⟨w.heap.size, 0, none⟩ = some (.int .i64 n) := m3.c0; have B3 : Hid (Below w.heap.size w w3) := hid (B2.out.trans (b3.mono B2.out.size)))
    | (refine wpList_ldm rfl (.tmp 5) rfl rfl m2 ?_)
    | (go_at_call 10; (with_reducible refine (HL.out w1).mono ?_); rintro e w2 ⟨rfl, b2⟩; have m2 := v1.keep b2; have B2 : Hid (Below w.heap.size w w2) := hid (b1.trans (b2.mono b1.size)))
    | (refine wpList_boxm (x := ⟨n, s, l, f, d⟩) rfl (.tmp 0) rfl rfl ?_; intro w1 v1 b1 s1))
  go_ret
  exact ⟨by first | rfl | exact ret_bool (by simp), B3.out⟩
set_option maxHeartbeats 4000000 in
set_option maxRecDepth 100000 in
theorem comes_own (c : Bool) (O : Int) (HO : ∀ w, Calls Try.prog 21 #[mv ⟨n, s, l, f, d⟩, .int .u64 k] w (RetO O 0 w)) (h1 : 0 ≤ me) (h2 : me < n) (h3 : (me == O) = true) : Calls Try.prog 6 #[mv ⟨n, s, l, f, d⟩, .int .i64 me, .int .u16 (own : Int), .int .u64 k, .bool c] w (TrueB w) := by
  have HL := hid live_any
  replace HO := hid HO
  go_enter Try.func6, Try.ntmps6
  go_wp2_with (first
    | (go_at_call 21; (with_reducible refine (HO.out w2).mono ?_); rintro e w3 ⟨rfl, b3⟩; have m3 := m2.keep b3; have c0 : w3.cell? ⟨w.heap.size, 0, none⟩ = some (.int .i64 n) := m3.c0; have B3 : Hid (Below w.heap.size w w3) := hid (B2.out.trans (b3.mono B2.out.size)))
    | (refine wpList_ldm rfl (.tmp 5) rfl rfl m2 ?_)
    | (go_at_call 10; (with_reducible refine (HL.out w1).mono ?_); rintro e w2 ⟨rfl, b2⟩; have m2 := v1.keep b2; have B2 : Hid (Below w.heap.size w w2) := hid (b1.trans (b2.mono b1.size)))
    | (refine wpList_boxm (x := ⟨n, s, l, f, d⟩) rfl (.tmp 0) rfl rfl ?_; intro w1 v1 b1 s1))
  go_ret
  exact ⟨by first | rfl | exact ret_bool (by simp), B3.out⟩
set_option maxHeartbeats 4000000 in
set_option maxRecDepth 100000 in
theorem comes_true (n s l f d : Int) (me : Int) (k : Nat) (own : Nat) (w : World) (O : Int) (M P Q : Nat) (HO : ∀ w, Calls Try.prog 21 #[mv ⟨n, s, l, f, d⟩, .int .u64 (k : Int)] w (RetO O 0 w)) (h1 : 0 ≤ me) (h2 : me < n) (h3 : (me == O) = false) (W1 : ∀ w, Calls Try.prog 23 #[.int .u16 (own : Int), .int .i64 O] w fun e w' => e = .returned (.int .u16 (M : Int)) ∧ w = w') (J1 : ∀ w, Calls Try.prog 11 #[mv ⟨n, s, l, f, d⟩, .int .i64 me, .int .u16 (own : Int), .int .u64 (k : Int), fv ⟨2, O, k, M⟩] w (RetO 1 0 w)) (A1 : ∀ w, Calls Try.prog 13 #[mv ⟨n, s, l, f, d⟩, .int .i64 me, .int .u16 (own : Int), .int .u64 (k : Int), .int .i64 1] w (RetA P 0 w)) (A0 : ∀ w, Calls Try.prog 13 #[mv ⟨n, s, l, f, d⟩, .int .i64 me, .int .u16 (own : Int), .int .u64 (k : Int), .int .i64 0] w (RetA Q 0 w)) (H1 : ∀ w, Calls Try.prog 22 #[.int .u16 (P : Int), .int .i64 O] w fun e w' => e = .returned (.bool true) ∧ w = w') (H2 : ∀ w, Calls Try.prog 22 #[.int .u16 (Q : Int), .int .i64 O] w fun e w' => e = .returned (.bool false) ∧ w = w') (N1 : ∀ w, Calls Try.prog 24 #[.int .u16 (P : Int), .int .i64 O] w fun e w' => e = .returned (.int .u16 (Q : Int)) ∧ w = w') : Calls Try.prog 6 #[mv ⟨n, s, l, f, d⟩, .int .i64 me, .int .u16 (own : Int), .int .u64 (k : Int), .bool true] w (TrueB w) := by
  have HL := hid live_any
  replace HO := hid HO
  replace W1 := hid W1
  replace J1 := hid J1
  replace A1 := hid A1
  replace A0 := hid A0
  replace H1 := hid H1
  replace H2 := hid H2
  replace N1 := hid N1
  go_enter Try.func6, Try.ntmps6
  go_wp2_with (first
    | (go_at_call 24; (with_reducible refine (N1.out w9).mono ?_); rintro e w' ⟨rfl, rfl⟩)
    | (go_at_call 22; (with_reducible refine (H2.out w9).mono ?_); rintro e w' ⟨rfl, rfl⟩)
    | (go_at_call 22; (with_reducible refine (H1.out w9).mono ?_); rintro e w' ⟨rfl, rfl⟩)
    | (go_at_call 13; (with_reducible refine (A0.out w8).mono ?_); rintro e w9 ⟨rfl, b9⟩; have m9 := m8.keep b9; have B9 : Hid (Below w.heap.size w w9) := hid (B8.out.trans (b9.mono B8.out.size)))
    | (refine wpList_ldm rfl (.tmp 5) rfl rfl m8 ?_)
    | (go_at_call 13; (with_reducible refine (A1.out w7).mono ?_); rintro e w8 ⟨rfl, b8⟩; have m8 := m7.keep b8; have B8 : Hid (Below w.heap.size w w8) := hid (B7.out.trans (b8.mono B7.out.size)))
    | (refine wpList_ldm rfl (.tmp 5) rfl rfl m7 ?_)
    | (go_at_call 11; (with_reducible refine (J1.out w6).mono ?_); rintro e w7 ⟨rfl, b7⟩; have m7 := m6.keep b7; have B7 : Hid (Below w.heap.size w w7) := hid (B6.out.trans (b7.mono B6.out.size)))
    | (refine wpList_ldf rfl (.tmp 14) rfl rfl f6 ?_)
    | (refine wpList_ldm rfl (.tmp 5) rfl rfl m6 ?_)
    | (refine wpList_fk (n := 2) rfl (.tmp 55) _ rfl rfl rfl f5 ?_; intro w6 f6 b6 o6 s6; have m6 := m5.below b6 LM.out; have B6 : Hid (Below w.heap.size w w6) := hid (B5.out.trans (b6.mono LW.out)))
    | (refine wpList_svf (x := ⟨1, O, k, M⟩) rfl (.tmp 14) (.tmp 53) rfl rfl rfl f4 ?_; intro w5 f5 b5 o5 s5; have m5 := m4.below b5 LM.out; have B5 : Hid (Below w.heap.size w w5) := hid (B4.out.trans (b5.mono LW.out)))
    | (refine wpList_alf rfl rfl ?_; intro w4 f4 b4 s4; have m4 := m3.keep b4; have B4 : Hid (Below w.heap.size w w4) := hid (B3.out.trans (b4.mono B3.out.size)); have LM := hid m3.lt; have LW := hid B3.out.size)
    | (go_at_call 23; (with_reducible refine (W1.out w3).mono ?_); rintro e w' ⟨rfl, rfl⟩)
    | (go_at_call 21; (with_reducible refine (HO.out w2).mono ?_); rintro e w3 ⟨rfl, b3⟩; have m3 := m2.keep b3; have c0 : w3.cell? ⟨w.heap.size, 0, none⟩ = some (.int .i64 n) := m3.c0; have B3 : Hid (Below w.heap.size w w3) := hid (B2.out.trans (b3.mono B2.out.size)))
    | (refine wpList_ldm rfl (.tmp 5) rfl rfl m2 ?_)
    | (go_at_call 10; (with_reducible refine (HL.out w1).mono ?_); rintro e w2 ⟨rfl, b2⟩; have m2 := v1.keep b2; have B2 : Hid (Below w.heap.size w w2) := hid (b1.trans (b2.mono b1.size)))
    | (refine wpList_boxm (x := ⟨n, s, l, f, d⟩) rfl (.tmp 0) rfl rfl ?_; intro w1 v1 b1 s1))
  go_ret
  exact ⟨by first | rfl | exact ret_bool (by simp), B9.out⟩
set_option maxHeartbeats 4000000 in
set_option maxRecDepth 100000 in
theorem comes_false (n s l f d : Int) (me : Int) (k : Nat) (own : Nat) (w : World) (O : Int) (M P Q : Nat) (HO : ∀ w, Calls Try.prog 21 #[mv ⟨n, s, l, f, d⟩, .int .u64 (k : Int)] w (RetO O 0 w)) (h1 : 0 ≤ me) (h2 : me < n) (h3 : (me == O) = false) (W1 : ∀ w, Calls Try.prog 23 #[.int .u16 (own : Int), .int .i64 O] w fun e w' => e = .returned (.int .u16 (M : Int)) ∧ w = w') (J1 : ∀ w, Calls Try.prog 11 #[mv ⟨n, s, l, f, d⟩, .int .i64 me, .int .u16 (own : Int), .int .u64 (k : Int), fv ⟨1, O, k, M⟩] w (RetO 1 0 w)) (A1 : ∀ w, Calls Try.prog 13 #[mv ⟨n, s, l, f, d⟩, .int .i64 me, .int .u16 (own : Int), .int .u64 (k : Int), .int .i64 1] w (RetA P 0 w)) (A0 : ∀ w, Calls Try.prog 13 #[mv ⟨n, s, l, f, d⟩, .int .i64 me, .int .u16 (own : Int), .int .u64 (k : Int), .int .i64 0] w (RetA Q 0 w)) (H1 : ∀ w, Calls Try.prog 22 #[.int .u16 (P : Int), .int .i64 O] w fun e w' => e = .returned (.bool true) ∧ w = w') (H2 : ∀ w, Calls Try.prog 22 #[.int .u16 (Q : Int), .int .i64 O] w fun e w' => e = .returned (.bool false) ∧ w = w') (N1 : ∀ w, Calls Try.prog 24 #[.int .u16 (P : Int), .int .i64 O] w fun e w' => e = .returned (.int .u16 (Q : Int)) ∧ w = w') : Calls Try.prog 6 #[mv ⟨n, s, l, f, d⟩, .int .i64 me, .int .u16 (own : Int), .int .u64 (k : Int), .bool false] w (TrueB w) := by
  have HL := hid live_any
  replace HO := hid HO
  replace W1 := hid W1
  replace J1 := hid J1
  replace A1 := hid A1
  replace A0 := hid A0
  replace H1 := hid H1
  replace H2 := hid H2
  replace N1 := hid N1
  go_enter Try.func6, Try.ntmps6
  go_wp2_with (first
    | (go_at_call 24; (with_reducible refine (N1.out w8).mono ?_); rintro e w' ⟨rfl, rfl⟩)
    | (go_at_call 22; (with_reducible refine (H2.out w8).mono ?_); rintro e w' ⟨rfl, rfl⟩)
    | (go_at_call 22; (with_reducible refine (H1.out w8).mono ?_); rintro e w' ⟨rfl, rfl⟩)
    | (go_at_call 13; (with_reducible refine (A0.out w7).mono ?_); rintro e w8 ⟨rfl, b8⟩; have m8 := m7.keep b8; have B8 : Hid (Below w.heap.size w w8) := hid (B7.out.trans (b8.mono B7.out.size)))
    | (refine wpList_ldm rfl (.tmp 5) rfl rfl m7 ?_)
    | (go_at_call 13; (with_reducible refine (A1.out w6).mono ?_); rintro e w7 ⟨rfl, b7⟩; have m7 := m6.keep b7; have B7 : Hid (Below w.heap.size w w7) := hid (B6.out.trans (b7.mono B6.out.size)))
    | (refine wpList_ldm rfl (.tmp 5) rfl rfl m6 ?_)
    | (go_at_call 11; (with_reducible refine (J1.out w5).mono ?_); rintro e w6 ⟨rfl, b6⟩; have m6 := m5.keep b6; have B6 : Hid (Below w.heap.size w w6) := hid (B5.out.trans (b6.mono B5.out.size)))
    | (refine wpList_ldf rfl (.tmp 14) rfl rfl f5 ?_)
    | (refine wpList_ldm rfl (.tmp 5) rfl rfl m5 ?_)
    | (refine wpList_svf (x := ⟨1, O, k, M⟩) rfl (.tmp 14) (.tmp 53) rfl rfl rfl f4 ?_; intro w5 f5 b5 o5 s5; have m5 := m4.below b5 LM.out; have B5 : Hid (Below w.heap.size w w5) := hid (B4.out.trans (b5.mono LW.out)))
    | (refine wpList_alf rfl rfl ?_; intro w4 f4 b4 s4; have m4 := m3.keep b4; have B4 : Hid (Below w.heap.size w w4) := hid (B3.out.trans (b4.mono B3.out.size)); have LM := hid m3.lt; have LW := hid B3.out.size)
    | (go_at_call 23; (with_reducible refine (W1.out w3).mono ?_); rintro e w' ⟨rfl, rfl⟩)
    | (go_at_call 21; (with_reducible refine (HO.out w2).mono ?_); rintro e w3 ⟨rfl, b3⟩; have m3 := m2.keep b3; have c0 : w3.cell? ⟨w.heap.size, 0, none⟩ = some (.int .i64 n) := m3.c0; have B3 : Hid (Below w.heap.size w w3) := hid (B2.out.trans (b3.mono B2.out.size)))
    | (refine wpList_ldm rfl (.tmp 5) rfl rfl m2 ?_)
    | (go_at_call 10; (with_reducible refine (HL.out w1).mono ?_); rintro e w2 ⟨rfl, b2⟩; have m2 := v1.keep b2; have B2 : Hid (Below w.heap.size w w2) := hid (b1.trans (b2.mono b1.size)))
    | (refine wpList_boxm (x := ⟨n, s, l, f, d⟩) rfl (.tmp 0) rfl rfl ?_; intro w1 v1 b1 s1))
  go_ret
  exact ⟨by first | rfl | exact ret_bool (by simp), B8.out⟩
end
theorem jV_one (O me k own : Nat) (kk : Int) : jV O me k own ⟨kk, O, k, addb own O⟩ = 1 := by
  unfold jV; rw [if_pos ⟨rfl, rfl⟩, if_pos rfl]
theorem comes_walk (n s l f d me : Int) (k own : Nat) (c : Bool) (w : World) (ho : own < 65536) :
    Calls Try.prog 6 #[mv ⟨n, s, l, f, d⟩, .int .i64 me, .int .u16 (own : Int), .int .u64 (k : Int), .bool c] w (TrueB w) := by
  by_cases hx : Ok ⟨n, s, l, f, d⟩ ∧ (k : Int) ≤ 4294967296
  · have HO : ∀ w, Calls Try.prog 21 #[mv ⟨n, s, l, f, d⟩, .int .u64 (k : Int)] w (RetO ((k : Int) % n) 0 w) := fun w => own_ok n s l f d k _ w hx.1 (by omega) hx.2 rfl
    by_cases h1 : me < 0
    · exact comes_lo n s l f d me k own w c _ HO h1
    · by_cases h2 : n ≤ me
      · exact comes_hi n s l f d me k own w c _ HO (by omega) h2
      · have hm : May ⟨n, s, l, f, d⟩ me k := ⟨hx.1, hx.2, by omega, by simp only; omega⟩
        obtain ⟨a1, a2, a3, a4, a5⟩ := slO_cast _ me k hm
        simp only at a1
        by_cases h3 : me = (k : Int) % n
        · exact comes_own n s l f d me k own w c _ HO (by omega) (by omega) (by rw [beq_iff_eq]; exact h3)
        · have e3 : (me == ((slO ⟨n, s, l, f, d⟩ k : Nat) : Int)) = false := by rw [beq_eq_false_iff_ne, ← a1]; exact h3
          rw [a1] at HO h3
          have hne : slO ⟨n, s, l, f, d⟩ k ≠ me.toNat := by omega
          have W1 := fun w => with_in own (slO ⟨n, s, l, f, d⟩ k) w ho a2
          have A1 := fun w => after_ok ⟨n, s, l, f, d⟩ me k 1 own w (by omega) ho hm (by decide)
          have A0 := fun w => after_ok ⟨n, s, l, f, d⟩ me k 0 own w (by omega) ho hm (by decide)
          have q1 : aft (slO ⟨n, s, l, f, d⟩ k) me.toNat own 1 = addb own (slO ⟨n, s, l, f, d⟩ k) := by unfold aft; rw [if_neg hne]; rfl
          have q0 : aft (slO ⟨n, s, l, f, d⟩ k) me.toNat own 0 = subb own (slO ⟨n, s, l, f, d⟩ k) := by unfold aft; rw [if_neg hne]; rfl
          have J1 := fun (kk : Int) (hkk : kk = 1 ∨ kk = 2) w => judge_ok ⟨n, s, l, f, d⟩ me k own ⟨kk, (slO ⟨n, s, l, f, d⟩ k : Int), k, addb own (slO ⟨n, s, l, f, d⟩ k)⟩ w (by omega) ho hm ⟨hkk, by simp only; omega, by simp only; omega, by simp only; have := hx.2; omega⟩
          simp only [jV_one] at J1
          rw [q1] at A1
          rw [q0] at A0
          have hP := addb_lt own _ ho a2
          have hQ := Nat.lt_of_le_of_lt (subb_le own (slO ⟨n, s, l, f, d⟩ k)) ho
          have H1 := fun w => has_in (addb own (slO ⟨n, s, l, f, d⟩ k)) (slO ⟨n, s, l, f, d⟩ k) w hP a2
          have H2 := fun w => has_in (subb own (slO ⟨n, s, l, f, d⟩ k)) (slO ⟨n, s, l, f, d⟩ k) w hQ a2
          have N1 := fun w => without_in (addb own (slO ⟨n, s, l, f, d⟩ k)) (slO ⟨n, s, l, f, d⟩ k) w hP a2
          rw [hs_addb] at H1
          rw [hs_subb] at H2
          rw [show subb (addb own (slO ⟨n, s, l, f, d⟩ k)) (slO ⟨n, s, l, f, d⟩ k) = subb own (slO ⟨n, s, l, f, d⟩ k) from by
            refine Nat.eq_of_testBit_eq fun j => ?_
            rw [subb_bit, subb_bit, addb_bit]
            by_cases e : slO ⟨n, s, l, f, d⟩ k = j <;> simp [e]] at N1
          simp only [decide_true, Bool.or_true] at H1
          simp only [decide_true, Bool.not_true, Bool.and_false] at H2
          cases c with
          | true => exact comes_true n s l f d me k own w _ _ _ _ HO (by omega) (by omega) e3 W1 (J1 2 (.inr rfl)) A1 A0 H1 H2 N1
          | false => exact comes_false n s l f d me k own w _ _ _ _ HO (by omega) (by omega) e3 W1 (J1 1 (.inl rfl)) A1 A0 H1 H2 N1
  · exact comes_o n s l f d me k own w c (fun w => own_bad _ k w hx)
end Go.Proofs.Ytbfaebobainhjaa
