/-
  The walk of MemberSplits: it returns true at every schedule, node, own members, slot, list of verdicts and place.
-/
import Derived.Test.YtbfaebobainhjaaSP
import Derived.Test.YtbfaebobainhjaaWA
import Derived.Deep.RegionHeld3
import Derived.Deep.DeepCutAuto
namespace Go.Proofs.Ytbfaebobainhjaa
open Go Go.RowKit
/-- A new variable of a tally, ahead of its store and behind it. -/
theorem fresh_t (w : World) (x : Ty) : (w.alloc (.cells #[.int .i64 0, .int .i64 0] 29)).cell? ⟨w.heap.size, 0, none⟩ = some (.int .i64 0) ∧ (w.alloc (.cells #[.int .i64 0, .int .i64 0] 29)).cell? ⟨w.heap.size, 1, none⟩ = some (.int .i64 0) ∧
    (w.alloc (.cells #[.int .i64 0, .int .i64 0] 29)).frozen? ⟨w.heap.size, 0, none⟩ = false ∧ (w.alloc (.cells #[.int .i64 0, .int .i64 0] 29)).frozen? ⟨w.heap.size, 1, none⟩ = false ∧
    VarT (((w.alloc (.cells #[.int .i64 0, .int .i64 0] 29)).setCell ⟨w.heap.size, 0, none⟩ (.int .i64 x.g)).setCell ⟨w.heap.size, 1, none⟩ (.int .i64 x.b)) w.heap.size x ∧
    Below w.heap.size w (((w.alloc (.cells #[.int .i64 0, .int .i64 0] 29)).setCell ⟨w.heap.size, 0, none⟩ (.int .i64 x.g)).setCell ⟨w.heap.size, 1, none⟩ (.int .i64 x.b)) := by
  have v := vart_new w tz
  have r0 := (v.2 0 (by omega)).2
  have r1 := (v.2 1 (by omega)).2
  exact ⟨v.c0, v.c1, r0, r1, vart_stored v.2 x, ((Below.refl _ _).alloc (Nat.le_refl _) _).trans (setCells_oth w.heap.size (enct x) 0 _).1⟩
section
variable (n0 s l0 f0 d me k k0 : Int) (own : Nat) (A : Option Addr) (n c : Nat) (w : World)
set_option maxHeartbeats 4000000 in
set_option maxRecDepth 100000 in
theorem splits_long (h : 100 < n) : Calls Try.prog 9 #[mv ⟨n0, s, l0, f0, d⟩, .int .i64 me, .int .u16 (own : Int), .int .u64 k, .slice A n c, .int .i64 k0] w (TrueB w) := by
  have HL := hid live_any
  go_enter Try.func9, Try.ntmps9
  go_wp2_with (first
    | (go_at_call 10; (with_reducible refine (HL.out w1).mono ?_); rintro e w2 ⟨rfl, b2⟩; have B2 : Hid (Below w.heap.size w w2) := hid (b1.trans (b2.mono b1.size)))
    | (refine wpList_boxm (x := ⟨n0, s, l0, f0, d⟩) rfl (.tmp 0) rfl rfl ?_; intro w1 v1 b1 s1))
  go_ret
  exact ⟨rfl, B2.out⟩
set_option maxHeartbeats 4000000 in
set_option maxRecDepth 100000 in
theorem splits_err (h : n ≤ 100) (r j : Int) (e1 : k0.tmod ((n : Int) + 1) = r) (r0 : -(n : Int) ≤ r) (r1 : r ≤ n) (e2 : (r + n + 1).tmod ((n : Int) + 1) = j)
    (HR : ∀ w', Below w.heap.size w w' → Calls Try.prog 19 #[mv ⟨n0, s, l0, f0, d⟩, .int .i64 me, .int .u16 (own : Int), .int .u64 k, .slice A n c] w' (RetR (0, tz, 1) w')) :
    Calls Try.prog 9 #[mv ⟨n0, s, l0, f0, d⟩, .int .i64 me, .int .u16 (own : Int), .int .u64 k, .slice A n c, .int .i64 k0] w (TrueB w) := by
  have HL := hid live_any
  replace HR := hid HR
  go_enter Try.func9, Try.ntmps9
  go_wp2_with (first
    | (refine wpList_svt (x := tz) rfl (.tmp 15) (.tmp 51) rfl rfl rfl t4 ?_; intro w5 t5 b5 o5 s5; have B5 : Hid (Below w.heap.size w w5) := hid (B4.out.trans (b5.mono LB.out)))
    | (refine wpList_alt rfl rfl ?_; intro w4 t4 b4 s4; have LB := hid B3.out.size; have B4 : Hid (Below w.heap.size w w4) := hid (B3.out.trans (b4.mono B3.out.size)))
    | (go_at_call 19; (with_reducible refine (HR.out w2 B2.out).mono ?_); rintro e w3 ⟨rfl, b3⟩; have B3 : Hid (Below w.heap.size w w3) := hid (B2.out.trans (b3.mono B2.out.size)))
    | (refine wpList_ldm rfl (.tmp 6) rfl rfl m2 ?_)
    | (go_at_call 10; (with_reducible refine (HL.out w1).mono ?_); rintro e w2 ⟨rfl, b2⟩; have m2 := v1.keep b2; have B2 : Hid (Below w.heap.size w w2) := hid (b1.trans (b2.mono b1.size)))
    | (refine wpList_boxm (x := ⟨n0, s, l0, f0, d⟩) rfl (.tmp 0) rfl rfl ?_; intro w1 v1 b1 s1))
  go_ret
  exact ⟨by first | rfl | exact ret_bool (by simp), B5.out⟩
set_option maxHeartbeats 4000000 in
set_option maxRecDepth 100000 in
theorem splits_all (h : n ≤ 100) (r j : Int) (e1 : k0.tmod ((n : Int) + 1) = r) (r0 : -(n : Int) ≤ r) (r1 : r ≤ n) (e2 : (r + n + 1).tmod ((n : Int) + 1) = j) (hj : (j == (n : Int)) = true) (P : Nat) (T : Ty)
    (HR : ∀ w', Below w.heap.size w w' → Calls Try.prog 19 #[mv ⟨n0, s, l0, f0, d⟩, .int .i64 me, .int .u16 (own : Int), .int .u64 k, .slice A n c] w' (RetR (P, T, 0) w')) :
    Calls Try.prog 9 #[mv ⟨n0, s, l0, f0, d⟩, .int .i64 me, .int .u16 (own : Int), .int .u64 k, .slice A n c, .int .i64 k0] w (TrueB w) := by
  have HL := hid live_any
  replace HR := hid HR
  go_enter Try.func9, Try.ntmps9
  go_wp2_with (first
    | (refine wpList_svt rfl (.tmp 15) (.tmp 51) rfl rfl rfl t4 ?_; intro w5 t5 b5 o5 s5; have B5 : Hid (Below w.heap.size w w5) := hid (B4.out.trans (b5.mono LB.out)))
    | (refine wpList_alt rfl rfl ?_; intro w4 t4 b4 s4; have LB := hid B3.out.size; have B4 : Hid (Below w.heap.size w w4) := hid (B3.out.trans (b4.mono B3.out.size)))
    | (go_at_call 19; (with_reducible refine (HR.out w2 B2.out).mono ?_); rintro e w3 ⟨rfl, b3⟩; have B3 : Hid (Below w.heap.size w w3) := hid (B2.out.trans (b3.mono B2.out.size)))
    | (refine wpList_ldm rfl (.tmp 6) rfl rfl m2 ?_)
    | (go_at_call 10; (with_reducible refine (HL.out w1).mono ?_); rintro e w2 ⟨rfl, b2⟩; have m2 := v1.keep b2; have B2 : Hid (Below w.heap.size w w2) := hid (b1.trans (b2.mono b1.size)))
    | (refine wpList_boxm (x := ⟨n0, s, l0, f0, d⟩) rfl (.tmp 0) rfl rfl ?_; intro w1 v1 b1 s1))
  go_ret
  exact ⟨by first | rfl | exact ret_bool (by simp), B5.out⟩
set_option maxHeartbeats 4000000 in
set_option maxRecDepth 100000 in
theorem splits_some (h : n ≤ 100) (hc : n ≤ c) (b o J : Nat) (r : Int) (e1 : k0.tmod ((n : Int) + 1) = r) (r0 : -(n : Int) ≤ r) (r1 : r ≤ n) (e2 : (r + n + 1).tmod ((n : Int) + 1) = (J : Int)) (hJ : J < n) (hj : ((J : Int) == (n : Int)) = false) (P a1 : Nat) (ug ub vg vb : Int)
    (HR : ∀ w', Below w.heap.size w w' → Calls Try.prog 19 #[mv ⟨n0, s, l0, f0, d⟩, .int .i64 me, .int .u16 (own : Int), .int .u64 k, .slice (some ⟨b, o, none⟩) n c] w' (RetR (P, ⟨ug + vg, ub + vb⟩, 0) w'))
    (HU : ∀ w', Below w.heap.size w w' → Calls Try.prog 19 #[.agg #[.int .i64 n0, .int .i64 s, .int .i64 l0, .int .i64 f0, .int .i64 d], .int .i64 me, .int .u16 (own : Int), .int .u64 k, .slice (some ⟨b, o, none⟩) J c] w' fun e w'' => e = .returned (.tuple #[.int .u16 (a1 : Int), .agg #[.int .i64 ug, .int .i64 ub], .int .i64 0]) ∧ Below w'.heap.size w' w'')
    (HV : ∀ w', Below w.heap.size w w' → Calls Try.prog 19 #[.agg #[.int .i64 n0, .int .i64 s, .int .i64 l0, .int .i64 f0, .int .i64 d], .int .i64 me, .int .u16 (a1 : Int), .int .u64 (IntKind.u64.wrap (k + IntKind.u64.wrap (J : Int))), .slice (if c = J then some ⟨b, o, none⟩ else some ⟨b, o + J, none⟩) (n - J) (c - J)] w' fun e w'' => e = .returned (.tuple #[.int .u16 (P : Int), .agg #[.int .i64 vg, .int .i64 vb], .int .i64 0]) ∧ Below w'.heap.size w' w'')
    (z0 : 0 ≤ ug ∧ ug ≤ 100 ∧ 0 ≤ ub ∧ ub ≤ 100 ∧ 0 ≤ vg ∧ vg ≤ 100 ∧ 0 ≤ vb ∧ vb ≤ 100) :
    Calls Try.prog 9 #[mv ⟨n0, s, l0, f0, d⟩, .int .i64 me, .int .u16 (own : Int), .int .u64 k, .slice (some ⟨b, o, none⟩) n c, .int .i64 k0] w (TrueB w) := by
  have HL := hid live_any
  replace HR := hid HR
  replace HU := hid HU
  replace HV := hid HV
  replace HZ := hid z0
  clear z0
  go_enter Try.func9, Try.ntmps9
  go_wp2_with (first
    | (refine wpList_svt rfl (.tmp 15) (.tmp 51) rfl rfl rfl t4 ?_; intro w5 t5 b5 o5 s5; have m5 := m4.below b5 LM.out; have B5 : Hid (Below w.heap.size w w5) := hid (B4.out.trans (b5.mono LB.out)))
    | (refine wpList_alt rfl rfl ?_; intro w4 t4 b4 s4; have m4 := m3.keep b4; have LM := hid m3.lt; have LB := hid B3.out.size; have B4 : Hid (Below w.heap.size w w4) := hid (B3.out.trans (b4.mono B3.out.size)))
    | (go_at_call 19; (with_reducible refine (HR.out w2 B2.out).mono ?_); rintro e w3 ⟨rfl, b3⟩; have m3 := m2.keep b3; have B3 : Hid (Below w.heap.size w w3) := hid (B2.out.trans (b3.mono B2.out.size)))
    | (refine wpList_ldm rfl (.tmp 6) rfl rfl m2 ?_)
    | (go_at_call 10; (with_reducible refine (HL.out w1).mono ?_); rintro e w2 ⟨rfl, b2⟩; have m2 := v1.keep b2; have B2 : Hid (Below w.heap.size w w2) := hid (b1.trans (b2.mono b1.size)))
    | (refine wpList_boxm (x := ⟨n0, s, l0, f0, d⟩) rfl (.tmp 0) rfl rfl ?_; intro w1 v1 b1 s1))
  have c0 : w5.cell? ⟨w.heap.size, 0, none⟩ = some (.int .i64 n0) := m5.c0
  have c1 : w5.cell? ⟨w.heap.size, 1, none⟩ = some (.int .i64 s) := m5.c1
  have c2 : w5.cell? ⟨w.heap.size, 2, none⟩ = some (.int .i64 l0) := m5.c2
  have c3 : w5.cell? ⟨w.heap.size, 3, none⟩ = some (.int .i64 f0) := m5.c3
  have c4 : w5.cell? ⟨w.heap.size, 4, none⟩ = some (.int .i64 d) := m5.c4
  have q0 : (0 : Int) ≤ (J : Int) := by omega
  have q1 : (J : Int) ≤ (n : Int) := by omega
  have q2 : (n : Int) ≤ (c : Int) := by omega
  have q3 : (J : Int) ≤ (c : Int) := by omega
  clear m4 b5 o5 s5 t4 b4 s4 LM LB B4 m3 b3 B3 m2 b2 B2 v1 b1 s1 HR HL
  have M5 := hid m5
  have T5 := hid t5
  clear m5 t5
  generalize hg15 : w3.heap.size = g15 at *
  have L5 : Hid (w.heap.size < w5.heap.size ∧ g15 < w5.heap.size) := hid ⟨M5.out.lt, T5.out.lt⟩
  go_cut [17, 18, 19] (fun v17 v18 v19 wx => ∃ g, v17 = .int .u16 (a1 : Int) ∧ v18 = .pointer (some ⟨g, 0, none⟩) ∧ v19 = .int .i64 0 ∧ Hid (VarM wx w.heap.size ⟨n0, s, l0, f0, d⟩) ∧ Hid (VarT wx g15 ⟨ug + vg, ub + vb⟩) ∧ Hid (VarT wx g ⟨ug, ub⟩) ∧ Hid (Below w.heap.size w wx))
  case first =>
    have MA := hid (M5.out.keep ((Below.refl _ _).alloc (Nat.le_refl _) (.cells #[.int .i64 0, .int .i64 0] 29)))
    have VA := hid (vart_new w5 tz)
    have BA : Hid (Below w.heap.size w (w5.alloc (.cells #[.int .i64 0, .int .i64 0] 29))) := hid (B5.out.alloc B5.out.size _)
    have LB := hid M5.out.lt
    have z0 := MA.out.c0; have z1 := MA.out.c1; have z2 := MA.out.c2; have z3 := MA.out.c3; have z4 := MA.out.c4
    have T5_A := hid (T5.out.keep ((Below.refl _ _).alloc (Nat.le_refl _) (.cells #[.int .i64 0, .int .i64 0] 29)))
    have L_T5 := hid T5.out.lt
    have MA := hid (M5.out.keep ((Below.refl _ _).alloc (Nat.le_refl _) (.cells #[.int .i64 0, .int .i64 0] 29)))
    have VA := hid (vart_new w5 tz)
    have BA : Hid (Below w.heap.size w (w5.alloc (.cells #[.int .i64 0, .int .i64 0] 29))) := hid (B5.out.alloc B5.out.size _)
    have LB := hid M5.out.lt
    have z0 := MA.out.c0; have z1 := MA.out.c1; have z2 := MA.out.c2; have z3 := MA.out.c3; have z4 := MA.out.c4
    have T5_A := hid (T5.out.keep ((Below.refl _ _).alloc (Nat.le_refl _) (.cells #[.int .i64 0, .int .i64 0] 29)))
    have L_T5 := hid T5.out.lt
    have MA := hid (M5.out.keep ((Below.refl _ _).alloc (Nat.le_refl _) (.cells #[.int .i64 0, .int .i64 0] 29)))
    have VA := hid (vart_new w5 tz)
    have BA : Hid (Below w.heap.size w (w5.alloc (.cells #[.int .i64 0, .int .i64 0] 29))) := hid (B5.out.alloc B5.out.size _)
    have LB := hid M5.out.lt
    have z0 := MA.out.c0; have z1 := MA.out.c1; have z2 := MA.out.c2; have z3 := MA.out.c3; have z4 := MA.out.c4
    have T5_A := hid (T5.out.keep ((Below.refl _ _).alloc (Nat.le_refl _) (.cells #[.int .i64 0, .int .i64 0] 29)))
    have L_T5 := hid T5.out.lt
    go_region_held3 (fun w' => w'.cell? ⟨w.heap.size, 0, none⟩ = some (.int .i64 n0) ∧ w'.cell? ⟨w.heap.size, 1, none⟩ = some (.int .i64 s) ∧ w'.cell? ⟨w.heap.size, 2, none⟩ = some (.int .i64 l0) ∧ w'.cell? ⟨w.heap.size, 3, none⟩ = some (.int .i64 f0) ∧ w'.cell? ⟨w.heap.size, 4, none⟩ = some (.int .i64 d))
      (first | with_reducible exact ⟨c0, c1, c2, c3, c4⟩ | with_reducible exact ⟨z0, z1, z2, z3, z4⟩ | with_reducible exact ⟨d0, d1, d2, d3, d4⟩ | with_reducible exact ⟨x0, x1, x2, x3, x4⟩ | with_reducible exact ⟨y0, y1, y2, y3, y4⟩ | go_keep)
      (first
        | (go_at_call 19; (with_reducible refine (HU.out _ B5.out.drew).mono ?_); rintro e w6 ⟨rfl, b6⟩; have m6 := (show VarM w5.drew _ _ from M5.out).keep b6; have T5_6 := (show VarT w5.drew _ _ from T5.out).keep b6; have B6 := B5.out.drew.trans (b6.mono B5.out.size); have d0 : w6.cell? ⟨w.heap.size, 0, none⟩ = some (.int .i64 n0) := m6.c0; have d1 : w6.cell? ⟨w.heap.size, 1, none⟩ = some (.int .i64 s) := m6.c1; have d2 : w6.cell? ⟨w.heap.size, 2, none⟩ = some (.int .i64 l0) := m6.c2; have d3 : w6.cell? ⟨w.heap.size, 3, none⟩ = some (.int .i64 f0) := m6.c3; have d4 : w6.cell? ⟨w.heap.size, 4, none⟩ = some (.int .i64 d) := m6.c4; obtain ⟨u0, u1, u2, u3, VV, BV⟩ := fresh_t w6 ⟨ug, ub⟩; have m7 := m6.keep ((Below.refl _ _).alloc (Nat.le_refl _) (.cells #[.int .i64 0, .int .i64 0] 29)); have x0 : (w6.alloc (.cells #[.int .i64 0, .int .i64 0] 29)).cell? ⟨w.heap.size, 0, none⟩ = some (.int .i64 n0) := m7.c0; have x1 : (w6.alloc (.cells #[.int .i64 0, .int .i64 0] 29)).cell? ⟨w.heap.size, 1, none⟩ = some (.int .i64 s) := m7.c1; have x2 : (w6.alloc (.cells #[.int .i64 0, .int .i64 0] 29)).cell? ⟨w.heap.size, 2, none⟩ = some (.int .i64 l0) := m7.c2; have x3 : (w6.alloc (.cells #[.int .i64 0, .int .i64 0] 29)).cell? ⟨w.heap.size, 3, none⟩ = some (.int .i64 f0) := m7.c3; have x4 : (w6.alloc (.cells #[.int .i64 0, .int .i64 0] 29)).cell? ⟨w.heap.size, 4, none⟩ = some (.int .i64 d) := m7.c4; have RM := hid (m6.keep ((Below.refl _ _).alloc (Nat.le_refl _) (.cells #[.int .i64 ug, .int .i64 ub] 29))); have RU := hid (vart_new w6 ⟨ug, ub⟩); have RB := hid (B6.alloc B6.size (.cells #[.int .i64 ug, .int .i64 ub] 29)); have R_T5 := hid (T5_6.keep ((Below.refl _ _).alloc (Nat.le_refl _) (.cells #[.int .i64 ug, .int .i64 ub] 29))); clear m6 m7 VV BV B6 b6 T5_6; dsimp only)
        | (go_at_call 19; (with_reducible refine (HU.out _ BA.out.drew).mono ?_); rintro e w6 ⟨rfl, b6⟩; have m6 := (show VarM (w5.alloc (.cells #[.int .i64 0, .int .i64 0] 29)).drew _ _ from MA.out).keep b6; have v6 := (show VarT (w5.alloc (.cells #[.int .i64 0, .int .i64 0] 29)).drew _ _ from VA.out).keep b6; have T5_6 := (show VarT (w5.alloc (.cells #[.int .i64 0, .int .i64 0] 29)).drew _ _ from T5_A.out).keep b6; have B6 := BA.out.drew.trans (b6.mono BA.out.size); have d0 : w6.cell? ⟨w.heap.size, 0, none⟩ = some (.int .i64 n0) := m6.c0; have d1 : w6.cell? ⟨w.heap.size, 1, none⟩ = some (.int .i64 s) := m6.c1; have d2 : w6.cell? ⟨w.heap.size, 2, none⟩ = some (.int .i64 l0) := m6.c2; have d3 : w6.cell? ⟨w.heap.size, 3, none⟩ = some (.int .i64 f0) := m6.c3; have d4 : w6.cell? ⟨w.heap.size, 4, none⟩ = some (.int .i64 d) := m6.c4; have u0 : w6.cell? ⟨w5.heap.size, 0, none⟩ = some (.int .i64 0) := v6.c0; have u1 : w6.cell? ⟨w5.heap.size, 1, none⟩ = some (.int .i64 0) := v6.c1; have u2 : w6.frozen? ⟨w5.heap.size, 0, none⟩ = false := (v6.2 0 (by omega)).2; have u3 : w6.frozen? ⟨w5.heap.size, 1, none⟩ = false := (v6.2 1 (by omega)).2; have VV : VarT ((w6.setCell ⟨w5.heap.size, 0, none⟩ (.int .i64 ug)).setCell ⟨w5.heap.size, 1, none⟩ (.int .i64 ub)) w5.heap.size ⟨ug, ub⟩ := vart_stored v6.2 ⟨ug, ub⟩; have BV : Below w5.heap.size w6 ((w6.setCell ⟨w5.heap.size, 0, none⟩ (.int .i64 ug)).setCell ⟨w5.heap.size, 1, none⟩ (.int .i64 ub)) := (setCells_oth w5.heap.size (enct ⟨ug, ub⟩) 0 w6).1; have m8 := m6.below BV LB.out; have y0 : ((w6.setCell ⟨w5.heap.size, 0, none⟩ (.int .i64 ug)).setCell ⟨w5.heap.size, 1, none⟩ (.int .i64 ub)).cell? ⟨w.heap.size, 0, none⟩ = some (.int .i64 n0) := m8.c0; have y1 : ((w6.setCell ⟨w5.heap.size, 0, none⟩ (.int .i64 ug)).setCell ⟨w5.heap.size, 1, none⟩ (.int .i64 ub)).cell? ⟨w.heap.size, 1, none⟩ = some (.int .i64 s) := m8.c1; have y2 : ((w6.setCell ⟨w5.heap.size, 0, none⟩ (.int .i64 ug)).setCell ⟨w5.heap.size, 1, none⟩ (.int .i64 ub)).cell? ⟨w.heap.size, 2, none⟩ = some (.int .i64 l0) := m8.c2; have y3 : ((w6.setCell ⟨w5.heap.size, 0, none⟩ (.int .i64 ug)).setCell ⟨w5.heap.size, 1, none⟩ (.int .i64 ub)).cell? ⟨w.heap.size, 3, none⟩ = some (.int .i64 f0) := m8.c3; have y4 : ((w6.setCell ⟨w5.heap.size, 0, none⟩ (.int .i64 ug)).setCell ⟨w5.heap.size, 1, none⟩ (.int .i64 ub)).cell? ⟨w.heap.size, 4, none⟩ = some (.int .i64 d) := m8.c4; have RM := hid m8; have RU := hid VV; have RB := hid (B6.trans (BV.mono B5.out.size)); have R_T5 := hid (T5_6.below BV L_T5.out); clear m6 m8 v6 VV BV B6 b6 T5_6; dsimp only))
    all_goals
      go_wp2_with fail
      go_meet
      exact ⟨_, rfl, rfl, rfl, RM, R_T5, RU, RB⟩
  case rest =>
    clear c0 c1 c2 c3 c4 M5 T5 B5 L5 HU
    obtain ⟨g18, rfl, rfl, rfl, M6, T6, U6, B6'⟩ := hcut
    have c0 : wc.cell? ⟨w.heap.size, 0, none⟩ = some (.int .i64 n0) := M6.out.c0; have c1 : wc.cell? ⟨w.heap.size, 1, none⟩ = some (.int .i64 s) := M6.out.c1; have c2 : wc.cell? ⟨w.heap.size, 2, none⟩ = some (.int .i64 l0) := M6.out.c2; have c3 : wc.cell? ⟨w.heap.size, 3, none⟩ = some (.int .i64 f0) := M6.out.c3; have c4 : wc.cell? ⟨w.heap.size, 4, none⟩ = some (.int .i64 d) := M6.out.c4
    go_wp2_with fail
    go_cut [20, 21, 22] (fun v17 v18 v19 wx => ∃ g, v17 = .int .u16 (P : Int) ∧ v18 = .pointer (some ⟨g, 0, none⟩) ∧ v19 = .int .i64 0 ∧ Hid (VarT wx g15 ⟨ug + vg, ub + vb⟩) ∧ Hid (VarT wx g18 ⟨ug, ub⟩) ∧ Hid (VarT wx g ⟨vg, vb⟩) ∧ Hid (Below w.heap.size w wx))
    case first =>
      have MA := hid (M6.out.keep ((Below.refl _ _).alloc (Nat.le_refl _) (.cells #[.int .i64 0, .int .i64 0] 29)))
      have VA := hid (vart_new wc tz)
      have BA : Hid (Below w.heap.size w (wc.alloc (.cells #[.int .i64 0, .int .i64 0] 29))) := hid (B6'.out.alloc B6'.out.size _)
      have LB := hid M6.out.lt
      have z0 := MA.out.c0; have z1 := MA.out.c1; have z2 := MA.out.c2; have z3 := MA.out.c3; have z4 := MA.out.c4
      have T6_A := hid (T6.out.keep ((Below.refl _ _).alloc (Nat.le_refl _) (.cells #[.int .i64 0, .int .i64 0] 29)))
      have L_T6 := hid T6.out.lt
      have U6_A := hid (U6.out.keep ((Below.refl _ _).alloc (Nat.le_refl _) (.cells #[.int .i64 0, .int .i64 0] 29)))
      have L_U6 := hid U6.out.lt
      go_region_held3 (fun w' => w'.cell? ⟨w.heap.size, 0, none⟩ = some (.int .i64 n0) ∧ w'.cell? ⟨w.heap.size, 1, none⟩ = some (.int .i64 s) ∧ w'.cell? ⟨w.heap.size, 2, none⟩ = some (.int .i64 l0) ∧ w'.cell? ⟨w.heap.size, 3, none⟩ = some (.int .i64 f0) ∧ w'.cell? ⟨w.heap.size, 4, none⟩ = some (.int .i64 d))
        (first | with_reducible exact ⟨c0, c1, c2, c3, c4⟩ | with_reducible exact ⟨z0, z1, z2, z3, z4⟩ | with_reducible exact ⟨d0, d1, d2, d3, d4⟩ | with_reducible exact ⟨x0, x1, x2, x3, x4⟩ | with_reducible exact ⟨y0, y1, y2, y3, y4⟩ | go_keep)
        (first
          | (go_at_call 19; (with_reducible refine (HV.out _ B6'.out.drew).mono ?_); rintro e w7 ⟨rfl, b6⟩; have m6 := (show VarM wc.drew _ _ from M6.out).keep b6; have T6_6 := (show VarT wc.drew _ _ from T6.out).keep b6; have U6_6 := (show VarT wc.drew _ _ from U6.out).keep b6; have B6 := B6'.out.drew.trans (b6.mono B6'.out.size); have d0 : w7.cell? ⟨w.heap.size, 0, none⟩ = some (.int .i64 n0) := m6.c0; have d1 : w7.cell? ⟨w.heap.size, 1, none⟩ = some (.int .i64 s) := m6.c1; have d2 : w7.cell? ⟨w.heap.size, 2, none⟩ = some (.int .i64 l0) := m6.c2; have d3 : w7.cell? ⟨w.heap.size, 3, none⟩ = some (.int .i64 f0) := m6.c3; have d4 : w7.cell? ⟨w.heap.size, 4, none⟩ = some (.int .i64 d) := m6.c4; obtain ⟨u0, u1, u2, u3, VV, BV⟩ := fresh_t w7 ⟨vg, vb⟩; have m7 := m6.keep ((Below.refl _ _).alloc (Nat.le_refl _) (.cells #[.int .i64 0, .int .i64 0] 29)); have x0 : (w7.alloc (.cells #[.int .i64 0, .int .i64 0] 29)).cell? ⟨w.heap.size, 0, none⟩ = some (.int .i64 n0) := m7.c0; have x1 : (w7.alloc (.cells #[.int .i64 0, .int .i64 0] 29)).cell? ⟨w.heap.size, 1, none⟩ = some (.int .i64 s) := m7.c1; have x2 : (w7.alloc (.cells #[.int .i64 0, .int .i64 0] 29)).cell? ⟨w.heap.size, 2, none⟩ = some (.int .i64 l0) := m7.c2; have x3 : (w7.alloc (.cells #[.int .i64 0, .int .i64 0] 29)).cell? ⟨w.heap.size, 3, none⟩ = some (.int .i64 f0) := m7.c3; have x4 : (w7.alloc (.cells #[.int .i64 0, .int .i64 0] 29)).cell? ⟨w.heap.size, 4, none⟩ = some (.int .i64 d) := m7.c4; have RM := hid (m6.keep ((Below.refl _ _).alloc (Nat.le_refl _) (.cells #[.int .i64 vg, .int .i64 vb] 29))); have RU := hid (vart_new w7 ⟨vg, vb⟩); have RB := hid (B6.alloc B6.size (.cells #[.int .i64 vg, .int .i64 vb] 29)); have R_T6 := hid (T6_6.keep ((Below.refl _ _).alloc (Nat.le_refl _) (.cells #[.int .i64 vg, .int .i64 vb] 29))); have R_U6 := hid (U6_6.keep ((Below.refl _ _).alloc (Nat.le_refl _) (.cells #[.int .i64 vg, .int .i64 vb] 29))); clear m6 m7 VV BV B6 b6 T6_6 U6_6; dsimp only)
          | (go_at_call 19; (with_reducible refine (HV.out _ BA.out.drew).mono ?_); rintro e w7 ⟨rfl, b6⟩; have m6 := (show VarM (wc.alloc (.cells #[.int .i64 0, .int .i64 0] 29)).drew _ _ from MA.out).keep b6; have v6 := (show VarT (wc.alloc (.cells #[.int .i64 0, .int .i64 0] 29)).drew _ _ from VA.out).keep b6; have T6_6 := (show VarT (wc.alloc (.cells #[.int .i64 0, .int .i64 0] 29)).drew _ _ from T6_A.out).keep b6; have U6_6 := (show VarT (wc.alloc (.cells #[.int .i64 0, .int .i64 0] 29)).drew _ _ from U6_A.out).keep b6; have B6 := BA.out.drew.trans (b6.mono BA.out.size); have d0 : w7.cell? ⟨w.heap.size, 0, none⟩ = some (.int .i64 n0) := m6.c0; have d1 : w7.cell? ⟨w.heap.size, 1, none⟩ = some (.int .i64 s) := m6.c1; have d2 : w7.cell? ⟨w.heap.size, 2, none⟩ = some (.int .i64 l0) := m6.c2; have d3 : w7.cell? ⟨w.heap.size, 3, none⟩ = some (.int .i64 f0) := m6.c3; have d4 : w7.cell? ⟨w.heap.size, 4, none⟩ = some (.int .i64 d) := m6.c4; have u0 : w7.cell? ⟨wc.heap.size, 0, none⟩ = some (.int .i64 0) := v6.c0; have u1 : w7.cell? ⟨wc.heap.size, 1, none⟩ = some (.int .i64 0) := v6.c1; have u2 : w7.frozen? ⟨wc.heap.size, 0, none⟩ = false := (v6.2 0 (by omega)).2; have u3 : w7.frozen? ⟨wc.heap.size, 1, none⟩ = false := (v6.2 1 (by omega)).2; have VV : VarT ((w7.setCell ⟨wc.heap.size, 0, none⟩ (.int .i64 vg)).setCell ⟨wc.heap.size, 1, none⟩ (.int .i64 vb)) wc.heap.size ⟨vg, vb⟩ := vart_stored v6.2 ⟨vg, vb⟩; have BV : Below wc.heap.size w7 ((w7.setCell ⟨wc.heap.size, 0, none⟩ (.int .i64 vg)).setCell ⟨wc.heap.size, 1, none⟩ (.int .i64 vb)) := (setCells_oth wc.heap.size (enct ⟨vg, vb⟩) 0 w7).1; have m8 := m6.below BV LB.out; have y0 : ((w7.setCell ⟨wc.heap.size, 0, none⟩ (.int .i64 vg)).setCell ⟨wc.heap.size, 1, none⟩ (.int .i64 vb)).cell? ⟨w.heap.size, 0, none⟩ = some (.int .i64 n0) := m8.c0; have y1 : ((w7.setCell ⟨wc.heap.size, 0, none⟩ (.int .i64 vg)).setCell ⟨wc.heap.size, 1, none⟩ (.int .i64 vb)).cell? ⟨w.heap.size, 1, none⟩ = some (.int .i64 s) := m8.c1; have y2 : ((w7.setCell ⟨wc.heap.size, 0, none⟩ (.int .i64 vg)).setCell ⟨wc.heap.size, 1, none⟩ (.int .i64 vb)).cell? ⟨w.heap.size, 2, none⟩ = some (.int .i64 l0) := m8.c2; have y3 : ((w7.setCell ⟨wc.heap.size, 0, none⟩ (.int .i64 vg)).setCell ⟨wc.heap.size, 1, none⟩ (.int .i64 vb)).cell? ⟨w.heap.size, 3, none⟩ = some (.int .i64 f0) := m8.c3; have y4 : ((w7.setCell ⟨wc.heap.size, 0, none⟩ (.int .i64 vg)).setCell ⟨wc.heap.size, 1, none⟩ (.int .i64 vb)).cell? ⟨w.heap.size, 4, none⟩ = some (.int .i64 d) := m8.c4; have RM := hid m8; have RU := hid VV; have RB := hid (B6.trans (BV.mono B6'.out.size)); have R_T6 := hid (T6_6.below BV L_T6.out); have R_U6 := hid (U6_6.below BV L_U6.out); clear m6 m8 v6 VV BV B6 b6 T6_6 U6_6; dsimp only))

      all_goals
        go_wp2_with fail
        go_meet
        exact ⟨_, rfl, rfl, rfl, R_T6, R_U6, RU, RB⟩
    case rest =>
      obtain ⟨g21, rfl, rfl, rfl, T8, U8, V8, B8⟩ := hcut
      have e0 := T8.out.c0
      have e1 := T8.out.c1
      have f0 := U8.out.c0
      have f1 := U8.out.c1
      have h0 := V8.out.c0
      have h1 := V8.out.c1
      simp only at e0 e1 f0 f1 h0 h1
      obtain ⟨zz0, zz1, zz2, zz3, zz4, zz5, zz6, zz7⟩ := HZ.out
      go_wp2_with fail
      go_ret
      exact ⟨by first | rfl | exact ret_bool (by simp), B8.out⟩
end
theorem tmod_in (a : Int) (n : Nat) : -(n : Int) ≤ a.tmod ((n : Int) + 1) ∧ a.tmod ((n : Int) + 1) ≤ n := by
  rcases Int.le_total 0 a with h | h
  · rw [Int.tmod_eq_emod_of_nonneg h]
    have := Int.emod_nonneg a (show (n : Int) + 1 ≠ 0 by omega)
    have := Int.emod_lt_of_pos a (show 0 < (n : Int) + 1 by omega)
    omega
  · obtain ⟨b, rfl⟩ : ∃ b, a = -b := ⟨-a, by omega⟩
    rw [Int.neg_tmod, Int.tmod_eq_emod_of_nonneg (show 0 ≤ b by omega)]
    have := Int.emod_nonneg b (show (n : Int) + 1 ≠ 0 by omega)
    have := Int.emod_lt_of_pos b (show 0 < (n : Int) + 1 by omega)
    omega
theorem splits_walk (n0 s l0 f0 d me k k0 : Int) (own : Nat) (A : Option Addr) (n c : Nat) (l : List Int) (w : World) (hk : 0 ≤ k) (hnc : n ≤ c) (ha : Row w w.heap.size A n (sv l)) (hb : ∀ z ∈ l, KeyI z) (ho : own < 65536) :
    Calls Try.prog 9 #[mv ⟨n0, s, l0, f0, d⟩, .int .i64 me, .int .u16 (own : Int), .int .u64 k, .slice A n c, .int .i64 k0] w (TrueB w) := by
  have hl : l.length = n := by have := ha.1; rwa [sv_len] at this
  by_cases h100 : 100 < n
  · exact splits_long n0 s l0 f0 d me k k0 own A n c w h100
  · obtain ⟨r0, r1⟩ := tmod_in k0 n
    have hr : ∃ J : Nat, (k0.tmod ((n : Int) + 1) + n + 1).tmod ((n : Int) + 1) = (J : Int) ∧ J ≤ n := by
      have h1 := tmod_in (k0.tmod ((n : Int) + 1) + n + 1) n
      have h2 : 0 ≤ (k0.tmod ((n : Int) + 1) + n + 1).tmod ((n : Int) + 1) := Int.tmod_nonneg _ (by omega)
      exact ⟨((k0.tmod ((n : Int) + 1) + n + 1).tmod ((n : Int) + 1)).toNat, by omega, by omega⟩
    obtain ⟨J, e2, hJ⟩ := hr
    have HR := fun w' (b : Below w.heap.size w w') => round_any ⟨n0, s, l0, f0, d⟩ me k own A n c l w' hk (by omega) ((ha.below b).more b.size) hb ho
    rcases rndA_E ⟨n0, s, l0, f0, d⟩ me k l own with hE | hE
    · by_cases hJn : J = n
      · generalize rndA ⟨n0, s, l0, f0, d⟩ me k l own = R at *
        obtain ⟨P, T, E⟩ := R
        simp only at hE
        subst hE
        exact splits_all n0 s l0 f0 d me k k0 own A n c w (by omega) _ _ rfl r0 r1 e2 (by rw [beq_iff_eq]; omega) P T HR
      · obtain ⟨⟨P, T, E⟩, hRR⟩ : ∃ R, rndA ⟨n0, s, l0, f0, d⟩ me k l own = R := ⟨_, rfl⟩
        rw [hRR] at hE HR
        simp only at hE
        subst hE
        obtain ⟨a1, ⟨ug, ub⟩, ⟨vg, vb⟩, h1, h2, h3, h4, h5, b0, b1, b2, b3, b4, b5, b6, b7, b8⟩ := rndA_split _ me k l own P T J (by omega) (by omega) hRR
        obtain ⟨tg, tb⟩ := T
        simp only at h3 h4 b0 b1 b2 b3 b4 b5 b6 b7
        subst h3 h4
        obtain ⟨b, o, u, rfl, _⟩ := ha.at_ (show J < n by omega)
        have hn100 : n ≤ 100 := by omega
        refine splits_some n0 s l0 f0 d me k k0 own n c w hn100 hnc b o J _ rfl r0 r1 e2 (by omega) (by rw [beq_eq_false_iff_ne]; omega) P a1 ug ub vg vb HR (fun w' bw => ?_) (fun w' bw => ?_) ⟨b0, b1, b2, b3, b4, b5, b6, b7⟩
        · have hrow : Row w' w'.heap.size (some ⟨b, o, none⟩) J (sv (l.take J)) := by
            have := ((ha.below bw).more bw.size).take hJ
            rwa [show (sv l).take J = sv (l.take J) by simp [sv, List.map_take]] at this
          have := round_any ⟨n0, s, l0, f0, d⟩ me k own (some ⟨b, o, none⟩) J c (l.take J) w' hk (by omega) hrow (fun z hz => hb z (List.mem_of_mem_take hz)) ho
          rw [h1] at this
          exact this
        · have hrow : Row w' w'.heap.size (if c = J then some ⟨b, o, none⟩ else some ⟨b, o + J, none⟩) (n - J) (sv (l.drop J)) := by
            have := ((ha.below bw).more bw.size).cut (l := J) (r := n) (c := c) hJ (Nat.le_refl _) hnc
            rw [List.take_of_length_le (by rw [sv_len]; omega), show (sv l).drop J = sv (l.drop J) by simp [sv, List.map_drop]] at this
            rw [Option.map_some, plain_add] at this
            exact this
          have hwr : IntKind.u64.wrap (k + IntKind.u64.wrap (J : Int)) = k + (J : Int) := by
            rw [IntKind.wrap_u64, IntKind.wrap_u64]; omega
          rw [hwr]
          have := round_any ⟨n0, s, l0, f0, d⟩ me (k + (J : Int)) a1 _ (n - J) (c - J) (l.drop J) w' (by omega) (by omega) hrow (fun z hz => hb z (List.mem_of_mem_drop hz)) (h5 ho)
          rw [h2] at this
          exact this
    · rw [hE] at HR
      exact splits_err n0 s l0 f0 d me k k0 own A n c w (by omega) _ _ rfl r0 r1 e2 HR
end Go.Proofs.Ytbfaebobainhjaa
