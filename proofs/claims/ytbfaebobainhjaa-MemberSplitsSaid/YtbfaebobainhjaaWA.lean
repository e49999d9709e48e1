/-
  The walk of MemberAlike: it returns true at every schedule, two nodes, own members, slot and frame.
-/
import Derived.Test.YtbfaebobainhjaaH
import Derived.Test.YtbfaebobainhjaaG
namespace Go.Proofs.Ytbfaebobainhjaa
open Go Go.RowKit
def TrueB (w : World) (e : Ending) (w' : World) : Prop := e = .returned (.bool true) ∧ Below w.heap.size w w'
section
variable (n s l f d : Int) (a b : Int) (k : Int) (own : Nat) (fk ff : Int) (fs fm : Nat) (w : World)
set_option maxHeartbeats 4000000 in
set_option maxRecDepth 100000 in
theorem alike_o  (HO : ∀ w, Calls Try.prog 21 #[mv ⟨n, s, l, f, d⟩, .int .u64 k] w (RetO 0 1 w)) : Calls Try.prog 5 #[mv ⟨n, s, l, f, d⟩, .int .i64 a, .int .i64 b, .int .u16 (own : Int), .int .u64 k, fv ⟨fk, ff, fs, fm⟩] w (TrueB w) := by
  have HL := hid live_any
  replace HO := hid HO
  go_enter Try.func5, Try.ntmps5
  go_wp2_with (first
    | (go_at_call 21; (with_reducible refine (HO.out w3).mono ?_); rintro e w4 ⟨rfl, b4⟩; have m4 := m3.keep b4; have f4 := f3.keep b4; have B4 : Hid (Below w.heap.size w w4) := hid (B3.out.trans (b4.mono B3.out.size)))
    | (refine wpList_ldm rfl (.tmp 6) rfl rfl m3 ?_)
    | (go_at_call 10; (with_reducible refine (HL.out w2).mono ?_); rintro e w3 ⟨rfl, b3⟩; have m3 := m2.keep b3; have f3 := f2.keep b3; have B3 : Hid (Below w.heap.size w w3) := hid (B2.out.trans (b3.mono B2.out.size)))
    | (refine wpList_boxf (x := ⟨fk, ff, fs, fm⟩) rfl (.tmp 5) rfl rfl ?_; intro w2 f2 b2 s2; have m2 := v1.keep b2; have B2 : Hid (Below w.heap.size w w2) := hid (b1.trans (b2.mono b1.size)))
    | (refine wpList_boxm (x := ⟨n, s, l, f, d⟩) rfl (.tmp 0) rfl rfl ?_; intro w1 v1 b1 s1))
  go_ret
  exact ⟨by first | rfl | exact ret_bool (by simp), B4.out⟩
set_option maxHeartbeats 4000000 in
set_option maxRecDepth 100000 in
theorem alike_j1 (O : Int) (HO : ∀ w, Calls Try.prog 21 #[mv ⟨n, s, l, f, d⟩, .int .u64 k] w (RetO O 0 w))(J1 : ∀ w, Calls Try.prog 11 #[mv ⟨n, s, l, f, d⟩, .int .i64 a, .int .u16 (own : Int), .int .u64 k, fv ⟨fk, ff, fs, fm⟩] w (RetO 0 1 w)) (V2 E2 : Int) (J2 : ∀ w, Calls Try.prog 11 #[mv ⟨n, s, l, f, d⟩, .int .i64 b, .int .u16 (own : Int), .int .u64 k, fv ⟨fk, ff, fs, fm⟩] w (RetO V2 E2 w)) : Calls Try.prog 5 #[mv ⟨n, s, l, f, d⟩, .int .i64 a, .int .i64 b, .int .u16 (own : Int), .int .u64 k, fv ⟨fk, ff, fs, fm⟩] w (TrueB w) := by
  have HL := hid live_any
  replace HO := hid HO
  replace J1 := hid J1
  replace J2 := hid J2
  go_enter Try.func5, Try.ntmps5
  go_wp2_with (first
    | (go_at_call 11; (with_reducible refine (J2.out w5).mono ?_); rintro e w6 ⟨rfl, b6⟩; have m6 := m5.keep b6; have f6 := f5.keep b6; have c3 : w6.cell? ⟨w1.heap.size, 3, none⟩ = some (.int .u16 (fm : Int)) := f6.c3; have B6 : Hid (Below w.heap.size w w6) := hid (B5.out.trans (b6.mono B5.out.size)))
    | (refine wpList_ldf rfl (.tmp 11) rfl rfl f5 ?_)
    | (refine wpList_ldm rfl (.tmp 6) rfl rfl m5 ?_)
    | (go_at_call 11; (with_reducible refine (J1.out w4).mono ?_); rintro e w5 ⟨rfl, b5⟩; have m5 := m4.keep b5; have f5 := f4.keep b5; have B5 : Hid (Below w.heap.size w w5) := hid (B4.out.trans (b5.mono B4.out.size)))
    | (refine wpList_ldf rfl (.tmp 11) rfl rfl f4 ?_)
    | (refine wpList_ldm rfl (.tmp 6) rfl rfl m4 ?_)
    | (go_at_call 21; (with_reducible refine (HO.out w3).mono ?_); rintro e w4 ⟨rfl, b4⟩; have m4 := m3.keep b4; have f4 := f3.keep b4; have B4 : Hid (Below w.heap.size w w4) := hid (B3.out.trans (b4.mono B3.out.size)))
    | (refine wpList_ldm rfl (.tmp 6) rfl rfl m3 ?_)
    | (go_at_call 10; (with_reducible refine (HL.out w2).mono ?_); rintro e w3 ⟨rfl, b3⟩; have m3 := m2.keep b3; have f3 := f2.keep b3; have B3 : Hid (Below w.heap.size w w3) := hid (B2.out.trans (b3.mono B2.out.size)))
    | (refine wpList_boxf (x := ⟨fk, ff, fs, fm⟩) rfl (.tmp 5) rfl rfl ?_; intro w2 f2 b2 s2; have m2 := v1.keep b2; have B2 : Hid (Below w.heap.size w w2) := hid (b1.trans (b2.mono b1.size)))
    | (refine wpList_boxm (x := ⟨n, s, l, f, d⟩) rfl (.tmp 0) rfl rfl ?_; intro w1 v1 b1 s1))
  go_ret
  exact ⟨by first | rfl | exact ret_bool (by simp), B6.out⟩
set_option maxHeartbeats 4000000 in
set_option maxRecDepth 100000 in
theorem alike_j2 (O V1 : Int) (HO : ∀ w, Calls Try.prog 21 #[mv ⟨n, s, l, f, d⟩, .int .u64 k] w (RetO O 0 w))(J1 : ∀ w, Calls Try.prog 11 #[mv ⟨n, s, l, f, d⟩, .int .i64 a, .int .u16 (own : Int), .int .u64 k, fv ⟨fk, ff, fs, fm⟩] w (RetO V1 0 w))(J2 : ∀ w, Calls Try.prog 11 #[mv ⟨n, s, l, f, d⟩, .int .i64 b, .int .u16 (own : Int), .int .u64 k, fv ⟨fk, ff, fs, fm⟩] w (RetO 0 1 w)) : Calls Try.prog 5 #[mv ⟨n, s, l, f, d⟩, .int .i64 a, .int .i64 b, .int .u16 (own : Int), .int .u64 k, fv ⟨fk, ff, fs, fm⟩] w (TrueB w) := by
  have HL := hid live_any
  replace HO := hid HO
  replace J1 := hid J1
  replace J2 := hid J2
  go_enter Try.func5, Try.ntmps5
  go_wp2_with (first
    | (go_at_call 11; (with_reducible refine (J2.out w5).mono ?_); rintro e w6 ⟨rfl, b6⟩; have m6 := m5.keep b6; have f6 := f5.keep b6; have c3 : w6.cell? ⟨w1.heap.size, 3, none⟩ = some (.int .u16 (fm : Int)) := f6.c3; have B6 : Hid (Below w.heap.size w w6) := hid (B5.out.trans (b6.mono B5.out.size)))
    | (refine wpList_ldf rfl (.tmp 11) rfl rfl f5 ?_)
    | (refine wpList_ldm rfl (.tmp 6) rfl rfl m5 ?_)
    | (go_at_call 11; (with_reducible refine (J1.out w4).mono ?_); rintro e w5 ⟨rfl, b5⟩; have m5 := m4.keep b5; have f5 := f4.keep b5; have B5 : Hid (Below w.heap.size w w5) := hid (B4.out.trans (b5.mono B4.out.size)))
    | (refine wpList_ldf rfl (.tmp 11) rfl rfl f4 ?_)
    | (refine wpList_ldm rfl (.tmp 6) rfl rfl m4 ?_)
    | (go_at_call 21; (with_reducible refine (HO.out w3).mono ?_); rintro e w4 ⟨rfl, b4⟩; have m4 := m3.keep b4; have f4 := f3.keep b4; have B4 : Hid (Below w.heap.size w w4) := hid (B3.out.trans (b4.mono B3.out.size)))
    | (refine wpList_ldm rfl (.tmp 6) rfl rfl m3 ?_)
    | (go_at_call 10; (with_reducible refine (HL.out w2).mono ?_); rintro e w3 ⟨rfl, b3⟩; have m3 := m2.keep b3; have f3 := f2.keep b3; have B3 : Hid (Below w.heap.size w w3) := hid (B2.out.trans (b3.mono B2.out.size)))
    | (refine wpList_boxf (x := ⟨fk, ff, fs, fm⟩) rfl (.tmp 5) rfl rfl ?_; intro w2 f2 b2 s2; have m2 := v1.keep b2; have B2 : Hid (Below w.heap.size w w2) := hid (b1.trans (b2.mono b1.size)))
    | (refine wpList_boxm (x := ⟨n, s, l, f, d⟩) rfl (.tmp 0) rfl rfl ?_; intro w1 v1 b1 s1))
  go_ret
  exact ⟨by first | rfl | exact ret_bool (by simp), B6.out⟩
set_option maxHeartbeats 4000000 in
set_option maxRecDepth 100000 in
theorem alike_x2 (O V2 : Int) (HO : ∀ w, Calls Try.prog 21 #[mv ⟨n, s, l, f, d⟩, .int .u64 k] w (RetO O 0 w))(J1 : ∀ w, Calls Try.prog 11 #[mv ⟨n, s, l, f, d⟩, .int .i64 a, .int .u16 (own : Int), .int .u64 k, fv ⟨fk, ff, fs, fm⟩] w (RetO 2 0 w))(J2 : ∀ w, Calls Try.prog 11 #[mv ⟨n, s, l, f, d⟩, .int .i64 b, .int .u16 (own : Int), .int .u64 k, fv ⟨fk, ff, fs, fm⟩] w (RetO V2 0 w))(S1 : ∀ w, Calls Try.prog 22 #[.int .u16 (own : Int), .int .i64 a] w fun e w' => e = .returned (.bool true) ∧ w = w') (S2 : ∀ w, Calls Try.prog 22 #[.int .u16 (fm : Int), .int .i64 a] w fun e w' => e = .returned (.bool false) ∧ w = w') : Calls Try.prog 5 #[mv ⟨n, s, l, f, d⟩, .int .i64 a, .int .i64 b, .int .u16 (own : Int), .int .u64 k, fv ⟨fk, ff, fs, fm⟩] w (TrueB w) := by
  have HL := hid live_any
  replace HO := hid HO
  replace J1 := hid J1
  replace J2 := hid J2
  replace S1 := hid S1
  replace S2 := hid S2
  go_enter Try.func5, Try.ntmps5
  go_wp2_with (first
    | (go_at_call 22; (with_reducible refine (S2.out w6).mono ?_); rintro e w' ⟨rfl, rfl⟩)
    | (go_at_call 22; (with_reducible refine (S1.out w6).mono ?_); rintro e w' ⟨rfl, rfl⟩)
    | (go_at_call 11; (with_reducible refine (J2.out w5).mono ?_); rintro e w6 ⟨rfl, b6⟩; have m6 := m5.keep b6; have f6 := f5.keep b6; have c3 : w6.cell? ⟨w1.heap.size, 3, none⟩ = some (.int .u16 (fm : Int)) := f6.c3; have B6 : Hid (Below w.heap.size w w6) := hid (B5.out.trans (b6.mono B5.out.size)))
    | (refine wpList_ldf rfl (.tmp 11) rfl rfl f5 ?_)
    | (refine wpList_ldm rfl (.tmp 6) rfl rfl m5 ?_)
    | (go_at_call 11; (with_reducible refine (J1.out w4).mono ?_); rintro e w5 ⟨rfl, b5⟩; have m5 := m4.keep b5; have f5 := f4.keep b5; have B5 : Hid (Below w.heap.size w w5) := hid (B4.out.trans (b5.mono B4.out.size)))
    | (refine wpList_ldf rfl (.tmp 11) rfl rfl f4 ?_)
    | (refine wpList_ldm rfl (.tmp 6) rfl rfl m4 ?_)
    | (go_at_call 21; (with_reducible refine (HO.out w3).mono ?_); rintro e w4 ⟨rfl, b4⟩; have m4 := m3.keep b4; have f4 := f3.keep b4; have B4 : Hid (Below w.heap.size w w4) := hid (B3.out.trans (b4.mono B3.out.size)))
    | (refine wpList_ldm rfl (.tmp 6) rfl rfl m3 ?_)
    | (go_at_call 10; (with_reducible refine (HL.out w2).mono ?_); rintro e w3 ⟨rfl, b3⟩; have m3 := m2.keep b3; have f3 := f2.keep b3; have B3 : Hid (Below w.heap.size w w3) := hid (B2.out.trans (b3.mono B2.out.size)))
    | (refine wpList_boxf (x := ⟨fk, ff, fs, fm⟩) rfl (.tmp 5) rfl rfl ?_; intro w2 f2 b2 s2; have m2 := v1.keep b2; have B2 : Hid (Below w.heap.size w w2) := hid (b1.trans (b2.mono b1.size)))
    | (refine wpList_boxm (x := ⟨n, s, l, f, d⟩) rfl (.tmp 0) rfl rfl ?_; intro w1 v1 b1 s1))
  go_ret
  exact ⟨by first | rfl | exact ret_bool (by simp), B6.out⟩
set_option maxHeartbeats 4000000 in
set_option maxRecDepth 100000 in
theorem alike_y2 (O V1 : Int) (HO : ∀ w, Calls Try.prog 21 #[mv ⟨n, s, l, f, d⟩, .int .u64 k] w (RetO O 0 w))(J1 : ∀ w, Calls Try.prog 11 #[mv ⟨n, s, l, f, d⟩, .int .i64 a, .int .u16 (own : Int), .int .u64 k, fv ⟨fk, ff, fs, fm⟩] w (RetO V1 0 w))(J2 : ∀ w, Calls Try.prog 11 #[mv ⟨n, s, l, f, d⟩, .int .i64 b, .int .u16 (own : Int), .int .u64 k, fv ⟨fk, ff, fs, fm⟩] w (RetO 2 0 w)) (h1 : (V1 == 2) = false) (h2 : (V1 != 2) = true) : Calls Try.prog 5 #[mv ⟨n, s, l, f, d⟩, .int .i64 a, .int .i64 b, .int .u16 (own : Int), .int .u64 k, fv ⟨fk, ff, fs, fm⟩] w (TrueB w) := by
  have HL := hid live_any
  replace HO := hid HO
  replace J1 := hid J1
  replace J2 := hid J2
  go_enter Try.func5, Try.ntmps5
  go_wp2_with (first
    | (go_at_call 11; (with_reducible refine (J2.out w5).mono ?_); rintro e w6 ⟨rfl, b6⟩; have m6 := m5.keep b6; have f6 := f5.keep b6; have c3 : w6.cell? ⟨w1.heap.size, 3, none⟩ = some (.int .u16 (fm : Int)) := f6.c3; have B6 : Hid (Below w.heap.size w w6) := hid (B5.out.trans (b6.mono B5.out.size)))
    | (refine wpList_ldf rfl (.tmp 11) rfl rfl f5 ?_)
    | (refine wpList_ldm rfl (.tmp 6) rfl rfl m5 ?_)
    | (go_at_call 11; (with_reducible refine (J1.out w4).mono ?_); rintro e w5 ⟨rfl, b5⟩; have m5 := m4.keep b5; have f5 := f4.keep b5; have B5 : Hid (Below w.heap.size w w5) := hid (B4.out.trans (b5.mono B4.out.size)))
    | (refine wpList_ldf rfl (.tmp 11) rfl rfl f4 ?_)
    | (refine wpList_ldm rfl (.tmp 6) rfl rfl m4 ?_)
    | (go_at_call 21; (with_reducible refine (HO.out w3).mono ?_); rintro e w4 ⟨rfl, b4⟩; have m4 := m3.keep b4; have f4 := f3.keep b4; have B4 : Hid (Below w.heap.size w w4) := hid (B3.out.trans (b4.mono B3.out.size)))
    | (refine wpList_ldm rfl (.tmp 6) rfl rfl m3 ?_)
    | (go_at_call 10; (with_reducible refine (HL.out w2).mono ?_); rintro e w3 ⟨rfl, b3⟩; have m3 := m2.keep b3; have f3 := f2.keep b3; have B3 : Hid (Below w.heap.size w w3) := hid (B2.out.trans (b3.mono B2.out.size)))
    | (refine wpList_boxf (x := ⟨fk, ff, fs, fm⟩) rfl (.tmp 5) rfl rfl ?_; intro w2 f2 b2 s2; have m2 := v1.keep b2; have B2 : Hid (Below w.heap.size w w2) := hid (b1.trans (b2.mono b1.size)))
    | (refine wpList_boxm (x := ⟨n, s, l, f, d⟩) rfl (.tmp 0) rfl rfl ?_; intro w1 v1 b1 s1))
  go_ret
  exact ⟨by first | rfl | exact ret_bool (by simp), B6.out⟩
set_option maxHeartbeats 4000000 in
set_option maxRecDepth 100000 in
theorem alike_a (O V : Int) (P Q : Nat) (HO : ∀ w, Calls Try.prog 21 #[mv ⟨n, s, l, f, d⟩, .int .u64 k] w (RetO O 0 w))(J1 : ∀ w, Calls Try.prog 11 #[mv ⟨n, s, l, f, d⟩, .int .i64 a, .int .u16 (own : Int), .int .u64 k, fv ⟨fk, ff, fs, fm⟩] w (RetO V 0 w))(J2 : ∀ w, Calls Try.prog 11 #[mv ⟨n, s, l, f, d⟩, .int .i64 b, .int .u16 (own : Int), .int .u64 k, fv ⟨fk, ff, fs, fm⟩] w (RetO V 0 w)) (h1 : (V == 2) = false) (A1 : ∀ w, Calls Try.prog 13 #[mv ⟨n, s, l, f, d⟩, .int .i64 a, .int .u16 (own : Int), .int .u64 k, .int .i64 V] w (RetA P 0 w))(A2 : ∀ w, Calls Try.prog 13 #[mv ⟨n, s, l, f, d⟩, .int .i64 b, .int .u16 (own : Int), .int .u64 k, .int .i64 V] w (RetA Q 0 w)) (h3 : (a == O) = true) : Calls Try.prog 5 #[mv ⟨n, s, l, f, d⟩, .int .i64 a, .int .i64 b, .int .u16 (own : Int), .int .u64 k, fv ⟨fk, ff, fs, fm⟩] w (TrueB w) := by
  have HL := hid live_any
  replace HO := hid HO
  replace J1 := hid J1
  replace J2 := hid J2
  replace A1 := hid A1
  replace A2 := hid A2
  go_enter Try.func5, Try.ntmps5
  go_wp2_with (first
    | (go_at_call 13; (with_reducible refine (A2.out w7).mono ?_); rintro e w8 ⟨rfl, b8⟩; have m8 := m7.keep b8; have f8 := f7.keep b8; have B8 : Hid (Below w.heap.size w w8) := hid (B7.out.trans (b8.mono B7.out.size)))
    | (refine wpList_ldm rfl (.tmp 6) rfl rfl m7 ?_)
    | (go_at_call 13; (with_reducible refine (A1.out w6).mono ?_); rintro e w7 ⟨rfl, b7⟩; have m7 := m6.keep b7; have f7 := f6.keep b7; have B7 : Hid (Below w.heap.size w w7) := hid (B6.out.trans (b7.mono B6.out.size)))
    | (refine wpList_ldm rfl (.tmp 6) rfl rfl m6 ?_)
    | (go_at_call 11; (with_reducible refine (J2.out w5).mono ?_); rintro e w6 ⟨rfl, b6⟩; have m6 := m5.keep b6; have f6 := f5.keep b6; have c3 : w6.cell? ⟨w1.heap.size, 3, none⟩ = some (.int .u16 (fm : Int)) := f6.c3; have B6 : Hid (Below w.heap.size w w6) := hid (B5.out.trans (b6.mono B5.out.size)))
    | (refine wpList_ldf rfl (.tmp 11) rfl rfl f5 ?_)
    | (refine wpList_ldm rfl (.tmp 6) rfl rfl m5 ?_)
    | (go_at_call 11; (with_reducible refine (J1.out w4).mono ?_); rintro e w5 ⟨rfl, b5⟩; have m5 := m4.keep b5; have f5 := f4.keep b5; have B5 : Hid (Below w.heap.size w w5) := hid (B4.out.trans (b5.mono B4.out.size)))
    | (refine wpList_ldf rfl (.tmp 11) rfl rfl f4 ?_)
    | (refine wpList_ldm rfl (.tmp 6) rfl rfl m4 ?_)
    | (go_at_call 21; (with_reducible refine (HO.out w3).mono ?_); rintro e w4 ⟨rfl, b4⟩; have m4 := m3.keep b4; have f4 := f3.keep b4; have B4 : Hid (Below w.heap.size w w4) := hid (B3.out.trans (b4.mono B3.out.size)))
    | (refine wpList_ldm rfl (.tmp 6) rfl rfl m3 ?_)
    | (go_at_call 10; (with_reducible refine (HL.out w2).mono ?_); rintro e w3 ⟨rfl, b3⟩; have m3 := m2.keep b3; have f3 := f2.keep b3; have B3 : Hid (Below w.heap.size w w3) := hid (B2.out.trans (b3.mono B2.out.size)))
    | (refine wpList_boxf (x := ⟨fk, ff, fs, fm⟩) rfl (.tmp 5) rfl rfl ?_; intro w2 f2 b2 s2; have m2 := v1.keep b2; have B2 : Hid (Below w.heap.size w w2) := hid (b1.trans (b2.mono b1.size)))
    | (refine wpList_boxm (x := ⟨n, s, l, f, d⟩) rfl (.tmp 0) rfl rfl ?_; intro w1 v1 b1 s1))
  go_ret
  exact ⟨by first | rfl | exact ret_bool (by simp), B8.out⟩
set_option maxHeartbeats 4000000 in
set_option maxRecDepth 100000 in
theorem alike_b (O V : Int) (P Q : Nat) (HO : ∀ w, Calls Try.prog 21 #[mv ⟨n, s, l, f, d⟩, .int .u64 k] w (RetO O 0 w))(J1 : ∀ w, Calls Try.prog 11 #[mv ⟨n, s, l, f, d⟩, .int .i64 a, .int .u16 (own : Int), .int .u64 k, fv ⟨fk, ff, fs, fm⟩] w (RetO V 0 w))(J2 : ∀ w, Calls Try.prog 11 #[mv ⟨n, s, l, f, d⟩, .int .i64 b, .int .u16 (own : Int), .int .u64 k, fv ⟨fk, ff, fs, fm⟩] w (RetO V 0 w)) (h1 : (V == 2) = false) (A1 : ∀ w, Calls Try.prog 13 #[mv ⟨n, s, l, f, d⟩, .int .i64 a, .int .u16 (own : Int), .int .u64 k, .int .i64 V] w (RetA P 0 w))(A2 : ∀ w, Calls Try.prog 13 #[mv ⟨n, s, l, f, d⟩, .int .i64 b, .int .u16 (own : Int), .int .u64 k, .int .i64 V] w (RetA Q 0 w)) (h3 : (a == O) = false) (h4 : (b == O) = true) : Calls Try.prog 5 #[mv ⟨n, s, l, f, d⟩, .int .i64 a, .int .i64 b, .int .u16 (own : Int), .int .u64 k, fv ⟨fk, ff, fs, fm⟩] w (TrueB w) := by
  have HL := hid live_any
  replace HO := hid HO
  replace J1 := hid J1
  replace J2 := hid J2
  replace A1 := hid A1
  replace A2 := hid A2
  go_enter Try.func5, Try.ntmps5
  go_wp2_with (first
    | (go_at_call 13; (with_reducible refine (A2.out w7).mono ?_); rintro e w8 ⟨rfl, b8⟩; have m8 := m7.keep b8; have f8 := f7.keep b8; have B8 : Hid (Below w.heap.size w w8) := hid (B7.out.trans (b8.mono B7.out.size)))
    | (refine wpList_ldm rfl (.tmp 6) rfl rfl m7 ?_)
    | (go_at_call 13; (with_reducible refine (A1.out w6).mono ?_); rintro e w7 ⟨rfl, b7⟩; have m7 := m6.keep b7; have f7 := f6.keep b7; have B7 : Hid (Below w.heap.size w w7) := hid (B6.out.trans (b7.mono B6.out.size)))
    | (refine wpList_ldm rfl (.tmp 6) rfl rfl m6 ?_)
    | (go_at_call 11; (with_reducible refine (J2.out w5).mono ?_); rintro e w6 ⟨rfl, b6⟩; have m6 := m5.keep b6; have f6 := f5.keep b6; have c3 : w6.cell? ⟨w1.heap.size, 3, none⟩ = some (.int .u16 (fm : Int)) := f6.c3; have B6 : Hid (Below w.heap.size w w6) := hid (B5.out.trans (b6.mono B5.out.size)))
    | (refine wpList_ldf rfl (.tmp 11) rfl rfl f5 ?_)
    | (refine wpList_ldm rfl (.tmp 6) rfl rfl m5 ?_)
    | (go_at_call 11; (with_reducible refine (J1.out w4).mono ?_); rintro e w5 ⟨rfl, b5⟩; have m5 := m4.keep b5; have f5 := f4.keep b5; have B5 : Hid (Below w.heap.size w w5) := hid (B4.out.trans (b5.mono B4.out.size)))
    | (refine wpList_ldf rfl (.tmp 11) rfl rfl f4 ?_)
    | (refine wpList_ldm rfl (.tmp 6) rfl rfl m4 ?_)
    | (go_at_call 21; (with_reducible refine (HO.out w3).mono ?_); rintro e w4 ⟨rfl, b4⟩; have m4 := m3.keep b4; have f4 := f3.keep b4; have B4 : Hid (Below w.heap.size w w4) := hid (B3.out.trans (b4.mono B3.out.size)))
    | (refine wpList_ldm rfl (.tmp 6) rfl rfl m3 ?_)
    | (go_at_call 10; (with_reducible refine (HL.out w2).mono ?_); rintro e w3 ⟨rfl, b3⟩; have m3 := m2.keep b3; have f3 := f2.keep b3; have B3 : Hid (Below w.heap.size w w3) := hid (B2.out.trans (b3.mono B2.out.size)))
    | (refine wpList_boxf (x := ⟨fk, ff, fs, fm⟩) rfl (.tmp 5) rfl rfl ?_; intro w2 f2 b2 s2; have m2 := v1.keep b2; have B2 : Hid (Below w.heap.size w w2) := hid (b1.trans (b2.mono b1.size)))
    | (refine wpList_boxm (x := ⟨n, s, l, f, d⟩) rfl (.tmp 0) rfl rfl ?_; intro w1 v1 b1 s1))
  go_ret
  exact ⟨by first | rfl | exact ret_bool (by simp), B8.out⟩
set_option maxHeartbeats 4000000 in
set_option maxRecDepth 100000 in
theorem alike_s (O V : Int) (P : Nat) (HO : ∀ w, Calls Try.prog 21 #[mv ⟨n, s, l, f, d⟩, .int .u64 k] w (RetO O 0 w))(J1 : ∀ w, Calls Try.prog 11 #[mv ⟨n, s, l, f, d⟩, .int .i64 a, .int .u16 (own : Int), .int .u64 k, fv ⟨fk, ff, fs, fm⟩] w (RetO V 0 w))(J2 : ∀ w, Calls Try.prog 11 #[mv ⟨n, s, l, f, d⟩, .int .i64 b, .int .u16 (own : Int), .int .u64 k, fv ⟨fk, ff, fs, fm⟩] w (RetO V 0 w)) (h1 : (V == 2) = false) (A1 : ∀ w, Calls Try.prog 13 #[mv ⟨n, s, l, f, d⟩, .int .i64 a, .int .u16 (own : Int), .int .u64 k, .int .i64 V] w (RetA P 0 w))(A2 : ∀ w, Calls Try.prog 13 #[mv ⟨n, s, l, f, d⟩, .int .i64 b, .int .u16 (own : Int), .int .u64 k, .int .i64 V] w (RetA P 0 w)) (h3 : (a == O) = false) (h4 : (b == O) = false) : Calls Try.prog 5 #[mv ⟨n, s, l, f, d⟩, .int .i64 a, .int .i64 b, .int .u16 (own : Int), .int .u64 k, fv ⟨fk, ff, fs, fm⟩] w (TrueB w) := by
  have HL := hid live_any
  replace HO := hid HO
  replace J1 := hid J1
  replace J2 := hid J2
  replace A1 := hid A1
  replace A2 := hid A2
  go_enter Try.func5, Try.ntmps5
  go_wp2_with (first
    | (go_at_call 13; (with_reducible refine (A2.out w7).mono ?_); rintro e w8 ⟨rfl, b8⟩; have m8 := m7.keep b8; have f8 := f7.keep b8; have B8 : Hid (Below w.heap.size w w8) := hid (B7.out.trans (b8.mono B7.out.size)))
    | (refine wpList_ldm rfl (.tmp 6) rfl rfl m7 ?_)
    | (go_at_call 13; (with_reducible refine (A1.out w6).mono ?_); rintro e w7 ⟨rfl, b7⟩; have m7 := m6.keep b7; have f7 := f6.keep b7; have B7 : Hid (Below w.heap.size w w7) := hid (B6.out.trans (b7.mono B6.out.size)))
    | (refine wpList_ldm rfl (.tmp 6) rfl rfl m6 ?_)
    | (go_at_call 11; (with_reducible refine (J2.out w5).mono ?_); rintro e w6 ⟨rfl, b6⟩; have m6 := m5.keep b6; have f6 := f5.keep b6; have c3 : w6.cell? ⟨w1.heap.size, 3, none⟩ = some (.int .u16 (fm : Int)) := f6.c3; have B6 : Hid (Below w.heap.size w w6) := hid (B5.out.trans (b6.mono B5.out.size)))
    | (refine wpList_ldf rfl (.tmp 11) rfl rfl f5 ?_)
    | (refine wpList_ldm rfl (.tmp 6) rfl rfl m5 ?_)
    | (go_at_call 11; (with_reducible refine (J1.out w4).mono ?_); rintro e w5 ⟨rfl, b5⟩; have m5 := m4.keep b5; have f5 := f4.keep b5; have B5 : Hid (Below w.heap.size w w5) := hid (B4.out.trans (b5.mono B4.out.size)))
    | (refine wpList_ldf rfl (.tmp 11) rfl rfl f4 ?_)
    | (refine wpList_ldm rfl (.tmp 6) rfl rfl m4 ?_)
    | (go_at_call 21; (with_reducible refine (HO.out w3).mono ?_); rintro e w4 ⟨rfl, b4⟩; have m4 := m3.keep b4; have f4 := f3.keep b4; have B4 : Hid (Below w.heap.size w w4) := hid (B3.out.trans (b4.mono B3.out.size)))
    | (refine wpList_ldm rfl (.tmp 6) rfl rfl m3 ?_)
    | (go_at_call 10; (with_reducible refine (HL.out w2).mono ?_); rintro e w3 ⟨rfl, b3⟩; have m3 := m2.keep b3; have f3 := f2.keep b3; have B3 : Hid (Below w.heap.size w w3) := hid (B2.out.trans (b3.mono B2.out.size)))
    | (refine wpList_boxf (x := ⟨fk, ff, fs, fm⟩) rfl (.tmp 5) rfl rfl ?_; intro w2 f2 b2 s2; have m2 := v1.keep b2; have B2 : Hid (Below w.heap.size w w2) := hid (b1.trans (b2.mono b1.size)))
    | (refine wpList_boxm (x := ⟨n, s, l, f, d⟩) rfl (.tmp 0) rfl rfl ?_; intro w1 v1 b1 s1))
  go_ret
  exact ⟨by first | rfl | exact ret_bool (by simp), B8.out⟩
end
theorem jV_cases (O me : Nat) (k : Int) (own : Nat) (y : Fr) : jV O me k own y = 1 ∨ jV O me k own y = 2 ∨ jV O me k own y = 3 := by
  unfold jV; repeat' split
  all_goals omega
theorem jV_two (O me : Nat) (k : Int) (own : Nat) (y : Fr) (h : jV O me k own y = 2) : hs own me = true ∧ hs y.m me = false := by
  unfold jV at h
  split at h
  · split at h
    · omega
    · split at h
      · rename_i h1 h2 h3
        have hne : O ≠ me := fun e => by subst e; rw [addb_sub] at h3; exact h2 h3
        have h4 : hs own me = true := by
          cases e : hs own me with
          | true => rfl
          | false => rw [subb_no _ _ e] at h3; exact absurd h3 h2
        refine ⟨h4, ?_⟩
        rw [h3, hs_addb, hs_subb]; simp [hne]
      · omega
  · omega
theorem jV_same (O a b : Nat) (k : Int) (own : Nat) (y : Fr) (h1 : jV O a k own y ≠ 2) (h2 : jV O b k own y ≠ 2) : jV O a k own y = jV O b k own y := by
  unfold jV at h1 h2 ⊢
  by_cases c1 : y.f = (O : Int) ∧ (y.s : Int) = k
  · rw [if_pos c1] at h1 h2 ⊢
    rw [if_pos c1]
    by_cases c2 : y.m = addb own O
    · rw [if_pos c2, if_pos c2]
    · rw [if_neg c2] at h1 h2 ⊢
      rw [if_neg c2]
      have a1 : ¬ y.m = addb (subb own a) O := fun e => h1 (if_pos e)
      have a2 : ¬ y.m = addb (subb own b) O := fun e => h2 (if_pos e)
      rw [if_neg a1, if_neg a2]
  · rw [if_neg c1, if_neg c1]
theorem aft_same (O a b own : Nat) (v : Int) (ha : O ≠ a) (hb : O ≠ b) (hv : v ≠ 2) : aft O a own v = aft O b own v := by
  unfold aft
  rw [if_neg ha, if_neg hb, if_neg hv, if_neg hv]
theorem after_ok (x : Md) (me k v : Int) (own : Nat) (w : World) (hk : 0 ≤ k) (ho : own < 65536) (hm : May x me k) (hv : OkV v) :
    Calls Try.prog 13 #[mv x, .int .i64 me, .int .u16 (own : Int), .int .u64 k, .int .i64 v] w (RetA (aft (slO x k) me.toNat own v) 0 w) := by
  have h := after_any x me k v own w hk ho (by unfold OkV at hv; unfold KeyI; omega)
  unfold aftM aftE at h
  rw [if_pos ⟨hm, hv⟩, if_pos ⟨hm, hv⟩] at h
  exact h
theorem judge_ok (x : Md) (me k : Int) (own : Nat) (y : Fr) (w : World) (hk : 0 ≤ k) (ho : own < 65536) (hm : May x me k) (hf : OkF y) :
    Calls Try.prog 11 #[mv x, .int .i64 me, .int .u16 (own : Int), .int .u64 k, fv y] w (RetO (jV (slO x k) me.toNat k own y) 0 w) := by
  have h := judge_any x me k own y w hk ho
  unfold judV judE at h
  rw [if_pos ⟨hm, hf⟩, if_pos ⟨hm, hf⟩] at h
  exact h
theorem judge_err (x : Md) (me k : Int) (own : Nat) (y : Fr) (w : World) (hk : 0 ≤ k) (ho : own < 65536) (h0 : ¬ (May x me k ∧ OkF y)) :
    Calls Try.prog 11 #[mv x, .int .i64 me, .int .u16 (own : Int), .int .u64 k, fv y] w (RetO 0 1 w) := by
  have h := judge_any x me k own y w hk ho
  unfold judV judE at h
  rw [if_neg h0, if_neg h0] at h
  exact h
theorem alike_walk (n s l f d a b k : Int) (own : Nat) (fk ff : Int) (fs fm : Nat) (w : World) (hk : 0 ≤ k) (ho : own < 65536) (hfm : fm < 65536) :
    Calls Try.prog 5 #[mv ⟨n, s, l, f, d⟩, .int .i64 a, .int .i64 b, .int .u16 (own : Int), .int .u64 k, fv ⟨fk, ff, fs, fm⟩] w (TrueB w) := by
  by_cases hx : Ok ⟨n, s, l, f, d⟩ ∧ k ≤ 4294967296
  · have HO : ∀ w, Calls Try.prog 21 #[mv ⟨n, s, l, f, d⟩, .int .u64 k] w (RetO (k % n) 0 w) := fun w => own_ok n s l f d k _ w hx.1 hk hx.2 rfl
    by_cases ha : May ⟨n, s, l, f, d⟩ a k ∧ OkF ⟨fk, ff, fs, fm⟩
    · by_cases hb : May ⟨n, s, l, f, d⟩ b k ∧ OkF ⟨fk, ff, fs, fm⟩
      · have J1 := fun w => judge_ok ⟨n, s, l, f, d⟩ a k own ⟨fk, ff, fs, fm⟩ w hk ho ha.1 ha.2
        have J2 := fun w => judge_ok ⟨n, s, l, f, d⟩ b k own ⟨fk, ff, fs, fm⟩ w hk ho hb.1 hb.2
        obtain ⟨a1, a2, a3, a4, a5⟩ := slO_cast _ a k ha.1
        obtain ⟨_, _, _, b4, b5⟩ := slO_cast _ b k hb.1
        simp only at a1
        rw [a1] at HO
        by_cases h2 : jV (slO ⟨n, s, l, f, d⟩ k) a.toNat k own ⟨fk, ff, fs, fm⟩ = 2
        · obtain ⟨t1, t2⟩ := jV_two _ _ _ _ _ h2
          rw [h2] at J1
          refine alike_x2 n s l f d a b k own fk ff fs fm w _ _ HO J1 J2 (fun w => ?_) (fun w => ?_)
          · have := has_in own a.toNat w ho a5
            rw [t1, a4] at this; exact this
          · have := has_in fm a.toNat w hfm a5
            rw [show hs fm a.toNat = false from t2, a4] at this; exact this
        · by_cases h3 : jV (slO ⟨n, s, l, f, d⟩ k) b.toNat k own ⟨fk, ff, fs, fm⟩ = 2
          · rw [h3] at J2
            exact alike_y2 n s l f d a b k own fk ff fs fm w _ _ HO J1 J2 (by rw [beq_eq_false_iff_ne]; exact h2) (by rw [bne_iff_ne]; exact h2)
          · have hs := jV_same _ _ _ _ _ _ h2 h3
            rw [← hs] at J2
            have hc := jV_cases (slO ⟨n, s, l, f, d⟩ k) a.toNat k own ⟨fk, ff, fs, fm⟩
            generalize jV (slO ⟨n, s, l, f, d⟩ k) a.toNat k own ⟨fk, ff, fs, fm⟩ = V at *
            have hV : OkV V := by unfold OkV; omega
            have h1 : (V == 2) = false := by rw [beq_eq_false_iff_ne]; exact h2
            have A1 := fun w => after_ok ⟨n, s, l, f, d⟩ a k V own w hk ho ha.1 hV
            have A2 := fun w => after_ok ⟨n, s, l, f, d⟩ b k V own w hk ho hb.1 hV
            by_cases c1 : a = (slO ⟨n, s, l, f, d⟩ k : Int)
            · exact alike_a n s l f d a b k own fk ff fs fm w _ _ _ _ HO J1 J2 h1 A1 A2 (by rw [beq_iff_eq]; exact c1)
            · have e1 : (a == (slO ⟨n, s, l, f, d⟩ k : Int)) = false := by rw [beq_eq_false_iff_ne]; exact c1
              by_cases c2 : b = (slO ⟨n, s, l, f, d⟩ k : Int)
              · exact alike_b n s l f d a b k own fk ff fs fm w _ _ _ _ HO J1 J2 h1 A1 A2 e1 (by rw [beq_iff_eq]; exact c2)
              · rw [← aft_same _ a.toNat b.toNat own V (by omega) (by omega) h2] at A2
                exact alike_s n s l f d a b k own fk ff fs fm w _ _ _ HO J1 J2 h1 A1 A2 e1 (by rw [beq_eq_false_iff_ne]; exact c2)
      · exact alike_j2 n s l f d a b k own fk ff fs fm w _ _ HO (fun w => judge_ok _ a k own _ w hk ho ha.1 ha.2) (fun w => judge_err _ b k own _ w hk ho hb)
    · exact alike_j1 n s l f d a b k own fk ff fs fm w _ HO (fun w => judge_err _ a k own _ w hk ho ha) _ _ (fun w => judge_any _ b k own _ w hk ho)
  · exact alike_o n s l f d a b k own fk ff fs fm w (fun w => own_bad _ k w hx)
end Go.Proofs.Ytbfaebobainhjaa
