/-
  The walk of FrameWrites: it returns true at every frame and every bytes.
-/
import Derived.Test.YtldegdhpblkhhaaQ8
namespace Go.Proofs.Ytldegdhpblkhhaa
open Go Go.RowKit
/-- What Write tells: the text, the error's number. -/
def wrt (x : Fr) : List Nat × Nat := if OkF x then (sealedF x, 0) else ([], 1)
theorem write_w (x : Fr) (w : World) (hm : x.m < 65536) : Calls Try.prog 9 #[fv x] w (RetE w.heap.size (bv (wrt x).1) (wrt x).2 w) := by
  unfold wrt
  by_cases h : OkF x
  · rw [if_pos h]; exact write_ok x w h hm
  · rw [if_neg h]; exact write_bad x w h
theorem refwrite_w (x : Fr) (w : World) (hm : x.m < 65536) : Calls Try.prog 10 #[fv x] w (RetE w.heap.size (bv (wrt x).1) (wrt x).2 w) := by
  unfold wrt
  by_cases h : OkF x
  · rw [if_pos h]; exact refwrite_ok x w h hm
  · rw [if_neg h]; exact refwrite_bad x w h
theorem wrt_oct (x : Fr) : Oct (wrt x).1 := by
  unfold wrt
  by_cases h : OkF x
  · rw [if_pos h]; exact sealedF_oct x h
  · rw [if_neg h]; exact Oct.nil
set_option maxRecDepth 100000 in
set_option maxHeartbeats 8000000 in
theorem writes_row {w : World} (f : Fr) (_ : In64 f.k) (_ : In64 f.f) (_ : f.s < 18446744073709551616) (fm : f.m < 65536) (A : Option Addr) (n c : Nat) (zs : List Int) (hz : Came .u8 w A n c zs) (hc : c ≤ 140737488351232) :
    Calls Try.prog 3 #[fv f, .slice A n c] w fun e w' => e = .returned (.bool true) ∧ Below w.heap.size w w' := by
  obtain ⟨bs, hr, ho⟩ := came_u8 hz
  have hnc := hz.2.1
  have hl : bs.length = n := by rw [← bv_len]; exact hr.1
  by_cases hbig : 2000 < n
  · have hnb : n ≤ 140737488351232 := by omega
    clear hr ho hz hl
    go_enter Try.func3, Try.ntmps3
    go_wp2_with (first
      | (go_at_call 8; (with_reducible refine (live_any w1).mono ?_); rintro e w2 ⟨rfl, b2⟩)
      | (refine wpList_boxf (x := f) rfl (.tmp 0) rfl rfl ?_; intro w1 v1 b1 s1))
    go_ret
    exact ⟨rfl, b1.trans (b2.mono b1.size)⟩
  · have HA1 := hid (fun w => write_w f w fm)
    have HV := hid (fun w => refwrite_w f w fm)
    have HT := hid (wrt_oct f)
    have HC1 := hid (fun w => check_any f w)
    have HC2 := hid (fun w => refcheck_any f w)
    have HR1 := hid (fun w' (hb : Below w.heap.size w w') => read_any A n c w.heap.size bs w' (hr.below hb) hb.size ho hnc (by omega))
    have HR2 := hid (fun w' (hb : Below w.heap.size w w') => refread_any A n c w.heap.size bs w' (hr.below hb) hb.size ho hnc (by omega))
    have HS := hid (fun w' (hb : Below w.heap.size w w') => seal24_ok A n c w.heap.size bs w' (hr.below hb) hb.size ho (by omega))
    have os : Oct (bs ++ tail24 bs) := ho.app (tail24_oct _)
    have ls : (bs ++ tail24 bs).length = n + 3 := by rw [List.length_append, hl]; rfl
    have HQ1 := hid (fun A' n' c' B (w' : World) (h : Row w' B A' n' (bv (bs ++ tail24 bs))) (hB : B ≤ w'.heap.size) (hk : n' ≤ c') => read_any A' n' c' B _ w' h hB os hk (by have := h.1; rw [bv_len] at this; omega))
    have HQ2 := hid (fun A' n' c' B (w' : World) (h : Row w' B A' n' (bv (bs ++ tail24 bs))) (hB : B ≤ w'.heap.size) (hk : n' ≤ c') => refread_any A' n' c' B _ w' h hB os hk (by have := h.1; rw [bv_len] at this; omega))
    clear hr ho hz hl os ls fm
    generalize okE f = ok at *
    generalize (wrt f).2 = er at *
    generalize (wrt f).1 = t at *
    generalize (rd bs).1 = X at *
    generalize (rd bs).2 = ex at *
    generalize (rd (bs ++ tail24 bs)).1 = Z at *
    generalize (rd (bs ++ tail24 bs)).2 = ez at *
    generalize bs ++ tail24 bs = ss at *
    go_enter Try.func3, Try.ntmps3
    go_wp2_with (first
      | (refine wpList_svf (x := Z) rfl (.tmp 18) (.tmp 60) rfl rfl rfl vu16 ?_; intro w17 vu17 b17 o17 _; have vf17 := vf16.other o17 nfu.out; have vx17 := vx16.other o17 nxu.out; have vy17 := vy16.other o17 nyu.out; have vz17 := vz16.other o17 nzu.out; have B17 : Hid (Below w.heap.size w w17) := hid (B16.out.trans (b17.mono B15.out.size)); have T3_17 : Hid (Below w3.heap.size w3 w17) := hid (T3_16.out.trans (b17.mono T3_15.out.size)); have T4_17 : Hid (Below w4.heap.size w4 w17) := hid (T4_16.out.trans (b17.mono T4_15.out.size)); have T11_17 : Hid (Below w11.heap.size w11 w17) := hid (T11_16.out.trans (b17.mono T11_15.out.size)); clear b17 o17 vf16 vx16 vy16 vz16)
      | (refine wpList_alf rfl rfl ?_; intro w16 vu16 b16 s16; have vf16 := vf15.keep b16; have vx16 := vx15.keep b16; have vy16 := vy15.keep b16; have vz16 := vz15.keep b16; have B16 : Hid (Below w.heap.size w w16) := hid (B15.out.trans (b16.mono B15.out.size)); have T3_16 : Hid (Below w3.heap.size w3 w16) := hid (T3_15.out.trans (b16.mono T3_15.out.size)); have T4_16 : Hid (Below w4.heap.size w4 w16) := hid (T4_15.out.trans (b16.mono T4_15.out.size)); have T11_16 : Hid (Below w11.heap.size w11 w16) := hid (T11_15.out.trans (b16.mono T11_15.out.size)); have nfu : Hid (w.heap.size ≠ w15.heap.size) := hid (by have := vf15.lt; omega); have nxu : Hid (w5.heap.size ≠ w15.heap.size) := hid (by have := vx15.lt; omega); have nyu : Hid (w8.heap.size ≠ w15.heap.size) := hid (by have := vy15.lt; omega); have nzu : Hid (w12.heap.size ≠ w15.heap.size) := hid (by have := vz15.lt; omega); clear b16 s16 vf15 vx15 vy15 vz15)
      | (go_at_call 12; (with_reducible refine (HQ2.out A11 n11 l11 w11.heap.size w14 (R11.out.below T11_14.out) T11_14.out.size K11.out).mono ?_); rintro e w15 ⟨rfl, b15⟩; have vf15 := vf14.keep b15; have vx15 := vx14.keep b15; have vy15 := vy14.keep b15; have vz15 := vz14.keep b15; have B15 : Hid (Below w.heap.size w w15) := hid (B14.out.trans (b15.mono B14.out.size)); have T3_15 : Hid (Below w3.heap.size w3 w15) := hid (T3_14.out.trans (b15.mono T3_14.out.size)); have T4_15 : Hid (Below w4.heap.size w4 w15) := hid (T4_14.out.trans (b15.mono T4_14.out.size)); have T11_15 : Hid (Below w11.heap.size w11 w15) := hid (T11_14.out.trans (b15.mono T11_14.out.size)); clear b15 vf14 vx14 vy14 vz14 T3_14 T4_14 T11_14)
      | (refine wpList_svf (x := Z) rfl (.tmp 16) (.tmp 55) rfl rfl rfl vz13 ?_; intro w14 vz14 b14 o14 _; have vf14 := vf13.other o14 nfz.out; have vx14 := vx13.other o14 nxz.out; have vy14 := vy13.other o14 nyz.out; have B14 : Hid (Below w.heap.size w w14) := hid (B13.out.trans (b14.mono B12.out.size)); have T3_14 : Hid (Below w3.heap.size w3 w14) := hid (T3_13.out.trans (b14.mono T3_12.out.size)); have T4_14 : Hid (Below w4.heap.size w4 w14) := hid (T4_13.out.trans (b14.mono T4_12.out.size)); have T11_14 : Hid (Below w11.heap.size w11 w14) := hid (T11_13.out.trans (b14.mono T11_12.out.size)); clear b14 o14 vf13 vx13 vy13)
      | (refine wpList_alf rfl rfl ?_; intro w13 vz13 b13 s13; have vf13 := vf12.keep b13; have vx13 := vx12.keep b13; have vy13 := vy12.keep b13; have B13 : Hid (Below w.heap.size w w13) := hid (B12.out.trans (b13.mono B12.out.size)); have T3_13 : Hid (Below w3.heap.size w3 w13) := hid (T3_12.out.trans (b13.mono T3_12.out.size)); have T4_13 : Hid (Below w4.heap.size w4 w13) := hid (T4_12.out.trans (b13.mono T4_12.out.size)); have T11_13 : Hid (Below w11.heap.size w11 w13) := hid (T11_12.out.trans (b13.mono T11_12.out.size)); have nfz : Hid (w.heap.size ≠ w12.heap.size) := hid (by have := vf12.lt; omega); have nxz : Hid (w5.heap.size ≠ w12.heap.size) := hid (by have := vx12.lt; omega); have nyz : Hid (w8.heap.size ≠ w12.heap.size) := hid (by have := vy12.lt; omega); clear b13 s13 vf12 vx12 vy12)
      | (go_at_call 11; (with_reducible refine (HQ1.out A11 n11 l11 w11.heap.size w11 (R11.out.below T11_11.out) T11_11.out.size K11.out).mono ?_); rintro e w12 ⟨rfl, b12⟩; have vf12 := vf11.keep b12; have vx12 := vx11.keep b12; have vy12 := vy11.keep b12; have B12 : Hid (Below w.heap.size w w12) := hid (B11.out.trans (b12.mono B11.out.size)); have T3_12 : Hid (Below w3.heap.size w3 w12) := hid (T3_11.out.trans (b12.mono T3_11.out.size)); have T4_12 : Hid (Below w4.heap.size w4 w12) := hid (T4_11.out.trans (b12.mono T4_11.out.size)); have T11_12 : Hid (Below w11.heap.size w11 w12) := hid (T11_11.out.trans (b12.mono T11_11.out.size)); clear b12 vf11 vx11 vy11 T3_11 T4_11 T11_11)
      | (go_at_call 13; (with_reducible refine (HS.out w10 B10.out).mono ?_); rintro e w11 ⟨A11, n11, l11, rfl, own11, b11⟩; have vf11 := vf10.keep b11; have vx11 := vx10.keep b11; have vy11 := vy10.keep b11; have B11 : Hid (Below w.heap.size w w11) := hid (B10.out.trans (b11.mono B10.out.size)); have T3_11 : Hid (Below w3.heap.size w3 w11) := hid (T3_10.out.trans (b11.mono T3_10.out.size)); have T4_11 : Hid (Below w4.heap.size w4 w11) := hid (T4_10.out.trans (b11.mono T4_10.out.size)); have R11 : Hid (Row w11 w11.heap.size A11 n11 (bv ss)) := hid own11.row; have K11 : Hid (n11 ≤ l11) := hid own11.cap; clear own11; have T11_11 : Hid (Below w11.heap.size w11 w11) := hid (Below.refl _ _); clear b11 vf10 vx10 vy10 T3_10 T4_10)
      | (refine wpList_svf (x := X) rfl (.tmp 12) (.tmp 45) rfl rfl rfl vy9 ?_; intro w10 vy10 b10 o10 _; have vf10 := vf9.other o10 nfy.out; have vx10 := vx9.other o10 nxy.out; have B10 : Hid (Below w.heap.size w w10) := hid (B9.out.trans (b10.mono B8.out.size)); have T3_10 : Hid (Below w3.heap.size w3 w10) := hid (T3_9.out.trans (b10.mono T3_8.out.size)); have T4_10 : Hid (Below w4.heap.size w4 w10) := hid (T4_9.out.trans (b10.mono T4_8.out.size)); clear b10 o10 vf9 vx9)
      | (refine wpList_alf rfl rfl ?_; intro w9 vy9 b9 s9; have vf9 := vf8.keep b9; have vx9 := vx8.keep b9; have B9 : Hid (Below w.heap.size w w9) := hid (B8.out.trans (b9.mono B8.out.size)); have T3_9 : Hid (Below w3.heap.size w3 w9) := hid (T3_8.out.trans (b9.mono T3_8.out.size)); have T4_9 : Hid (Below w4.heap.size w4 w9) := hid (T4_8.out.trans (b9.mono T4_8.out.size)); have nfy : Hid (w.heap.size ≠ w8.heap.size) := hid (by have := vf8.lt; omega); have nxy : Hid (w5.heap.size ≠ w8.heap.size) := hid (by have := vx8.lt; omega); clear b9 s9 vf8 vx8)
      | (go_at_call 12; (with_reducible refine (HR2.out w7 B7.out).mono ?_); rintro e w8 ⟨rfl, b8⟩; have vf8 := vf7.keep b8; have vx8 := vx7.keep b8; have B8 : Hid (Below w.heap.size w w8) := hid (B7.out.trans (b8.mono B7.out.size)); have T3_8 : Hid (Below w3.heap.size w3 w8) := hid (T3_7.out.trans (b8.mono T3_7.out.size)); have T4_8 : Hid (Below w4.heap.size w4 w8) := hid (T4_7.out.trans (b8.mono T4_7.out.size)); clear b8 vf7 vx7 T3_7 T4_7)
      | (refine wpList_svf (x := X) rfl (.tmp 10) (.tmp 40) rfl rfl rfl vx6 ?_; intro w7 vx7 b7 o7 _; have vf7 := vf6.other o7 nfx.out; have B7 : Hid (Below w.heap.size w w7) := hid (B6.out.trans (b7.mono B5.out.size)); have T3_7 : Hid (Below w3.heap.size w3 w7) := hid (T3_6.out.trans (b7.mono T3_5.out.size)); have T4_7 : Hid (Below w4.heap.size w4 w7) := hid (T4_6.out.trans (b7.mono T4_5.out.size)); clear b7 o7 vf6)
      | (refine wpList_alf rfl rfl ?_; intro w6 vx6 b6 s6; have vf6 := vf5.keep b6; have B6 : Hid (Below w.heap.size w w6) := hid (B5.out.trans (b6.mono B5.out.size)); have T3_6 : Hid (Below w3.heap.size w3 w6) := hid (T3_5.out.trans (b6.mono T3_5.out.size)); have T4_6 : Hid (Below w4.heap.size w4 w6) := hid (T4_5.out.trans (b6.mono T4_5.out.size)); have nfx : Hid (w.heap.size ≠ w5.heap.size) := hid (by have := vf5.lt; omega); clear b6 s6 vf5)
      | (go_at_call 11; (with_reducible refine (HR1.out w4 B4.out).mono ?_); rintro e w5 ⟨rfl, b5⟩; have vf5 := vf4.keep b5; have B5 : Hid (Below w.heap.size w w5) := hid (B4.out.trans (b5.mono B4.out.size)); have T3_5 : Hid (Below w3.heap.size w3 w5) := hid (T3_4.out.trans (b5.mono T3_4.out.size)); have T4_5 : Hid (Below w4.heap.size w4 w5) := hid (T4_4.out.trans (b5.mono T4_4.out.size)); clear b5 vf4 T3_4 T4_4)
      | (go_at_call 10; (with_reducible refine (HV.out w3).mono ?_); rintro e w4 ⟨A4, n4, l4, rfl, own4, b4⟩; have vf4 := vf3.keep b4; have B4 : Hid (Below w.heap.size w w4) := hid (B3.out.trans (b4.mono B3.out.size)); have T3_4 : Hid (Below w3.heap.size w3 w4) := hid (T3_3.out.trans (b4.mono T3_3.out.size)); have R4 : Hid (Row w4 w4.heap.size A4 n4 (bv t)) := hid own4.row; clear own4; have T4_4 : Hid (Below w4.heap.size w4 w4) := hid (Below.refl _ _); clear b4 vf3 T3_3)
      | (refine wpList_ldf rfl (.tmp 2) rfl rfl vf3 ?_)
      | (go_at_call 9; (with_reducible refine (HA1.out w2).mono ?_); rintro e w3 ⟨A3, n3, l3, rfl, own3, b3⟩; have vf3 := vf2.keep b3; have B3 : Hid (Below w.heap.size w w3) := hid (B2.out.trans (b3.mono B2.out.size)); have R3 : Hid (Row w3 w3.heap.size A3 n3 (bv t)) := hid own3.row; clear own3; have T3_3 : Hid (Below w3.heap.size w3 w3) := hid (Below.refl _ _); clear b3 vf2)
      | (refine wpList_ldf rfl (.tmp 2) rfl rfl vf2 ?_)
      | (go_at_call 8; (with_reducible refine (live_any w1).mono ?_); rintro e w2 ⟨rfl, b2⟩; have vf2 := vf1.keep b2; have B2 : Hid (Below w.heap.size w w2) := hid (B1.out.trans (b2.mono B1.out.size)); clear b2 vf1)
      | (refine wpList_boxf (x := f) rfl (.tmp 0) rfl rfl ?_; intro w1 vf1 b1 s1; have B1 : Hid (Below w.heap.size w w1) := hid b1; clear b1 s1))
    have q1 : ∀ w, (binOp .eql 25 (.agg #[.int .i64 X.k, .int .i64 X.f, .int .u64 (X.s : Int), .int .u16 (X.m : Int)]) (.agg #[.int .i64 X.k, .int .i64 X.f, .int .u64 (X.s : Int), .int .u16 (X.m : Int)])).run Try.prog w = .ok (.bool true) w := fun w => (eqFr X X w).trans (by simp)
    have q2 : ∀ w, (binOp .eql 25 (.agg #[.int .i64 Z.k, .int .i64 Z.f, .int .u64 (Z.s : Int), .int .u16 (Z.m : Int)]) (.agg #[.int .i64 Z.k, .int .i64 Z.f, .int .u64 (Z.s : Int), .int .u16 (Z.m : Int)])).run Try.prog w = .ok (.bool true) w := fun w => (eqFr Z Z w).trans (by simp)
    have q3 : ∀ op a b w, (eqGuard op 25 a b (.agg #[.int .i64 X.k, .int .i64 X.f, .int .u64 (X.s : Int), .int .u16 (X.m : Int)]) (.agg #[.int .i64 X.k, .int .i64 X.f, .int .u64 (X.s : Int), .int .u16 (X.m : Int)])).run Try.prog w = .ok () w := fun op a b w => guFr op a b X X w
    have q4 : ∀ op a b w, (eqGuard op 25 a b (.agg #[.int .i64 Z.k, .int .i64 Z.f, .int .u64 (Z.s : Int), .int .u16 (Z.m : Int)]) (.agg #[.int .i64 Z.k, .int .i64 Z.f, .int .u64 (Z.s : Int), .int .u16 (Z.m : Int)])).run Try.prog w = .ok () w := fun op a b w => guFr op a b Z Z w
    have cf0 := vf17.c0
    have cf1 := vf17.c1
    have cf2 := vf17.c2
    have cf3 := vf17.c3
    have cx0 := vx17.c0
    have cx1 := vx17.c1
    have cx2 := vx17.c2
    have cx3 := vx17.c3
    have cy0 := vy17.c0
    have cy1 := vy17.c1
    have cy2 := vy17.c2
    have cy3 := vy17.c3
    have cz0 := vz17.c0
    have cz1 := vz17.c1
    have cz2 := vz17.c2
    have cz3 := vz17.c3
    have cu0 := vu17.c0
    have cu1 := vu17.c1
    have cu2 := vu17.c2
    have cu3 := vu17.c3
    have Vf : Hid (VarF w17.drew w.heap.size f) := hid (vf17.keep (Below.refl _ _).drew)
    have Vx : Hid (VarF w17.drew w5.heap.size X) := hid (vx17.keep (Below.refl _ _).drew)
    have Vy : Hid (VarF w17.drew w8.heap.size X) := hid (vy17.keep (Below.refl _ _).drew)
    have Vz : Hid (VarF w17.drew w12.heap.size Z) := hid (vz17.keep (Below.refl _ _).drew)
    have Vu : Hid (VarF w17.drew w15.heap.size Z) := hid (vu17.keep (Below.refl _ _).drew)
    have BF : Hid (Below w.heap.size w w17.drew) := hid B17.out.drew
    have HC1x : Hid (∀ w : World, Calls Try.prog 15 #[(.agg #[.int .i64 f.k, .int .i64 f.f, .int .u64 (f.s : Int), .int .u16 (f.m : Int)])] w fun e w' => e = .returned (.int .i64 (ok : Int)) ∧ Below w.heap.size w w') := hid HC1.out
    have HC2x : Hid (∀ w : World, Calls Try.prog 16 #[(.agg #[.int .i64 f.k, .int .i64 f.f, .int .u64 (f.s : Int), .int .u16 (f.m : Int)])] w fun e w' => e = .returned (.int .i64 (ok : Int)) ∧ Below w.heap.size w w') := hid HC2.out
    have SA := hid (same_any A3 A4 n3 l3 n4 l4 w3.heap.size w4.heap.size t t true w17.drew ((R3.out.below T3_17.out).keep (fun _ _ => rfl)) ((R4.out.below T4_17.out).keep (fun _ _ => rfl)) HT.out HT.out (by simp))
    clear vf17 vx17 vy17 vz17 vu17 HA1 HV HR1 HR2 HS HQ1 HQ2 R3 R4 R11 K11 HT vx6 vy9 vz13 vu16 nfx nfy nxy nfz nxz nyz nfu nxu nyu nzu B1 B2 B3 B4 B5 B6 B7 B8 B9 B10 B11 B12 B13 B14 B15 B16 B17 T3_5 T3_6 T3_8 T3_9 T3_12 T3_13 T3_15 T3_16 T3_17 T4_5 T4_6 T4_8 T4_9 T4_12 T4_13 T4_15 T4_16 T4_17 T11_12 T11_13 T11_15 T11_16 T11_17
    go_region_held3 (fun w' => w'.cell? ⟨w.heap.size, 0, none⟩ = some (.int .i64 f.k) ∧ w'.cell? ⟨w.heap.size, 1, none⟩ = some (.int .i64 f.f) ∧ w'.cell? ⟨w.heap.size, 2, none⟩ = some (.int .u64 (f.s : Int)) ∧ w'.cell? ⟨w.heap.size, 3, none⟩ = some (.int .u16 (f.m : Int)) ∧ w'.cell? ⟨w5.heap.size, 0, none⟩ = some (.int .i64 X.k) ∧ w'.cell? ⟨w5.heap.size, 1, none⟩ = some (.int .i64 X.f) ∧ w'.cell? ⟨w5.heap.size, 2, none⟩ = some (.int .u64 (X.s : Int)) ∧ w'.cell? ⟨w5.heap.size, 3, none⟩ = some (.int .u16 (X.m : Int)) ∧ w'.cell? ⟨w8.heap.size, 0, none⟩ = some (.int .i64 X.k) ∧ w'.cell? ⟨w8.heap.size, 1, none⟩ = some (.int .i64 X.f) ∧ w'.cell? ⟨w8.heap.size, 2, none⟩ = some (.int .u64 (X.s : Int)) ∧ w'.cell? ⟨w8.heap.size, 3, none⟩ = some (.int .u16 (X.m : Int)) ∧ w'.cell? ⟨w12.heap.size, 0, none⟩ = some (.int .i64 Z.k) ∧ w'.cell? ⟨w12.heap.size, 1, none⟩ = some (.int .i64 Z.f) ∧ w'.cell? ⟨w12.heap.size, 2, none⟩ = some (.int .u64 (Z.s : Int)) ∧ w'.cell? ⟨w12.heap.size, 3, none⟩ = some (.int .u16 (Z.m : Int)) ∧ w'.cell? ⟨w15.heap.size, 0, none⟩ = some (.int .i64 Z.k) ∧ w'.cell? ⟨w15.heap.size, 1, none⟩ = some (.int .i64 Z.f) ∧ w'.cell? ⟨w15.heap.size, 2, none⟩ = some (.int .u64 (Z.s : Int)) ∧ w'.cell? ⟨w15.heap.size, 3, none⟩ = some (.int .u16 (Z.m : Int)))
      (first | with_reducible exact ⟨cf0, cf1, cf2, cf3, cx0, cx1, cx2, cx3, cy0, cy1, cy2, cy3, cz0, cz1, cz2, cz3, cu0, cu1, cu2, cu3⟩ | with_reducible exact ⟨d18f0, d18f1, d18f2, d18f3, d18x0, d18x1, d18x2, d18x3, d18y0, d18y1, d18y2, d18y3, d18z0, d18z1, d18z2, d18z3, d18u0, d18u1, d18u2, d18u3⟩ | with_reducible exact ⟨d19f0, d19f1, d19f2, d19f3, d19x0, d19x1, d19x2, d19x3, d19y0, d19y1, d19y2, d19y3, d19z0, d19z1, d19z2, d19z3, d19u0, d19u1, d19u2, d19u3⟩ | go_keep)
      (first
        | (go_at_call 14; (with_reducible refine (SA.out).mono ?_); rintro e w' ⟨rfl, rfl⟩; dsimp only)
        | (go_at_call 15; (with_reducible refine (HC1x.out w17.drew).mono ?_); rintro e w18 ⟨rfl, b18⟩; have V18f := Vf.out.keep b18; have d18f0 := V18f.c0; have d18f1 := V18f.c1; have d18f2 := V18f.c2; have d18f3 := V18f.c3; have V18x := Vx.out.keep b18; have d18x0 := V18x.c0; have d18x1 := V18x.c1; have d18x2 := V18x.c2; have d18x3 := V18x.c3; have V18y := Vy.out.keep b18; have d18y0 := V18y.c0; have d18y1 := V18y.c1; have d18y2 := V18y.c2; have d18y3 := V18y.c3; have V18z := Vz.out.keep b18; have d18z0 := V18z.c0; have d18z1 := V18z.c1; have d18z2 := V18z.c2; have d18z3 := V18z.c3; have V18u := Vu.out.keep b18; have d18u0 := V18u.c0; have d18u1 := V18u.c1; have d18u2 := V18u.c2; have d18u3 := V18u.c3; have B18 : Hid (Below w.heap.size w w18) := hid (BF.out.trans (b18.mono BF.out.size)); dsimp only)
        | (go_at_call 16; (with_reducible refine (HC2x.out w18).mono ?_); rintro e w19 ⟨rfl, b19⟩; have V19f := V18f.keep b19; have d19f0 := V19f.c0; have d19f1 := V19f.c1; have d19f2 := V19f.c2; have d19f3 := V19f.c3; have V19x := V18x.keep b19; have d19x0 := V19x.c0; have d19x1 := V19x.c1; have d19x2 := V19x.c2; have d19x3 := V19x.c3; have V19y := V18y.keep b19; have d19y0 := V19y.c0; have d19y1 := V19y.c1; have d19y2 := V19y.c2; have d19y3 := V19y.c3; have V19z := V18z.keep b19; have d19z0 := V19z.c0; have d19z1 := V19z.c1; have d19z2 := V19z.c2; have d19z3 := V19z.c3; have V19u := V18u.keep b19; have d19u0 := V19u.c0; have d19u1 := V19u.c1; have d19u2 := V19u.c2; have d19u3 := V19u.c3; have B19 : Hid (Below w.heap.size w w19) := hid (B18.out.trans (b19.mono B18.out.size)); dsimp only))
    all_goals
      go_wp2
      go_ret
      exact ⟨ret_bool (by simp), B19.out⟩
end Go.Proofs.Ytldegdhpblkhhaa
