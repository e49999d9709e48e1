/-
  The walk of FrameBack: it returns true at every frame, bytes, place and pattern.
-/
import Derived.Test.YtldegdhpblkhhaaQ8
import Derived.Test.YtldegdhpblkhhaaK
namespace Go.Proofs.Ytldegdhpblkhhaa
open Go Go.RowKit
theorem sealed24 {bs : List Nat} (ho : Oct bs) : sum24 (bs ++ tail24 bs) = 0 :=
  (whole24 bs _ _ _ ho (by omega) (by omega) (by omega)).1 rfl
theorem sealed32 {bs : List Nat} (ho : Oct bs) : reg st32 e32 4294967295 (bs ++ tail32 bs) = k32 :=
  (whole32 bs _ _ _ _ ho (by omega) (by omega) (by omega) (by omega)).1 rfl
/-- What is sealed is told ErrSum alone if its sum is another one. -/
theorem rd_five (ss : List Nat) (L : Nat) (hl : ss.length = L) (h3 : 3 ≤ L) (h6 : L ≤ 1000) (ho : Oct ss) : (rd ss).2 = 5 ↔ ¬ sum24 ss = 0 := by
  rw [← open24_iff hl h3 ho]
  unfold rd
  rw [hl, if_neg (by omega), if_neg (by omega)]
  by_cases h : tail24 (ss.take (L - 3)) = ss.drop (L - 3)
  · rw [if_pos h]
    constructor
    · intro e; exfalso; revert e; split <;> simp
    · intro e; exact absurd h e
  · rw [if_neg h]; exact ⟨fun _ => h, fun _ => rfl⟩
def BkRel (base : Nat) (w : World) (L o : Nat) (s met i : Value) (wr : World) : Prop :=
  ∃ (k c1 : Nat) (A1 : Option Addr) (ss ts : List Nat) (m : Bool), k ≤ 24 ∧ i = .int .i64 (k : Int) ∧ s = .slice A1 L c1 ∧ met = .bool m ∧ Row wr wr.heap.size A1 L (bv ss) ∧ L ≤ c1 ∧ Burst L o ss ts k m ∧ Below base w wr

set_option maxRecDepth 100000 in
set_option maxHeartbeats 4000000 in
theorem back_bad_n (f X : Fr) (ex : Nat) (A : Option Addr) (n c : Nat) (bs : List Nat) (q : Int) (p : Nat) (w : World) (hr : Row w w.heap.size A n (bv bs)) (ho : Oct bs) (hnc : n ≤ c) (hn : n ≤ 2000) (_ : f.m < 65536) (hrd : rd bs = (X, ex)) (hex : ex ≠ 0) (hf : ¬ OkF f)
    (_ : -9223372036854775808 ≤ q) (_ : q ≤ 9223372036854775807) (_ : p < 4294967296) :
    Calls Try.prog 5 #[fv f, .slice A n c, .int .i64 q, .int .u32 (p : Int)] w fun e w' => e = .returned (.bool true) ∧ Below w.heap.size w w' := by
  have HB := hid hr
  have HO := hid ho
  have HR1 : Hid (∀ w' : World, Below w.heap.size w w' → Calls Try.prog 11 #[.slice A n c] w' fun e w'' => e = .returned (.tuple #[fv X, .int .i64 (ex : Int)]) ∧ Below w'.heap.size w' w'') := hid (fun w' hb => by
    have := read_any A n c w.heap.size bs w' (hr.below hb) hb.size ho hnc (by omega)
    rw [hrd] at this
    exact this)
  have hxz : ((ex : Int) == 0) = false := by rw [beq_eq_false_iff_ne]; omega
  clear hex
  have HF1 := hid (fun w => write_bad f w hf)
  have HF2 : Hid (∀ w : World, Calls Try.prog 15 #[fv f] w fun e w' => e = .returned (.int .i64 ((1 : Nat) : Int)) ∧ Below w.heap.size w w') := hid (fun w => okE_bad hf ▸ check_any f w)
  clear hr ho hnc hrd hf
  go_enter Try.func5, Try.ntmps5
  go_wp2_with (first
    | (go_at_call 15; (with_reducible refine (HF2.out w6).mono ?_); rintro e w7 ⟨rfl, b7⟩; have vf7 := vf6.keep b7; have vx7 := vx6.keep b7; have B7 : Hid (Below w.heap.size w w7) := hid (B6.out.trans (b7.mono B6.out.size)); clear b7 vf6 vx6)
    | (refine wpList_ldf rfl (.tmp 4) rfl rfl vf6 ?_)
    | (go_at_call 9; (with_reducible refine (HF1.out w5).mono ?_); rintro e w6 ⟨A8, n8, l8, rfl, own8, b6⟩; have vf6 := vf5.keep b6; have vx6 := vx5.keep b6; have B6 : Hid (Below w.heap.size w w6) := hid (B5.out.trans (b6.mono B5.out.size)); clear own8; clear b6 vf5 vx5)
    | (refine wpList_ldf rfl (.tmp 4) rfl rfl vf5 ?_)
    | (refine wpList_svf (x := X) rfl (.tmp 10) (.tmp 35) rfl rfl rfl vx4 ?_; intro w5 vx5 b5 o5 _; have vf5 := vf4.other o5 nfx.out; have B5 : Hid (Below w.heap.size w w5) := hid (B4.out.trans (b5.mono B3.out.size)); clear b5 o5 vf4)
    | (refine wpList_alf rfl rfl ?_; intro w4 vx4 b4 s4; have vf4 := vf3.keep b4; have B4 : Hid (Below w.heap.size w w4) := hid (B3.out.trans (b4.mono B3.out.size)); have nfx : Hid (w.heap.size ≠ w3.heap.size) := hid (by have := vf3.lt; omega); clear b4 s4 vf3)
    | (go_at_call 11; (with_reducible refine (HR1.out w2 B2.out).mono ?_); rintro e w3 ⟨rfl, b3⟩; have vf3 := vf2.keep b3; have B3 : Hid (Below w.heap.size w w3) := hid (B2.out.trans (b3.mono B2.out.size)); clear b3 vf2)
    | (go_at_call 8; (with_reducible refine (live_any w1).mono ?_); rintro e w2 ⟨rfl, b2⟩; have vf2 := vf1.keep b2; have B2 : Hid (Below w.heap.size w w2) := hid (B1.out.trans (b2.mono B1.out.size)); clear b2 vf1)
    | (refine wpList_boxf (x := f) rfl (.tmp 0) rfl rfl ?_; intro w1 vf1 b1 s1; have B1 : Hid (Below w.heap.size w w1) := hid b1; clear b1 s1))
  go_ret
  exact ⟨ret_bool (by simp), B7.out⟩
set_option maxRecDepth 100000 in
set_option maxHeartbeats 4000000 in
theorem back_ok_n (f X : Fr) (ex : Nat) (A : Option Addr) (n c : Nat) (bs : List Nat) (q : Int) (p : Nat) (w : World) (hr : Row w w.heap.size A n (bv bs)) (ho : Oct bs) (hnc : n ≤ c) (hn : n ≤ 2000) (fm : f.m < 65536) (hrd : rd bs = (X, ex)) (hex : ex ≠ 0) (hf : OkF f)
    (_ : -9223372036854775808 ≤ q) (_ : q ≤ 9223372036854775807) (hp : p < 4294967296) :
    Calls Try.prog 5 #[fv f, .slice A n c, .int .i64 q, .int .u32 (p : Int)] w fun e w' => e = .returned (.bool true) ∧ Below w.heap.size w w' := by
  have HB := hid hr
  have HO := hid ho
  have HR1 : Hid (∀ w' : World, Below w.heap.size w w' → Calls Try.prog 11 #[.slice A n c] w' fun e w'' => e = .returned (.tuple #[fv X, .int .i64 (ex : Int)]) ∧ Below w'.heap.size w' w'') := hid (fun w' hb => by
    have := read_any A n c w.heap.size bs w' (hr.below hb) hb.size ho hnc (by omega)
    rw [hrd] at this
    exact this)
  have hxz : ((ex : Int) == 0) = false := by rw [beq_eq_false_iff_ne]; omega
  clear hex
  obtain ⟨L, hL⟩ : ∃ L, L = (sealedF f).length := ⟨_, rfl⟩
  have HL := hid hL
  have hL9 : 9 ≤ L := by rw [hL, sealedF_len]; omega
  have hL13 : L ≤ 13 := by have := gn_slot f.s hf.2.2.2; rw [hL, sealedF_len]; omega
  have HF1 := hid (fun w => write_ok f w hf fm)
  have ofs := sealedF_oct f hf
  have HQ : Hid (∀ (A' : Option Addr) (n' c' B : Nat) (w' : World), Row w' B A' n' (bv (sealedF f)) → B ≤ w'.heap.size → n' ≤ c' → Calls Try.prog 11 #[.slice A' n' c'] w' fun e w'' => e = .returned (.tuple #[fv f, .int .i64 ((0 : Nat) : Int)]) ∧ Below w'.heap.size w' w'') := hid (fun A' n' c' B w' h hB hk => by
    have := read_any A' n' c' B _ w' h hB ofs hk (by have := h.1; rw [bv_len] at this; omega)
    rw [rd_sealed f hf fm] at this
    exact this)
  have HBU : ∀ o, Burst L o (sealedF f) (bare f ++ tail32 (bare f)) 0 false := fun o => by
    have ob := bare_oct f hf
    have l1 : (bare f).length + 3 = L := by rw [hL, sealedF, List.length_append]; rfl
    exact Burst.start hL.symm (by rw [List.length_append]; show (bare f).length + 4 = L + 1; omega) ofs (ob.app (tail32_oct _)) (sealed24 ob) (sealed32 ob)
  obtain ⟨a, o, ha1, ha2, ha3, ha4, hoM⟩ := wrapped q (8 * L) (by omega)
  have HBO := hid (HBU o)
  clear HBU
  have hb1 : q.tmod (8 * (L : Int)) = a := by rw [← ha1]; congr 1
  have hb2 : (a + 8 * (L : Int)).tmod (8 * (L : Int)) = (o : Int) := by rw [← ha4]; congr 1
  have hb3 : ¬ (8 * (L : Int) = 0) := by omega
  have hb6 : ((L : Int) == 0) = false := by rw [beq_eq_false_iff_ne]; omega
  have hb4 : -105 < a := by omega
  have hb5 : a < 105 := by omega
  have ho24 : o < 104 := by omega
  have HOM := hid hoM
  clear ha1 ha2 ha3 ha4 hoM
  have g1 := fun w => neFr f f w
  have g2 := fun op a b w => guFr op a b f f w
  rw [decide_eq_true rfl] at g1
  clear hr ho hnc hrd hf fm hL ofs
  go_enter Try.func5, Try.ntmps5
  go_wp2_with (first
    | (refine wpList_ldf rfl (.tmp 4) rfl rfl vf9 ?_)
    | (refine wpList_ldf rfl (.tmp 16) rfl rfl vy9 ?_)
    | (refine wpList_svf (x := f) rfl (.tmp 16) (.tmp 74) rfl rfl rfl vy8 ?_; intro w9 vy9 b9 o9 _; have vf9 := vf8.other o9 nfy.out; have vx9 := vx8.other o9 nxy.out; have B9 : Hid (Below w.heap.size w w9) := hid (B8.out.trans (b9.mono B7.out.size)); have T6_9 : Hid (Below w6.heap.size w6 w9) := hid (T6_8.out.trans (b9.mono T6_7.out.size)); clear b9 o9 vf8 vx8)
    | (refine wpList_alf rfl rfl ?_; intro w8 vy8 b8 s8; have vf8 := vf7.keep b8; have vx8 := vx7.keep b8; have B8 : Hid (Below w.heap.size w w8) := hid (B7.out.trans (b8.mono B7.out.size)); have T6_8 : Hid (Below w6.heap.size w6 w8) := hid (T6_7.out.trans (b8.mono T6_7.out.size)); have nfy : Hid (w.heap.size ≠ w7.heap.size) := hid (by have := vf7.lt; omega); have nxy : Hid (w3.heap.size ≠ w7.heap.size) := hid (by have := vx7.lt; omega); clear b8 s8 vf7 vx7)
    | (go_at_call 11; (with_reducible refine (HQ.out A8 n8 l8 w6.heap.size w6 (R8.out.below T6_6.out) T6_6.out.size K8.out).mono ?_); rintro e w7 ⟨rfl, b7⟩; have vf7 := vf6.keep b7; have vx7 := vx6.keep b7; have B7 : Hid (Below w.heap.size w w7) := hid (B6.out.trans (b7.mono B6.out.size)); have T6_7 : Hid (Below w6.heap.size w6 w7) := hid (T6_6.out.trans (b7.mono T6_6.out.size)); clear b7 vf6 vx6 T6_6)
    | (go_at_call 9; (with_reducible refine (HF1.out w5).mono ?_); rintro e w6 ⟨A8, n8, l8, rfl, own8, b6⟩; have vf6 := vf5.keep b6; have vx6 := vx5.keep b6; have B6 : Hid (Below w.heap.size w w6) := hid (B5.out.trans (b6.mono B5.out.size)); have hn8 : n8 = L := (by have := own8.len; rw [bv_len] at this; have := HL.out; omega); subst hn8; have R8 : Hid (Row w6 w6.heap.size A8 n8 (bv (sealedF f))) := hid own8.row; have K8 : Hid (n8 ≤ l8) := hid own8.cap; clear own8; have T6_6 : Hid (Below w6.heap.size w6 w6) := hid (Below.refl _ _); clear b6 vf5 vx5)
    | (refine wpList_ldf rfl (.tmp 4) rfl rfl vf5 ?_)
    | (refine wpList_svf (x := X) rfl (.tmp 10) (.tmp 35) rfl rfl rfl vx4 ?_; intro w5 vx5 b5 o5 _; have vf5 := vf4.other o5 nfx.out; have B5 : Hid (Below w.heap.size w w5) := hid (B4.out.trans (b5.mono B3.out.size)); clear b5 o5 vf4)
    | (refine wpList_alf rfl rfl ?_; intro w4 vx4 b4 s4; have vf4 := vf3.keep b4; have B4 : Hid (Below w.heap.size w w4) := hid (B3.out.trans (b4.mono B3.out.size)); have nfx : Hid (w.heap.size ≠ w3.heap.size) := hid (by have := vf3.lt; omega); clear b4 s4 vf3)
    | (go_at_call 11; (with_reducible refine (HR1.out w2 B2.out).mono ?_); rintro e w3 ⟨rfl, b3⟩; have vf3 := vf2.keep b3; have B3 : Hid (Below w.heap.size w w3) := hid (B2.out.trans (b3.mono B2.out.size)); clear b3 vf2)
    | (go_at_call 8; (with_reducible refine (live_any w1).mono ?_); rintro e w2 ⟨rfl, b2⟩; have vf2 := vf1.keep b2; have B2 : Hid (Below w.heap.size w w2) := hid (B1.out.trans (b2.mono B1.out.size)); clear b2 vf1)
    | (refine wpList_boxf (x := f) rfl (.tmp 0) rfl rfl ?_; intro w1 vf1 b1 s1; have B1 : Hid (Below w.heap.size w w1) := hid b1; clear b1 s1))
  have KR : Hid (Row w9 w9.heap.size A8 n8 (bv (sealedF f))) := hid ((R8.out.below T6_9.out).more T6_9.out.size)
  clear vy9 vf9 vx9 hb1 hb2 hb3 hb4 hb5 R8
  go_loopw [14, 19, 98] (BkRel w.heap.size w n8 o) (fun _ _ i _ => 24 - (intOf i).toNat)
  case atStart => exact ⟨0, l8, A8, _, _, false, by omega, rfl, rfl, rfl, KR.out, K8.out, HBO.out, B9.out⟩
  case round =>
    obtain ⟨k, d1, X1, ss, ts, m, hk, rfl, rfl, rfl, hs, hd1, hbu, hbel⟩ := hrel
    have RS := hid hs
    have BU := hid hbu
    have BL := hid hbel
    have hzr : w.heap.size ≤ wr.heap.size := hbel.size
    clear hs hbu hbel KR HBO
    by_cases hk24 : k < 24
    · obtain ⟨v, hv⟩ : ∃ v, v = p / 2 ^ k % 2 := ⟨_, rfl⟩
      have hand : bits .and .u32 ((p : Int) / 2 ^ k) 1 = (v : Int) := by
        rw [show (p : Int) / 2 ^ k = ((p / 2 ^ k : Nat) : Int) by norm_cast]
        refine (u32_and_nat (p / 2 ^ k) 1 (Nat.lt_of_le_of_lt (Nat.div_le_self _ _) hp) (by omega)).trans ?_
        rw [hv, show (1 : Nat) = 2 ^ 1 - 1 by decide, Nat.and_two_pow_sub_one_eq_mod]
      have hv2 : v < 2 := by rw [hv]; omega
      clear hv
      have hlt : (k : Int) < 24 := by omega
      by_cases hv0 : v = 0
      · subst hv0
        go_wp2_with fail
        go_roundw
        case rel => exact ⟨k + 1, d1, X1, ss, ts, m, by omega, by go_num, rfl, rfl, RS.out, hd1, BU.out.skip, BL.out⟩
        case measure => simp [intOf]; omega
      · obtain rfl : v = 1 := by omega
        by_cases hin : o + k < 8 * n8
        · have hge : decide ((o : Int) + (k : Int) < 8 * (n8 : Int)) = true := by rw [decide_eq_true_eq]; omega
          have HIN := hid hin
          have LS : Hid (ss.length = n8) := hid BU.out.1
          have hq1 : (o + k) / 8 < n8 := by omega
          go_wp2_with fail
          refine (turn_at X1 n8 d1 wr.heap.size (o + k) _ ss wr (by omega) RS.out BU.out.2.2.1 (by omega) (Nat.le_refl _) hq1).mono ?_
          rintro e y1 ⟨Y1, m1, e1, rfl, owy, bely⟩
          have hm1 : m1 = n8 := by rw [← owy.len, bv_len, turned_len, LS.out]
          have hm2 := hm1.symm
          subst hm2
          have RY : Hid (Row y1 y1.heap.size Y1 n8 (bv (turned ss (o + k)))) := hid owy.row
          have hcy : n8 ≤ e1 := owy.cap
          have BL1 : Hid (Below w.heap.size w y1) := hid (BL.out.trans (bely.mono hzr))
          clear owy bely RS BL
          go_wp2_with fail
          go_roundw
          case rel => exact ⟨k + 1, e1, Y1, _, _, true, by omega, by go_num, rfl, rfl, RY.out, hcy, BU.out.turn hk24 HIN.out, BL1.out⟩
          case measure => simp [intOf]; omega
        · have hge : decide ((o : Int) + (k : Int) < 8 * (n8 : Int)) = false := by rw [decide_eq_false_iff_not]; omega
          go_wp2_with fail
          go_roundw
          case rel => exact ⟨k + 1, d1, X1, ss, ts, m, by omega, by go_num, rfl, rfl, RS.out, hd1, BU.out.skip, BL.out⟩
          case measure => simp [intOf]; omega
    · obtain rfl : k = 24 := by omega
      have D := BU.out.done.1
      have o1 := BU.out.2.2.1
      have l1 : ss.length = n8 := BU.out.1
      have HD : Hid ((rd ss).2 = 5 ↔ m = true) := hid ((rd_five ss n8 l1 (by omega) (by omega) o1).trans (by rw [D]; cases m <;> simp))
      have HRS := hid (read_any X1 n8 d1 wr.heap.size ss wr RS.out (Nat.le_refl _) o1 hd1 (by omega))
      clear D o1 l1 BU RS
      have H5 : (((rd ss).2 : Int) == 5) = m := by
        rw [Bool.eq_iff_iff, beq_iff_eq, ← HD.out]; omega
      generalize (rd ss).1 = Z at *
      generalize (rd ss).2 = ez at *
      clear HD
      go_wp2_with (first
        | (refine wpList_svf (x := Z) rfl (.tmp 23) (.tmp 128) rfl rfl rfl z2 ?_; intro y3 z3 b3 o3 _; have BZ : Hid (Below w.heap.size w y3) := hid (((BL.out.trans (a1.mono hzr)).trans (a2.mono (Nat.le_trans hzr a1.size))).trans (b3.mono (Nat.le_trans hzr a1.size))))
        | (refine wpList_alf rfl rfl ?_; intro y2 z2 a2 s2)
        | (go_at_call 11; (with_reducible refine (HRS.out).mono ?_); rintro e y1 ⟨rfl, a1⟩))
      go_ret
      exact ⟨ret_bool (by simp), BZ.out⟩
set_option maxRecDepth 100000 in
set_option maxHeartbeats 4000000 in
theorem back_bad_z (f X : Fr) (ex : Nat) (A : Option Addr) (n c : Nat) (bs : List Nat) (q : Int) (p : Nat) (w : World) (hr : Row w w.heap.size A n (bv bs)) (ho : Oct bs) (hnc : n ≤ c) (hn : n ≤ 2000) (_ : f.m < 65536) (hrd : rd bs = (X, ex)) (hex : ex = 0) (hf : ¬ OkF f)
    (_ : -9223372036854775808 ≤ q) (_ : q ≤ 9223372036854775807) (_ : p < 4294967296) :
    Calls Try.prog 5 #[fv f, .slice A n c, .int .i64 q, .int .u32 (p : Int)] w fun e w' => e = .returned (.bool true) ∧ Below w.heap.size w w' := by
  have HB := hid hr
  have HO := hid ho
  have HR1 : Hid (∀ w' : World, Below w.heap.size w w' → Calls Try.prog 11 #[.slice A n c] w' fun e w'' => e = .returned (.tuple #[fv X, .int .i64 (ex : Int)]) ∧ Below w'.heap.size w' w'') := hid (fun w' hb => by
    have := read_any A n c w.heap.size bs w' (hr.below hb) hb.size ho hnc (by omega)
    rw [hrd] at this
    exact this)
  obtain rfl := hex
  obtain ⟨okx, xm, hbs⟩ := rd_ok bs ho X hrd
  have HX1 : Hid (∀ w : World, Calls Try.prog 9 #[fv X] w (RetE w.heap.size (bv bs) 0 w)) := hid (fun w => by rw [hbs]; exact write_ok X w okx xm)
  have HX2 : Hid (∀ w : World, Calls Try.prog 15 #[fv X] w fun e w' => e = .returned (.int .i64 ((0 : Nat) : Int)) ∧ Below w.heap.size w w') := hid (fun w => okE_ok okx ▸ check_any X w)
  clear okx xm hbs
  have HF1 := hid (fun w => write_bad f w hf)
  have HF2 : Hid (∀ w : World, Calls Try.prog 15 #[fv f] w fun e w' => e = .returned (.int .i64 ((1 : Nat) : Int)) ∧ Below w.heap.size w w') := hid (fun w => okE_bad hf ▸ check_any f w)
  clear hr ho hnc hrd hf
  go_enter Try.func5, Try.ntmps5
  go_wp2_with (first
    | (go_at_call 15; (with_reducible refine (HF2.out w8).mono ?_); rintro e w9 ⟨rfl, b9⟩; have vf9 := vf8.keep b9; have vx9 := vx8.keep b9; have B9 : Hid (Below w.heap.size w w9) := hid (B8.out.trans (b9.mono B8.out.size)); clear b9 vf8 vx8)
    | (refine wpList_ldf rfl (.tmp 4) rfl rfl vf8 ?_)
    | (go_at_call 9; (with_reducible refine (HF1.out w7).mono ?_); rintro e w8 ⟨A8, n8, l8, rfl, own8, b8⟩; have vf8 := vf7.keep b8; have vx8 := vx7.keep b8; have B8 : Hid (Below w.heap.size w w8) := hid (B7.out.trans (b8.mono B7.out.size)); clear own8; clear b8 vf7 vx7)
    | (refine wpList_ldf rfl (.tmp 4) rfl rfl vf7 ?_)
    | (go_at_call 15; (with_reducible refine (HX2.out w6).mono ?_); rintro e w7 ⟨rfl, b7⟩; have vf7 := vf6.keep b7; have vx7 := vx6.keep b7; have B7 : Hid (Below w.heap.size w w7) := hid (B6.out.trans (b7.mono B6.out.size)); clear b7 vf6 vx6)
    | (refine wpList_ldf rfl (.tmp 10) rfl rfl vx6 ?_)
    | (go_at_call 14; (with_reducible refine (same_any A6 A n6 l6 n c w6.heap.size w.heap.size bs bs true w6 R6.out (HB.out.below B6.out) HO.out HO.out (by simp)).mono ?_); rintro e w' ⟨rfl, rfl⟩)
    | (go_at_call 9; (with_reducible refine (HX1.out w5).mono ?_); rintro e w6 ⟨A6, n6, l6, rfl, own6, b6⟩; have vf6 := vf5.keep b6; have vx6 := vx5.keep b6; have B6 : Hid (Below w.heap.size w w6) := hid (B5.out.trans (b6.mono B5.out.size)); have R6 : Hid (Row w6 w6.heap.size A6 n6 (bv bs)) := hid own6.row; clear own6; clear b6 vf5 vx5)
    | (refine wpList_ldf rfl (.tmp 10) rfl rfl vx5 ?_)
    | (refine wpList_svf (x := X) rfl (.tmp 10) (.tmp 35) rfl rfl rfl vx4 ?_; intro w5 vx5 b5 o5 _; have vf5 := vf4.other o5 nfx.out; have B5 : Hid (Below w.heap.size w w5) := hid (B4.out.trans (b5.mono B3.out.size)); clear b5 o5 vf4)
    | (refine wpList_alf rfl rfl ?_; intro w4 vx4 b4 s4; have vf4 := vf3.keep b4; have B4 : Hid (Below w.heap.size w w4) := hid (B3.out.trans (b4.mono B3.out.size)); have nfx : Hid (w.heap.size ≠ w3.heap.size) := hid (by have := vf3.lt; omega); clear b4 s4 vf3)
    | (go_at_call 11; (with_reducible refine (HR1.out w2 B2.out).mono ?_); rintro e w3 ⟨rfl, b3⟩; have vf3 := vf2.keep b3; have B3 : Hid (Below w.heap.size w w3) := hid (B2.out.trans (b3.mono B2.out.size)); clear b3 vf2)
    | (go_at_call 8; (with_reducible refine (live_any w1).mono ?_); rintro e w2 ⟨rfl, b2⟩; have vf2 := vf1.keep b2; have B2 : Hid (Below w.heap.size w w2) := hid (B1.out.trans (b2.mono B1.out.size)); clear b2 vf1)
    | (refine wpList_boxf (x := f) rfl (.tmp 0) rfl rfl ?_; intro w1 vf1 b1 s1; have B1 : Hid (Below w.heap.size w w1) := hid b1; clear b1 s1))
  go_ret
  exact ⟨ret_bool (by simp), B9.out⟩
set_option maxRecDepth 100000 in
set_option maxHeartbeats 4000000 in
theorem back_ok_z (f X : Fr) (ex : Nat) (A : Option Addr) (n c : Nat) (bs : List Nat) (q : Int) (p : Nat) (w : World) (hr : Row w w.heap.size A n (bv bs)) (ho : Oct bs) (hnc : n ≤ c) (hn : n ≤ 2000) (fm : f.m < 65536) (hrd : rd bs = (X, ex)) (hex : ex = 0) (hf : OkF f)
    (_ : -9223372036854775808 ≤ q) (_ : q ≤ 9223372036854775807) (hp : p < 4294967296) :
    Calls Try.prog 5 #[fv f, .slice A n c, .int .i64 q, .int .u32 (p : Int)] w fun e w' => e = .returned (.bool true) ∧ Below w.heap.size w w' := by
  have HB := hid hr
  have HO := hid ho
  have HR1 : Hid (∀ w' : World, Below w.heap.size w w' → Calls Try.prog 11 #[.slice A n c] w' fun e w'' => e = .returned (.tuple #[fv X, .int .i64 (ex : Int)]) ∧ Below w'.heap.size w' w'') := hid (fun w' hb => by
    have := read_any A n c w.heap.size bs w' (hr.below hb) hb.size ho hnc (by omega)
    rw [hrd] at this
    exact this)
  obtain rfl := hex
  obtain ⟨okx, xm, hbs⟩ := rd_ok bs ho X hrd
  have HX1 : Hid (∀ w : World, Calls Try.prog 9 #[fv X] w (RetE w.heap.size (bv bs) 0 w)) := hid (fun w => by rw [hbs]; exact write_ok X w okx xm)
  have HX2 : Hid (∀ w : World, Calls Try.prog 15 #[fv X] w fun e w' => e = .returned (.int .i64 ((0 : Nat) : Int)) ∧ Below w.heap.size w w') := hid (fun w => okE_ok okx ▸ check_any X w)
  clear okx xm hbs
  obtain ⟨L, hL⟩ : ∃ L, L = (sealedF f).length := ⟨_, rfl⟩
  have HL := hid hL
  have hL9 : 9 ≤ L := by rw [hL, sealedF_len]; omega
  have hL13 : L ≤ 13 := by have := gn_slot f.s hf.2.2.2; rw [hL, sealedF_len]; omega
  have HF1 := hid (fun w => write_ok f w hf fm)
  have ofs := sealedF_oct f hf
  have HQ : Hid (∀ (A' : Option Addr) (n' c' B : Nat) (w' : World), Row w' B A' n' (bv (sealedF f)) → B ≤ w'.heap.size → n' ≤ c' → Calls Try.prog 11 #[.slice A' n' c'] w' fun e w'' => e = .returned (.tuple #[fv f, .int .i64 ((0 : Nat) : Int)]) ∧ Below w'.heap.size w' w'') := hid (fun A' n' c' B w' h hB hk => by
    have := read_any A' n' c' B _ w' h hB ofs hk (by have := h.1; rw [bv_len] at this; omega)
    rw [rd_sealed f hf fm] at this
    exact this)
  have HBU : ∀ o, Burst L o (sealedF f) (bare f ++ tail32 (bare f)) 0 false := fun o => by
    have ob := bare_oct f hf
    have l1 : (bare f).length + 3 = L := by rw [hL, sealedF, List.length_append]; rfl
    exact Burst.start hL.symm (by rw [List.length_append]; show (bare f).length + 4 = L + 1; omega) ofs (ob.app (tail32_oct _)) (sealed24 ob) (sealed32 ob)
  obtain ⟨a, o, ha1, ha2, ha3, ha4, hoM⟩ := wrapped q (8 * L) (by omega)
  have HBO := hid (HBU o)
  clear HBU
  have hb1 : q.tmod (8 * (L : Int)) = a := by rw [← ha1]; congr 1
  have hb2 : (a + 8 * (L : Int)).tmod (8 * (L : Int)) = (o : Int) := by rw [← ha4]; congr 1
  have hb3 : ¬ (8 * (L : Int) = 0) := by omega
  have hb6 : ((L : Int) == 0) = false := by rw [beq_eq_false_iff_ne]; omega
  have hb4 : -105 < a := by omega
  have hb5 : a < 105 := by omega
  have ho24 : o < 104 := by omega
  have HOM := hid hoM
  clear ha1 ha2 ha3 ha4 hoM
  have g1 := fun w => neFr f f w
  have g2 := fun op a b w => guFr op a b f f w
  rw [decide_eq_true rfl] at g1
  clear hr ho hnc hrd hf fm hL ofs
  go_enter Try.func5, Try.ntmps5
  go_wp2_with (first
    | (refine wpList_ldf rfl (.tmp 4) rfl rfl vf11 ?_)
    | (refine wpList_ldf rfl (.tmp 16) rfl rfl vy11 ?_)
    | (refine wpList_svf (x := f) rfl (.tmp 16) (.tmp 74) rfl rfl rfl vy10 ?_; intro w11 vy11 b11 o11 _; have vf11 := vf10.other o11 nfy.out; have vx11 := vx10.other o11 nxy.out; have B11 : Hid (Below w.heap.size w w11) := hid (B10.out.trans (b11.mono B9.out.size)); have T8_11 : Hid (Below w8.heap.size w8 w11) := hid (T8_10.out.trans (b11.mono T8_9.out.size)); clear b11 o11 vf10 vx10)
    | (refine wpList_alf rfl rfl ?_; intro w10 vy10 b10 s10; have vf10 := vf9.keep b10; have vx10 := vx9.keep b10; have B10 : Hid (Below w.heap.size w w10) := hid (B9.out.trans (b10.mono B9.out.size)); have T8_10 : Hid (Below w8.heap.size w8 w10) := hid (T8_9.out.trans (b10.mono T8_9.out.size)); have nfy : Hid (w.heap.size ≠ w9.heap.size) := hid (by have := vf9.lt; omega); have nxy : Hid (w3.heap.size ≠ w9.heap.size) := hid (by have := vx9.lt; omega); clear b10 s10 vf9 vx9)
    | (go_at_call 11; (with_reducible refine (HQ.out A8 n8 l8 w8.heap.size w8 (R8.out.below T8_8.out) T8_8.out.size K8.out).mono ?_); rintro e w9 ⟨rfl, b9⟩; have vf9 := vf8.keep b9; have vx9 := vx8.keep b9; have B9 : Hid (Below w.heap.size w w9) := hid (B8.out.trans (b9.mono B8.out.size)); have T8_9 : Hid (Below w8.heap.size w8 w9) := hid (T8_8.out.trans (b9.mono T8_8.out.size)); clear b9 vf8 vx8 T8_8)
    | (go_at_call 9; (with_reducible refine (HF1.out w7).mono ?_); rintro e w8 ⟨A8, n8, l8, rfl, own8, b8⟩; have vf8 := vf7.keep b8; have vx8 := vx7.keep b8; have B8 : Hid (Below w.heap.size w w8) := hid (B7.out.trans (b8.mono B7.out.size)); have hn8 : n8 = L := (by have := own8.len; rw [bv_len] at this; have := HL.out; omega); subst hn8; have R8 : Hid (Row w8 w8.heap.size A8 n8 (bv (sealedF f))) := hid own8.row; have K8 : Hid (n8 ≤ l8) := hid own8.cap; clear own8; have T8_8 : Hid (Below w8.heap.size w8 w8) := hid (Below.refl _ _); clear b8 vf7 vx7)
    | (refine wpList_ldf rfl (.tmp 4) rfl rfl vf7 ?_)
    | (go_at_call 15; (with_reducible refine (HX2.out w6).mono ?_); rintro e w7 ⟨rfl, b7⟩; have vf7 := vf6.keep b7; have vx7 := vx6.keep b7; have B7 : Hid (Below w.heap.size w w7) := hid (B6.out.trans (b7.mono B6.out.size)); clear b7 vf6 vx6)
    | (refine wpList_ldf rfl (.tmp 10) rfl rfl vx6 ?_)
    | (go_at_call 14; (with_reducible refine (same_any A6 A n6 l6 n c w6.heap.size w.heap.size bs bs true w6 R6.out (HB.out.below B6.out) HO.out HO.out (by simp)).mono ?_); rintro e w' ⟨rfl, rfl⟩)
    | (go_at_call 9; (with_reducible refine (HX1.out w5).mono ?_); rintro e w6 ⟨A6, n6, l6, rfl, own6, b6⟩; have vf6 := vf5.keep b6; have vx6 := vx5.keep b6; have B6 : Hid (Below w.heap.size w w6) := hid (B5.out.trans (b6.mono B5.out.size)); have R6 : Hid (Row w6 w6.heap.size A6 n6 (bv bs)) := hid own6.row; clear own6; clear b6 vf5 vx5)
    | (refine wpList_ldf rfl (.tmp 10) rfl rfl vx5 ?_)
    | (refine wpList_svf (x := X) rfl (.tmp 10) (.tmp 35) rfl rfl rfl vx4 ?_; intro w5 vx5 b5 o5 _; have vf5 := vf4.other o5 nfx.out; have B5 : Hid (Below w.heap.size w w5) := hid (B4.out.trans (b5.mono B3.out.size)); clear b5 o5 vf4)
    | (refine wpList_alf rfl rfl ?_; intro w4 vx4 b4 s4; have vf4 := vf3.keep b4; have B4 : Hid (Below w.heap.size w w4) := hid (B3.out.trans (b4.mono B3.out.size)); have nfx : Hid (w.heap.size ≠ w3.heap.size) := hid (by have := vf3.lt; omega); clear b4 s4 vf3)
    | (go_at_call 11; (with_reducible refine (HR1.out w2 B2.out).mono ?_); rintro e w3 ⟨rfl, b3⟩; have vf3 := vf2.keep b3; have B3 : Hid (Below w.heap.size w w3) := hid (B2.out.trans (b3.mono B2.out.size)); clear b3 vf2)
    | (go_at_call 8; (with_reducible refine (live_any w1).mono ?_); rintro e w2 ⟨rfl, b2⟩; have vf2 := vf1.keep b2; have B2 : Hid (Below w.heap.size w w2) := hid (B1.out.trans (b2.mono B1.out.size)); clear b2 vf1)
    | (refine wpList_boxf (x := f) rfl (.tmp 0) rfl rfl ?_; intro w1 vf1 b1 s1; have B1 : Hid (Below w.heap.size w w1) := hid b1; clear b1 s1))
  have KR : Hid (Row w11 w11.heap.size A8 n8 (bv (sealedF f))) := hid ((R8.out.below T8_11.out).more T8_11.out.size)
  clear vy11 vf11 vx11 hb1 hb2 hb3 hb4 hb5 R8
  go_loopw [14, 19, 98] (BkRel w.heap.size w n8 o) (fun _ _ i _ => 24 - (intOf i).toNat)
  case atStart => exact ⟨0, l8, A8, _, _, false, by omega, rfl, rfl, rfl, KR.out, K8.out, HBO.out, B11.out⟩
  case round =>
    obtain ⟨k, d1, X1, ss, ts, m, hk, rfl, rfl, rfl, hs, hd1, hbu, hbel⟩ := hrel
    have RS := hid hs
    have BU := hid hbu
    have BL := hid hbel
    have hzr : w.heap.size ≤ wr.heap.size := hbel.size
    clear hs hbu hbel KR HBO
    by_cases hk24 : k < 24
    · obtain ⟨v, hv⟩ : ∃ v, v = p / 2 ^ k % 2 := ⟨_, rfl⟩
      have hand : bits .and .u32 ((p : Int) / 2 ^ k) 1 = (v : Int) := by
        rw [show (p : Int) / 2 ^ k = ((p / 2 ^ k : Nat) : Int) by norm_cast]
        refine (u32_and_nat (p / 2 ^ k) 1 (Nat.lt_of_le_of_lt (Nat.div_le_self _ _) hp) (by omega)).trans ?_
        rw [hv, show (1 : Nat) = 2 ^ 1 - 1 by decide, Nat.and_two_pow_sub_one_eq_mod]
      have hv2 : v < 2 := by rw [hv]; omega
      clear hv
      have hlt : (k : Int) < 24 := by omega
      by_cases hv0 : v = 0
      · subst hv0
        go_wp2_with fail
        go_roundw
        case rel => exact ⟨k + 1, d1, X1, ss, ts, m, by omega, by go_num, rfl, rfl, RS.out, hd1, BU.out.skip, BL.out⟩
        case measure => simp [intOf]; omega
      · obtain rfl : v = 1 := by omega
        by_cases hin : o + k < 8 * n8
        · have hge : decide ((o : Int) + (k : Int) < 8 * (n8 : Int)) = true := by rw [decide_eq_true_eq]; omega
          have HIN := hid hin
          have LS : Hid (ss.length = n8) := hid BU.out.1
          have hq1 : (o + k) / 8 < n8 := by omega
          go_wp2_with fail
          refine (turn_at X1 n8 d1 wr.heap.size (o + k) _ ss wr (by omega) RS.out BU.out.2.2.1 (by omega) (Nat.le_refl _) hq1).mono ?_
          rintro e y1 ⟨Y1, m1, e1, rfl, owy, bely⟩
          have hm1 : m1 = n8 := by rw [← owy.len, bv_len, turned_len, LS.out]
          have hm2 := hm1.symm
          subst hm2
          have RY : Hid (Row y1 y1.heap.size Y1 n8 (bv (turned ss (o + k)))) := hid owy.row
          have hcy : n8 ≤ e1 := owy.cap
          have BL1 : Hid (Below w.heap.size w y1) := hid (BL.out.trans (bely.mono hzr))
          clear owy bely RS BL
          go_wp2_with fail
          go_roundw
          case rel => exact ⟨k + 1, e1, Y1, _, _, true, by omega, by go_num, rfl, rfl, RY.out, hcy, BU.out.turn hk24 HIN.out, BL1.out⟩
          case measure => simp [intOf]; omega
        · have hge : decide ((o : Int) + (k : Int) < 8 * (n8 : Int)) = false := by rw [decide_eq_false_iff_not]; omega
          go_wp2_with fail
          go_roundw
          case rel => exact ⟨k + 1, d1, X1, ss, ts, m, by omega, by go_num, rfl, rfl, RS.out, hd1, BU.out.skip, BL.out⟩
          case measure => simp [intOf]; omega
    · obtain rfl : k = 24 := by omega
      have D := BU.out.done.1
      have o1 := BU.out.2.2.1
      have l1 : ss.length = n8 := BU.out.1
      have HD : Hid ((rd ss).2 = 5 ↔ m = true) := hid ((rd_five ss n8 l1 (by omega) (by omega) o1).trans (by rw [D]; cases m <;> simp))
      have HRS := hid (read_any X1 n8 d1 wr.heap.size ss wr RS.out (Nat.le_refl _) o1 hd1 (by omega))
      clear D o1 l1 BU RS
      have H5 : (((rd ss).2 : Int) == 5) = m := by
        rw [Bool.eq_iff_iff, beq_iff_eq, ← HD.out]; omega
      generalize (rd ss).1 = Z at *
      generalize (rd ss).2 = ez at *
      clear HD
      go_wp2_with (first
        | (refine wpList_svf (x := Z) rfl (.tmp 23) (.tmp 128) rfl rfl rfl z2 ?_; intro y3 z3 b3 o3 _; have BZ : Hid (Below w.heap.size w y3) := hid (((BL.out.trans (a1.mono hzr)).trans (a2.mono (Nat.le_trans hzr a1.size))).trans (b3.mono (Nat.le_trans hzr a1.size))))
        | (refine wpList_alf rfl rfl ?_; intro y2 z2 a2 s2)
        | (go_at_call 11; (with_reducible refine (HRS.out).mono ?_); rintro e y1 ⟨rfl, a1⟩))
      go_ret
      exact ⟨ret_bool (by simp), BZ.out⟩
theorem back_big (f : Fr) (A : Option Addr) (n c : Nat) (q : Int) (p : Nat) (w : World) (hbig : 2000 < n) (hn : n ≤ 140737488351232) :
    Calls Try.prog 5 #[fv f, .slice A n c, .int .i64 q, .int .u32 (p : Int)] w fun e w' => e = .returned (.bool true) ∧ Below w.heap.size w w' := by
  go_enter Try.func5, Try.ntmps5
  go_wp2_with (first
    | (go_at_call 8; (with_reducible refine (live_any w1).mono ?_); rintro e w2 ⟨rfl, b2⟩)
    | (refine wpList_boxf (x := f) rfl (.tmp 0) rfl rfl ?_; intro w1 v1 b1 s1))
  go_ret
  exact ⟨rfl, b1.trans (b2.mono b1.size)⟩
theorem back_row {w : World} (f : Fr) (_ : In64 f.k) (_ : In64 f.f) (_ : f.s < 18446744073709551616) (fm : f.m < 65536) (A : Option Addr) (n c : Nat) (zs : List Int) (hz : Came .u8 w A n c zs) (hc : c ≤ 140737488351232)
    (q : Int) (q1 : -9223372036854775808 ≤ q) (q2 : q ≤ 9223372036854775807) (p : Int) (p1 : 0 ≤ p) (p2 : p ≤ 4294967295) :
    Calls Try.prog 5 #[fv f, .slice A n c, .int .i64 q, .int .u32 p] w fun e w' => e = .returned (.bool true) ∧ Below w.heap.size w w' := by
  obtain ⟨r, rfl⟩ : ∃ r : Nat, p = r := ⟨p.toNat, by omega⟩
  obtain ⟨bs, hr, ho⟩ := came_u8 hz
  have hnc := hz.2.1
  by_cases hbig : 2000 < n
  · exact back_big f A n c q r w hbig (by omega)
  · by_cases hf : OkF f
    · by_cases hex : (rd bs).2 = 0
      · exact back_ok_z f _ _ A n c bs q r w hr ho hnc (by omega) fm rfl hex hf q1 q2 (by omega)
      · exact back_ok_n f _ _ A n c bs q r w hr ho hnc (by omega) fm rfl hex hf q1 q2 (by omega)
    · by_cases hex : (rd bs).2 = 0
      · exact back_bad_z f _ _ A n c bs q r w hr ho hnc (by omega) fm rfl hex hf q1 q2 (by omega)
      · exact back_bad_n f _ _ A n c bs q r w hr ho hnc (by omega) fm rfl hex hf q1 q2 (by omega)
end Go.Proofs.Ytldegdhpblkhhaa
