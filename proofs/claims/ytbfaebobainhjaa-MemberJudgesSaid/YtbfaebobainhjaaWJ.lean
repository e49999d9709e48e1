/-
  The walk of MemberJudges: it returns true at every schedule, node, own members, slot, frame, verdict and tally.
-/
import Derived.Test.YtbfaebobainhjaaY
namespace Go.Proofs.Ytbfaebobainhjaa
open Go Go.RowKit
set_option maxHeartbeats 4000000 in
set_option maxRecDepth 100000 in
theorem judges_walk (n s l f d me k v : Int) (own : Nat) (y : Fr) (t : Ty) (w : World) (hk : 0 ≤ k) (ho : own < 65536) (hv : KeyI v) :
    Calls Try.prog 3 #[mv ⟨n, s, l, f, d⟩, .int .i64 me, .int .u16 (own : Int), .int .u64 k, fv y, .int .i64 v, tv t] w fun e w' => e = .returned (.bool true) ∧ Below w.heap.size w w' := by
  generalize (⟨n, s, l, f, d⟩ : Md) = x
  have HL := hid live_any
  have HJ := hid (fun w => judge_any x me k own y w hk ho)
  have HR := hid (fun w => rjudge_any x me k own y w hk ho)
  have HA := hid (fun w => after_any x me k v own w hk ho hv)
  have HB := hid (fun w => rafter_any x me k v own w hk ho)
  have HC := hid (fun w => count_any t v w hv)
  have HD := hid (fun w => rcount_any t v w)
  have HE := hid (fun w => clique_any t _ rfl w)
  have HF := hid (fun w => refclique_any t _ rfl w)
  clear hk ho hv
  generalize judV x me k own y = V at *
  generalize judE x me k y = E at *
  generalize aftM x me k own v = A at *
  generalize aftE x me k v = A' at *
  generalize cntT t v = T at *
  generalize cntE t v = T' at *
  generalize decide (0 < t.b ∧ t.g ≤ t.b) = c at *
  go_enter Try.func3, Try.ntmps3
  go_wp2_with (first
    | (refine wpList_svt rfl (.tmp 26) (.tmp 77) rfl rfl rfl vf ?_; intro w14 vf' bt14 o14 s14; have t14 := t13.below bt14 LT.out; have g14 := g13.below bt14 LG.out; have B14 : Hid (Below w.heap.size w w14) := hid (B13.out.trans (bt14.mono LW.out)))
    | (refine wpList_alt rfl rfl ?_; intro w13 vf b13 s13; have t13 := t12.keep b13; have g13 := g12.keep b13; have B13 : Hid (Below w.heap.size w w13) := hid (B12.out.trans (b13.mono B12.out.size)); have LT := hid t12.lt; have LG := hid g12.lt; have LW := hid B12.out.size)
    | (go_at_call 16; (with_reducible refine (HD.out w11).mono ?_); rintro e w12 ⟨rfl, b12⟩; have t12 := t11.keep b12; have g12 := g11.keep b12; have B12 : Hid (Below w.heap.size w w12) := hid (B11.out.trans (b12.mono B11.out.size)))
    | (refine wpList_ldt rfl (.tmp 13) rfl rfl t11 ?_)
    | (refine wpList_svt rfl (.tmp 24) (.tmp 71) rfl rfl rfl vg ?_; intro w11 g11 bt11 o11 s11; have t11 := t10.below bt11 LA.out; have B11 : Hid (Below w.heap.size w w11) := hid (B10.out.trans (bt11.mono LB.out)))
    | (refine wpList_alt rfl rfl ?_; intro w10 vg b10 s10; have t10 := t9.keep b10; have B10 : Hid (Below w.heap.size w w10) := hid (B9.out.trans (b10.mono B9.out.size)); have LA := hid t9.lt; have LB := hid B9.out.size)
    | (go_at_call 15; (with_reducible refine (HC.out w8).mono ?_); rintro e w9 ⟨rfl, b9⟩; have t9 := t8.keep b9; have B9 : Hid (Below w.heap.size w w9) := hid (B8.out.trans (b9.mono B8.out.size)))
    | (refine wpList_ldt rfl (.tmp 13) rfl rfl t8 ?_)
    | (go_at_call 14; (with_reducible refine (HB.out w7).mono ?_); rintro e w8 ⟨rfl, b8⟩; have t8 := t7.keep b8; have B8 : Hid (Below w.heap.size w w8) := hid (B7.out.trans (b8.mono B7.out.size)))
    | (refine wpList_ldm rfl (.tmp 7) rfl rfl m7 ?_)
    | (go_at_call 13; (with_reducible refine (HA.out w6).mono ?_); rintro e w7 ⟨rfl, b7⟩; have t7 := t6.keep b7; have m7 := m6.keep b7; have B7 : Hid (Below w.heap.size w w7) := hid (B6.out.trans (b7.mono B6.out.size)))
    | (refine wpList_ldm rfl (.tmp 7) rfl rfl m6 ?_)
    | (go_at_call 12; (with_reducible refine (HR.out w5).mono ?_); rintro e w6 ⟨rfl, b6⟩; have t6 := t5.keep b6; have m6 := m5.keep b6; have B6 : Hid (Below w.heap.size w w6) := hid (B5.out.trans (b6.mono B5.out.size)))
    | (refine wpList_ldf rfl (.tmp 11) rfl rfl f5 ?_)
    | (refine wpList_ldm rfl (.tmp 7) rfl rfl m5 ?_)
    | (go_at_call 11; (with_reducible refine (HJ.out w4).mono ?_); rintro e w5 ⟨rfl, b5⟩; have t5 := t4.keep b5; have m5 := m4.keep b5; have f5 := f4.keep b5; have B5 : Hid (Below w.heap.size w w5) := hid (B4.out.trans (b5.mono B4.out.size)))
    | (refine wpList_ldf rfl (.tmp 11) rfl rfl f4 ?_)
    | (refine wpList_ldm rfl (.tmp 7) rfl rfl m4 ?_)
    | (go_at_call 10; (with_reducible refine (HL.out w3).mono ?_); rintro e w4 ⟨rfl, b4⟩; have t4 := t3.keep b4; have m4 := m3.keep b4; have f4 := f3.keep b4; have B4 : Hid (Below w.heap.size w w4) := hid (B3.out.trans (b4.mono B3.out.size)))
    | (refine wpList_boxt (x := t) rfl (.tmp 6) rfl rfl ?_; intro w3 t3 b3 s3; have m3 := m2.keep b3; have f3 := f2.keep b3; have B3 : Hid (Below w.heap.size w w3) := hid (B2.out.trans (b3.mono B2.out.size)))
    | (refine wpList_boxf (x := y) rfl (.tmp 4) rfl rfl ?_; intro w2 f2 b2 s2; have m2 := v1.keep b2; have B2 : Hid (Below w.heap.size w w2) := hid (b1.trans (b2.mono b1.size)))
    | (refine wpList_boxm (x := x) rfl (.tmp 0) rfl rfl ?_; intro w1 v1 b1 s1))
  have BB := hid (fun dd os => (B14.out.trans ((below_regrown w14 dd os).mono B14.out.size)))
  have T1 := hid (fun dd os => Calls.regrown_of (HE.out (Sort.grow (redrawn w14 dd) os)))
  have T2 := hid (fun dd os => Calls.regrown_of (HF.out (Sort.grow (redrawn w14 dd) os)))
  refine wp_region_quiet_below (by kernel_rfl) (by kernel_rfl) ?_
  repeat (first | refine wpQuiet_ldt rfl rfl rfl g14 ?_ | refine wpQuiet_ldt rfl rfl rfl vf' ?_ | refine wpQuiet_ldt rfl rfl rfl t14 ?_ | refine wpQuiet_eqt rfl rfl rfl rfl ?_ | quiet_step (first | (with_reducible exact T1.out _ _) | (with_reducible exact T2.out _ _)))
  refine wpQuiet_nil ?_
  intro _ hw'
  obtain ⟨⟨dq, osq⟩, hw''⟩ := hw'
  subst hw''
  go_wp2
  go_ret
  exact ⟨ret_bool (by simp), BB.out dq osq⟩
end Go.Proofs.Ytbfaebobainhjaa
