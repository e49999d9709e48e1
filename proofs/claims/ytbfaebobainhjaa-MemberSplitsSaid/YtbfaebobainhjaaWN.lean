/-
  The walk of MemberRounds: it returns true at every schedule, node, own members, slot and list of verdicts.
-/
import Derived.Test.YtbfaebobainhjaaN3
import Derived.Test.YtbfaebobainhjaaY
namespace Go.Proofs.Ytbfaebobainhjaa
open Go Go.RowKit
set_option maxHeartbeats 4000000 in
theorem rounds_walk (x : Md) (me k : Int) (own : Nat) (A : Option Addr) (n c : Nat) (l : List Int) (w : World) (hk : 0 ≤ k) (hn : n ≤ 140737488351232) (ha : Row w w.heap.size A n (sv l)) (hb : ∀ z ∈ l, KeyI z) (ho : own < 65536) :
    Calls Try.prog 4 #[mv x, .int .i64 me, .int .u16 (own : Int), .int .u64 k, .slice A n c] w (TrueB w) := by
  have HL := hid live_any
  by_cases h100 : 100 < n
  · clear hk ha hb ho
    go_enter Try.func4, Try.ntmps4
    go_wp2_with (first
      | (go_at_call 10; (with_reducible refine (HL.out w1).mono ?_); rintro e w2 ⟨rfl, b2⟩; have B2 : Hid (Below w.heap.size w w2) := hid (b1.trans (b2.mono b1.size)))
      | (refine wpList_boxm (x := x) rfl (.tmp 0) rfl rfl ?_; intro w1 v1 b1 s1))
    go_ret
    exact ⟨rfl, B2.out⟩
  · have HR := hid (fun w' (b : Below w.heap.size w w') => round_any x me k own A n c l w' hk (by omega) ((ha.below b).more b.size) hb ho)
    have HS := hid (fun w' (b : Below w.heap.size w w') => rround_any x me k own A n c l w' hk (by omega) ((ha.below b).more b.size) hb ho)
    clear hk ha hb ho
    generalize rndA x me k l own = R at *
    obtain ⟨P, T, E⟩ := R
    have q1 := fun w => eqTy T T w
    have q2 := fun op a b w => guTy op a b T T w
    go_enter Try.func4, Try.ntmps4
    go_wp2_with (first
      | (refine wpList_ldt rfl (.tmp 13) rfl rfl t6 ?_)
      | (refine wpList_ldt rfl (.tmp 16) rfl rfl z6 ?_)
      | (refine wpList_svt rfl (.tmp 16) (.tmp 43) rfl rfl rfl z5 ?_; intro w6 z6 b6 o6 s6; have t6 := t5.below b6 LT.out; have B6 : Hid (Below w.heap.size w w6) := hid (B5.out.trans (b6.mono LB.out)))
      | (refine wpList_alt rfl rfl ?_; intro w5 z5 b5 s5; have t5 := t4.keep b5; have LT := hid t4.lt; have B5 : Hid (Below w.heap.size w w5) := hid (B4.out.trans (b5.mono B4.out.size)); have LB := hid B4.out.size)
      | (go_at_call 20; (with_reducible refine (HS.out w3' B3'.out).mono ?_); rintro e w4 ⟨rfl, b4⟩; have t4 := t3'.keep b4; have B4 : Hid (Below w.heap.size w w4) := hid (B3'.out.trans (b4.mono B3'.out.size)))
      | (refine wpList_ldm rfl (.tmp 5) rfl rfl m3' ?_)
      | (refine wpList_svt rfl (.tmp 13) (.tmp 33) rfl rfl rfl z3 ?_; intro w3' t3' b3' o3' s3'; have m3' := m3.below b3' LM.out; have B3' : Hid (Below w.heap.size w w3') := hid (B3.out.trans (b3'.mono LA.out)))
      | (refine wpList_alt rfl rfl ?_; intro w3 z3 b3 s3; have m3 := m2'.keep b3; have LM := hid m2'.lt; have B3 : Hid (Below w.heap.size w w3) := hid (B2'.out.trans (b3.mono B2'.out.size)); have LA := hid B2'.out.size)
      | (go_at_call 19; (with_reducible refine (HR.out w2 B2.out).mono ?_); rintro e w2' ⟨rfl, b2'⟩; have m2' := m2.keep b2'; have B2' : Hid (Below w.heap.size w w2') := hid (B2.out.trans (b2'.mono B2.out.size)))
      | (refine wpList_ldm rfl (.tmp 5) rfl rfl m2 ?_)
      | (go_at_call 10; (with_reducible refine (HL.out w1).mono ?_); rintro e w2 ⟨rfl, b2⟩; have m2 := v1.keep b2; have B2 : Hid (Below w.heap.size w w2) := hid (b1.trans (b2.mono b1.size)))
      | (refine wpList_boxm (x := x) rfl (.tmp 0) rfl rfl ?_; intro w1 v1 b1 s1))
    go_ret
    exact ⟨by first | rfl | exact ret_bool (by simp), B6.out⟩
end Go.Proofs.Ytbfaebobainhjaa
