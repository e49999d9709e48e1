/-
  The statements' own 'fine': of two queues that are like one another it is true. What is asked: at most 4096 things.
-/
import Derived.Test.YtpfidohneddgkaaTE
import Derived.Test.YtpfidohneddgkaaDP
namespace Go.Proofs.Ytpfidohneddgkaa
open Go Go.RowKit Go.Maps
set_option maxRecDepth 100000 in
set_option maxHeartbeats 2000000 in
theorem fine_yes (A D : Option Addr) (n c d B B2 : Nat) (nx nw hz : Int) (la lb : List It) (w : World) (ha : Row w B A n la) (hb : Row w B2 D n lb) (hB : B ≤ w.heap.size) (hB2 : B2 ≤ w.heap.size) (hn : n ≤ 4096) (hl : Like la lb) :
    Calls Try.prog 14 #[qv ⟨A, n, c, nx, nw, hz⟩, qv ⟨D, n, d, nx, nw, hz⟩] w fun e w' => e = .returned (.bool true) ∧ Below w.heap.size w w' := by
  have S1 := hid (fun w' (hk : Below w.heap.size w w') => rsame_yes A D n c n d B B2 nx nw hz la lb true w' (ha.below (hk.mono hB)) (hb.below (hk.mono hB2)) (Nat.le_trans hB hk.size) (Nat.le_trans hB2 hk.size) hn hn (decide_eq_true hl.1))
  obtain ⟨r, hr⟩ : ∃ r, (chk la && decide (n ≤ 4096)) = r := ⟨_, rfl⟩
  have hr2 : (chk lb && decide (n ≤ 4096)) = r := by rw [← hl.2]; exact hr
  have C1 := hid (fun w' (hk : Below w.heap.size w w') => refcheck_any A n c B la r w' (ha.below (hk.mono hB)) (Nat.le_trans hB hk.size) (by omega) hr)
  have C2 := hid (fun w' (hk : Below w.heap.size w w') => refcheck_any D n d B2 lb r w' (hb.below (hk.mono hB2)) (Nat.le_trans hB2 hk.size) (by omega) hr2)
  clear ha hb hl hr hr2
  go_enter Try.func14, Try.ntmps14
  go_wp2_with (first
    | (refine wpList_boxq (q := ⟨D, n, d, nx, nw, hz⟩) rfl (.tmp 1) rfl rfl ?_; intro w2 u2 b2 s2; have v2 := v1.below b2 v1.lt; have B2 : Hid (Below w.heap.size w w2) := hid (b1.trans (b2.mono b1.size)))
    | (refine wpList_boxq (q := ⟨A, n, c, nx, nw, hz⟩) rfl (.tmp 0) rfl rfl ?_; intro w1 v1 b1 s1))
  have BB := hid (fun dd os => (B2.out.trans ((below_regrown w2 dd os).mono B2.out.size)))
  have T1 := hid (fun dd os => Calls.regrown_of (S1.out (Sort.grow (redrawn w2 dd) os) (BB.out dd os)))
  have T2 := hid (fun dd os => Calls.regrown_of (C1.out (Sort.grow (redrawn w2 dd) os) (BB.out dd os)))
  have T3 := hid (fun dd os => Calls.regrown_of (C2.out (Sort.grow (redrawn w2 dd) os) (BB.out dd os)))
  have x0 : Hid (w2.cell? ⟨w.heap.size, 0, none⟩ = some (.slice A n c)) := hid v2.c0
  have x1 : Hid (w2.cell? ⟨w1.heap.size, 0, none⟩ = some (.slice D n d)) := hid u2.c0
  have V := hid v2
  have U := hid u2
  clear v1 v2 u2 b1 b2 s1 s2 S1 C1 C2
  refine wp_region_quiet_below (by kernel_rfl) (by kernel_rfl) ?_
  repeat (first | refine wpQuiet_ldq rfl rfl rfl V.out ?_ | refine wpQuiet_ldq rfl rfl rfl U.out ?_ | refine wpQuiet_ld0 rfl rfl rfl x0.out ?_ | refine wpQuiet_ld0 rfl rfl rfl x1.out ?_ | quiet_step (first | with_reducible exact T1.out _ _ | with_reducible exact T2.out _ _ | with_reducible exact T3.out _ _))
  refine wpQuiet_nil ?_
  intro _ hw'
  obtain ⟨⟨dq, osq⟩, hw''⟩ := hw'
  subst hw''
  have HW := hid (BB.out dq osq)
  generalize Sort.grow (redrawn w2 dq) osq = w12 at *
  clear T1 T2 T3 x0 x1
  go_wp2
  go_ret
  exact ⟨ret_bool (by simp), HW.out⟩
end Go.Proofs.Ytpfidohneddgkaa
