/-
  The statements' own 'live' (the chapter's example) is true; 'few' tells whether there are at most 200 things. No condition.
-/
import Derived.Test.YtpfidohneddgkaaKH
import Derived.Test.YtpfidohneddgkaaKP
namespace Go.Proofs.Ytpfidohneddgkaa
open Go Go.RowKit Go.Maps

theorem few_any (A : Option Addr) (n c : Nat) (nx nw hz : Int) (w : World) (r : Bool) (hr : decide ((n : Int) ≤ 200) = r) :
    Calls Try.prog 10 #[qv ⟨A, n, c, nx, nw, hz⟩] w fun e w' => e = .returned (.bool r) ∧ Below w.heap.size w w' := by
  go_enter Try.func10, Try.ntmps10
  go_wp2_with (first
    | (refine wpList_boxq (q := ⟨A, n, c, nx, nw, hz⟩) rfl (.tmp 0) rfl rfl ?_; intro w1 v1 b1 s1; have c0 : w1.cell? ⟨w.heap.size, 0, none⟩ = some (.slice A n c) := v1.c0))
  all_goals
    go_ret
    exact ⟨rfl, b1⟩

/-- The two things of the example. -/
def i5 : It := (5, 0, 0, 1, 0, 0)
def i3 : It := (3, 0, 1, 2, 0, 0)
theorem sqok1 : SqOk [i5] := by intro x hx; simp at hx; subst hx; decide
theorem sqok2 : SqOk [i3, i5] := by intro x hx; simp at hx; rcases hx with rfl | rfl <;> decide
theorem perm_one {l : List It} {x : It} (h : l.Perm [x]) : l = [x] := List.perm_singleton.1 h

set_option maxRecDepth 100000 in
set_option maxHeartbeats 1000000 in
theorem live_any (w : World) : Calls Try.prog 9 #[] w fun e w' => e = .returned (.bool true) ∧ Below w.heap.size w w' := by
  have NW := hid (fun w => new_any 9 w true (by decide))
  simp only [if_true] at NW
  have e1 : postE 0 0 9 [] 5 0 = 0 := by decide
  have P1 := hid (fun w' => post_ok none 0 0 0 0 9 w'.heap.size [] w' 5 0 1 0 0 (Row.nil _ _ _) (Nat.le_refl _) (by omega) (fun x hx => by cases hx) e1 (by omega) (by omega) (fun i _ h => by cases h))
  have e2 : okB 1 0 9 [i5] = true := by decide
  have P2 := hid (fun (A : Option Addr) (c : Nat) (l : List It) (hl : l = [i5]) w' (hr : Row w' w'.heap.size A 1 l) => post_ok A 1 c 1 0 9 w'.heap.size l w' 3 0 2 0 0 hr (Nat.le_refl _) (by omega) (by rw [hl]; exact sqok1) (postE_zero.2 ⟨by rw [hl]; exact e2, by decide, by omega, by omega⟩) (by omega) (by omega) (by rw [hl]; exact ok_hp e2))
  have P3 := hid (fun (A : Option Addr) (c : Nat) (l : List It) (hh : Hp l) (hl : l.Perm [i3, i5]) w' (hr : Row w' w'.heap.size A 2 l) =>
    have hok : okB 2 0 9 l = true := ok_post (nx := 1) (xs := [i5]) e2 (by decide) (by omega) hh hl
    have hlen : l.length = 2 := hl.length_eq
    have h0 : nth l 0 = i3 := by
      have hm : nth l 0 ∈ l := nth_mem (by omega)
      have h3 : lt i3 (nth l 0) = false := hh.least (hl.mem_iff.2 (by simp))
      rcases List.mem_cons.1 (hl.mem_iff.1 hm) with h | h
      · exact h
      · rw [List.mem_singleton.1 h] at h3; exact absurd h3 (by decide)
    step_ok A c 2 0 9 w'.heap.size l w' 1 i3 hr (Nat.le_refl _) (by omega) hh h0 (by decide) (fun w2 hb => peek_ok A 2 c 2 0 9 w'.heap.size l w2 i3 (hr.below hb) hb.size (by omega) (sqok2.perm hl) hok (by omega) h0))
  clear e1 e2
  go_enter Try.func9, Try.ntmps9
  go_wp2_with (first
    | (go_at_call 21; refine (NW.out w).mono ?_; rintro e w1 ⟨rfl, b1⟩; have B1 : Hid (Below w.heap.size w w1) := hid b1)
    | (refine wpList_alq rfl rfl ?_; intro w2 v2 b2 _; have B2 : Hid (Below w.heap.size w w2) := hid (B1.out.trans (b2.mono B1.out.size)))
    | (refine wpList_svq rfl (.tmp 1) (.tmp 11) rfl rfl rfl v2 ?_; intro w3 v3 b3 _ _; have B3 : Hid (Below w.heap.size w w3) := hid (B2.out.trans (b3.mono B1.out.size)))
    | (refine wpList_ldq rfl (.tmp 1) rfl rfl v7 ?_)
    | (refine wpList_ldq rfl (.tmp 1) rfl rfl v5 ?_)
    | (refine wpList_ldq rfl (.tmp 1) rfl rfl v3 ?_)
    | (go_at_call 12; refine (P2.out A4 c4 l4 (perm_one p4.2) w5 r5).mono ?_; rintro e w6 ⟨A6, c6, l6, rfl, p6, q6⟩; have v6 := v5.below q6.2.2 v5.lt; have B6 : Hid (Below w.heap.size w w6) := hid (B5.out.trans (q6.2.2.mono B5.out.size)))
    | (go_at_call 12; refine (P1.out w3).mono ?_; rintro e w4 ⟨A4, c4, l4, rfl, p4, q4⟩; have v4 := v3.below q4.2.2 v3.lt; have B4 : Hid (Below w.heap.size w w4) := hid (B3.out.trans (q4.2.2.mono B3.out.size)))
    | (refine wpList_svq rfl (.tmp 1) (.tmp 16) rfl rfl rfl v4 ?_; intro w5 v5 b5 o5 _; have r5 := (q4.1.oth o5 (fun g o e => by have := q4.2.1 g o e; have := v3.lt; omega)).top; have B5 : Hid (Below w.heap.size w w5) := hid (B4.out.trans (b5.mono B1.out.size)))
    | (refine wpList_svq rfl (.tmp 1) (.tmp 22) rfl rfl rfl v6 ?_; intro w7 v7 b7 o7 _; have r7 := (q6.1.oth o7 (fun g o e => by have := q6.2.1 g o e; have := v5.lt; omega)).top; have B7 : Hid (Below w.heap.size w w7) := hid (B6.out.trans (b7.mono B1.out.size)))
    | (go_at_call 17; refine (P3.out A6 c6 l6 p6.1 (by have h := p6.2; rw [perm_one p4.2] at h; exact h) w7 r7).mono ?_; rintro e w8 ⟨A8, c8, l8, rfl, p8, q8⟩; have v8 := v7.below q8.2.2 v7.lt; have B8 : Hid (Below w.heap.size w w8) := hid (B7.out.trans (q8.2.2.mono B7.out.size)))
    | (refine wpList_ali rfl rfl ?_; intro w9 i9 b9 _; have v9 := v8.below b9 v8.lt; have B9 : Hid (Below w.heap.size w w9) := hid (B8.out.trans (b9.mono B8.out.size)))
    | (refine wpList_svq rfl (.tmp 1) (.tmp 28) rfl rfl rfl v9 ?_; intro w10 v10 b10 o10 _; have i10 := i9.other o10 (by have := v8.lt; omega); have B10 : Hid (Below w.heap.size w w10) := hid (B9.out.trans (b10.mono B1.out.size)))
    | (refine wpList_svi (v := i3) rfl (.tmp 7) (.tmp 29) rfl rfl rfl i10 ?_; intro w11 i11 b11 o11 _; have v11 := v10.other o11 (by have := v8.lt; omega); have B11 : Hid (Below w.heap.size w w11) := hid (B10.out.trans (b11.mono B8.out.size)); have c3 : w11.cell? ⟨w8.heap.size, 3, none⟩ = some (.int .i64 2) := i11.c3; have c2 : w11.cell? ⟨w1.heap.size, 2, none⟩ = some (.int .i64 3) := v11.c2))
  go_ret
  exact ⟨rfl, B11.out⟩
end Go.Proofs.Ytpfidohneddgkaa
