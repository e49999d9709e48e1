/-
  The walk of FtaClips: a clock is corrected by no more than its window, and by the mean itself, if that is within; by nothing, if nothing was heard, or all were in time.
-/
import Derived.Test.YteccfocngpdnnaaG
import Derived.Test.YteccfocngpdnnaaR
namespace Go.Proofs.Yteccfocngpdnnaa
open Go Go.RowKit

theorem came_i64 {w : World} {A : Option Addr} {n c : Nat} {zs : List Int} (h : Came .i64 w A n c zs) : Row w w.heap.size A n (sv zs) ∧ B64 zs :=
  ⟨h.2.2.1, fun z hz => by have := bounds_i64 (h.2.2.2 z hz); exact ⟨this.1, by omega⟩⟩
theorem wpList_mk0 {w : World} {ops : Array Oper} {rest : List Oper} {o : Oper} {a : Act} {Q : Exit → Act → World → Prop} (hg : o.guard = none) (y z : Operand) (ho : o.op = .makeSlice 25 y z) (n : Nat) (hn : n ≤ 100) (hy : a.eval y = .int .i64 (n : Int)) (hz : a.eval z = .int .i64 (n : Int))
    (h : ∀ A' w', Row w' w'.heap.size A' n (sv (List.replicate n 0)) → Below w.heap.size w w' → wpList Try.prog ops Q rest (a.put o.dst (.slice A' n n)) w') : wpList Try.prog ops Q (o :: rest) a w := by
  obtain ⟨i, hi0, hi1, hi2, hi3⟩ := info_parts info2
  refine wpList_make_full (P := Try.prog) w hg y z 25 ho w.heap.size 2 i (.int .i64 0) 1 Try.underlying25 hi0 hi1 hi2 .i64 .i64 (n : Int) (n : Int) n hy hz rfl rfl (by rw [hi3]; omega) (by unfold maxLen; omega) (Nat.le_refl _) fun w' h1 h2 => h _ w' ?_ ((Below.refl _ _).grown h2 (Nat.le_refl _) (by intro k hk; cases hk))
  have e : (madeCells (Value.cells (.int .i64 0)) (n * 1)).toList = sv (List.replicate n 0) := by
    apply List.ext_getElem?
    intro j
    simp only [madeCells, Array.toList_map, Array.toList_range, List.getElem?_map, sv, Nat.mul_one]
    by_cases hj : j < n
    · rw [List.getElem?_range hj, List.getElem?_eq_getElem (by simpa using hj)]
      simp [Value.cells, Nat.mod_one]
    · rw [List.getElem?_eq_none (by simp; omega), List.getElem?_eq_none (by simp; omega)]; rfl
  rw [e] at h1
  exact Own.row (base := w.heap.size) (e := 2) h1
def TrueB (w : World) (e : Ending) (w' : World) : Prop := e = .returned (.bool true) ∧ Below w.heap.size w w'
set_option maxHeartbeats 2000000 in
theorem clips_neg (win : Int) (A : Option Addr) (n c : Nat) (l : List Int) (w : World) (ha : Row w w.heap.size A n (sv l)) (hb : B64 l) (hn : n ≤ 140737488351232) (g0 : -9223372036854775808 ≤ win) (g1 : win ≤ 9223372036854775807) (h : win < 0) :
    Calls Try.prog 5 #[.int .i64 win, .slice A n c] w (TrueB w) := by
  have HA := hid ha
  have HC : Hid (∀ w1, Below w.heap.size w w1 → Calls Try.prog 9 #[.int .i64 win, .slice A n c] w1 (RetM 0 1 w1)) := hid fun w1 b1 => correct_any win A n c w.heap.size l w1 (HA.out.below b1) b1.size hb (by omega) g0 g1 0 1 (by unfold corr; rw [if_pos h]) (by unfold corrE; rw [if_pos h])
  have HD : Hid (∀ w1, Calls Try.prog 9 #[.int .i64 win, .slice none 0 0] w1 (RetM 0 1 w1)) := hid fun w1 => correct_any win none 0 0 0 [] w1 (Row.nil _ _ _) (Nat.zero_le _) (by intro x hx; cases hx) (by omega) g0 g1 0 1 (by unfold corr; rw [if_pos h]) (by unfold corrE; rw [if_pos h])
  clear ha hb
  go_enter Try.func5, Try.ntmps5
  go_wp2_with (first
    | (go_at_call 6; (with_reducible refine (live_any w).mono ?_); rintro e w1 ⟨rfl, b1⟩; have B1 := hid b1; clear b1)
    | (go_at_call 9; (with_reducible refine (HC.out w1 B1.out).mono ?_); rintro e w2 ⟨rfl, b2⟩; have B2 : Hid (Below w.heap.size w w2) := hid (B1.out.trans (b2.mono B1.out.size)); clear b2)
    | (go_at_call 9; (with_reducible refine (HD.out w2).mono ?_); rintro e w3 ⟨rfl, b3⟩; have B3 : Hid (Below w.heap.size w w3) := hid (B2.out.trans (b3.mono B2.out.size)); clear b3))
  go_ret
  exact ⟨rfl, B3.out⟩
set_option maxHeartbeats 2000000 in
theorem clips_full (win : Int) (A : Option Addr) (n c : Nat) (l : List Int) (w : World) (ha : Row w w.heap.size A n (sv l)) (hb : B64 l) (hn : n ≤ 140737488351232) (g0 : -9223372036854775808 ≤ win) (g1 : win ≤ 9223372036854775807) (h : ¬ win < 0) (h64 : 64 < n) :
    Calls Try.prog 5 #[.int .i64 win, .slice A n c] w (TrueB w) := by
  have hl : l.length = n := by have := ha.1; rwa [sv_len] at this
  have HA := hid ha
  have HC : Hid (∀ w1, Below w.heap.size w w1 → Calls Try.prog 9 #[.int .i64 win, .slice A n c] w1 (RetM 0 7 w1)) := hid fun w1 b1 => correct_any win A n c w.heap.size l w1 (HA.out.below b1) b1.size hb (by omega) g0 g1 0 7 (by unfold corr; rw [if_neg h, if_pos (by omega)]) (by unfold corrE; rw [if_neg h, if_pos (by omega)])
  have HD : Hid (∀ w1, Calls Try.prog 9 #[.int .i64 win, .slice none 0 0] w1 (RetM 0 0 w1)) := hid fun w1 => correct_any win none 0 0 0 [] w1 (Row.nil _ _ _) (Nat.zero_le _) (by intro x hx; cases hx) (by omega) g0 g1 0 0 (by unfold corr; rw [if_neg h, if_neg (by decide), if_pos rfl]) (by unfold corrE; rw [if_neg h, if_neg (by decide)])
  clear ha hb hl
  go_enter Try.func5, Try.ntmps5
  go_wp2_with (first
    | (go_at_call 6; (with_reducible refine (live_any w).mono ?_); rintro e w1 ⟨rfl, b1⟩; have B1 := hid b1; clear b1)
    | (go_at_call 9; (with_reducible refine (HC.out w1 B1.out).mono ?_); rintro e w2 ⟨rfl, b2⟩; have B2 : Hid (Below w.heap.size w w2) := hid (B1.out.trans (b2.mono B1.out.size)); clear b2)
    | (go_at_call 9; (with_reducible refine (HD.out w2).mono ?_); rintro e w3 ⟨rfl, b3⟩; have B3 : Hid (Below w.heap.size w w3) := hid (B2.out.trans (b3.mono B2.out.size)); clear b3))
  go_ret
  exact ⟨ret_bool (decide_eq_true (by omega)), B3.out⟩
set_option maxHeartbeats 4000000 in
theorem clips_some (win : Int) (A : Option Addr) (n c : Nat) (l : List Int) (w : World) (ha : Row w w.heap.size A n (sv l)) (hb : B64 l) (hn : n ≤ 140737488351232) (g0 : -9223372036854775808 ≤ win) (g1 : win ≤ 9223372036854775807) (h : ¬ win < 0) (h64 : ¬ 64 < n) :
    Calls Try.prog 5 #[.int .i64 win, .slice A n c] w (TrueB w) := by
  have hl : l.length = n := by have := ha.1; rwa [sv_len] at this
  have HA := hid ha
  have HD : Hid (∀ w1, Calls Try.prog 9 #[.int .i64 win, .slice none 0 0] w1 (RetM 0 0 w1)) := hid fun w1 => correct_any win none 0 0 0 [] w1 (Row.nil _ _ _) (Nat.zero_le _) (by intro x hx; cases hx) (by omega) g0 g1 0 0 (by unfold corr; rw [if_neg h, if_neg (by decide), if_pos rfl]) (by unfold corrE; rw [if_neg h, if_neg (by decide)])
  have HE : Hid (∀ w1 A', Row w1 w1.heap.size A' n (sv (List.replicate n 0)) → Calls Try.prog 9 #[.int .i64 win, .slice A' n n] w1 (RetM 0 0 w1)) := hid fun w1 A' r1 => correct_any win A' n n w1.heap.size _ w1 r1 (Nat.le_refl _) (by intro x hx; have := (List.mem_replicate.1 hx).2; omega) (by omega) g0 g1 0 0
    (by unfold corr; rw [if_neg h, if_neg (by simp; omega)]; split
        · rfl
        · rw [avg_zero (fun x hx => (List.mem_replicate.1 hx).2)]; omega) (by unfold corrE; rw [if_neg h, if_neg (by simp; omega)])
  obtain ⟨v, m, g, hv, hm, hg, hvm⟩ : ∃ v m g, corr win l = v ∧ mean l = m ∧ meanE l = g ∧ (v ≤ win ∧ -win ≤ v ∧ -9223372036854775808 ≤ m ∧ m ≤ 9223372036854775807 ∧ ((g = 8) ∨ g = 0 ∧ v = min (max m (-win)) win)) := by
    refine ⟨_, _, _, rfl, rfl, rfl, ?_⟩
    have hl6 : ¬ 64 < l.length := by omega
    unfold corr mean meanE
    by_cases h0 : l = []
    · simp only [if_neg h, if_neg hl6, if_pos h0]; exact ⟨by omega, by omega, by omega, by omega, .inl trivial⟩
    · have := avg_b64 h0 hb
      simp only [if_neg h, if_neg hl6, if_neg h0]; exact ⟨by omega, by omega, by omega, by omega, .inr ⟨trivial, trivial⟩⟩
  have HC : Hid (∀ w1, Below w.heap.size w w1 → Calls Try.prog 9 #[.int .i64 win, .slice A n c] w1 (RetM v 0 w1)) := hid fun w1 b1 => correct_any win A n c w.heap.size l w1 (HA.out.below b1) b1.size hb (by omega) g0 g1 v 0 hv (by unfold corrE; rw [if_neg h, if_neg (by omega)])
  have HM : Hid (∀ w1, Below w.heap.size w w1 → Calls Try.prog 7 #[.slice A n c] w1 (RetM m g w1)) := hid fun w1 b1 => average_any A n c w.heap.size l w1 (HA.out.below b1) b1.size hb (by omega) m g hm hg
  obtain ⟨v1, v2, m1, m2, hcase⟩ := hvm
  clear ha hb hl hv hm hg
  rcases hcase with rfl | ⟨rfl, hcl⟩
  · go_enter Try.func5, Try.ntmps5
    go_wp2_with (first
      | (go_at_call 9; (with_reducible refine (HE.out w5 A5 R5.out).mono ?_); rintro e w6 ⟨rfl, b6⟩; have B6 : Hid (Below w.heap.size w w6) := hid (B5.out.trans (b6.mono B5.out.size)); clear b6)
      | (refine wpList_mk0 rfl (.tmp 90) (.tmp 90) rfl n (by omega) rfl rfl ?_; intro A5 w5 r5 b5; have R5 := hid r5; have B5 : Hid (Below w.heap.size w w5) := hid (B4.out.trans (b5.mono B4.out.size)); clear r5 b5)
      | (go_at_call 7; (with_reducible refine (HM.out w3 B3.out).mono ?_); rintro e w4 ⟨rfl, b4⟩; have B4 : Hid (Below w.heap.size w w4) := hid (B3.out.trans (b4.mono B3.out.size)); clear b4)
      | (go_at_call 9; (with_reducible refine (HD.out w2).mono ?_); rintro e w3 ⟨rfl, b3⟩; have B3 : Hid (Below w.heap.size w w3) := hid (B2.out.trans (b3.mono B2.out.size)); clear b3)
      | (go_at_call 9; (with_reducible refine (HC.out w1 B1.out).mono ?_); rintro e w2 ⟨rfl, b2⟩; have B2 : Hid (Below w.heap.size w w2) := hid (B1.out.trans (b2.mono B1.out.size)); clear b2)
      | (go_at_call 6; (with_reducible refine (live_any w).mono ?_); rintro e w1 ⟨rfl, b1⟩; have B1 := hid b1; clear b1))
    go_ret
    exact ⟨rfl, B6.out⟩
  · rcases (show (win < m ∧ v = win) ∨ (m < -win ∧ v = -win) ∨ (-win ≤ m ∧ m ≤ win ∧ v = m) by omega) with ⟨x1, rfl⟩ | ⟨x1, rfl⟩ | ⟨x1, x2, rfl⟩
    · clear hcl
      go_enter Try.func5, Try.ntmps5
      go_wp2_with (first
        | (go_at_call 9; (with_reducible refine (HE.out w5 A5 R5.out).mono ?_); rintro e w6 ⟨rfl, b6⟩; have B6 : Hid (Below w.heap.size w w6) := hid (B5.out.trans (b6.mono B5.out.size)); clear b6)
        | (refine wpList_mk0 rfl (.tmp 90) (.tmp 90) rfl n (by omega) rfl rfl ?_; intro A5 w5 r5 b5; have R5 := hid r5; have B5 : Hid (Below w.heap.size w w5) := hid (B4.out.trans (b5.mono B4.out.size)); clear r5 b5)
        | (go_at_call 7; (with_reducible refine (HM.out w3 B3.out).mono ?_); rintro e w4 ⟨rfl, b4⟩; have B4 : Hid (Below w.heap.size w w4) := hid (B3.out.trans (b4.mono B3.out.size)); clear b4)
        | (go_at_call 9; (with_reducible refine (HD.out w2).mono ?_); rintro e w3 ⟨rfl, b3⟩; have B3 : Hid (Below w.heap.size w w3) := hid (B2.out.trans (b3.mono B2.out.size)); clear b3)
        | (go_at_call 9; (with_reducible refine (HC.out w1 B1.out).mono ?_); rintro e w2 ⟨rfl, b2⟩; have B2 : Hid (Below w.heap.size w w2) := hid (B1.out.trans (b2.mono B1.out.size)); clear b2)
        | (go_at_call 6; (with_reducible refine (live_any w).mono ?_); rintro e w1 ⟨rfl, b1⟩; have B1 := hid b1; clear b1))
      go_ret
      exact ⟨rfl, B6.out⟩
    · clear hcl
      go_enter Try.func5, Try.ntmps5
      go_wp2_with (first
        | (go_at_call 9; (with_reducible refine (HE.out w5 A5 R5.out).mono ?_); rintro e w6 ⟨rfl, b6⟩; have B6 : Hid (Below w.heap.size w w6) := hid (B5.out.trans (b6.mono B5.out.size)); clear b6)
        | (refine wpList_mk0 rfl (.tmp 90) (.tmp 90) rfl n (by omega) rfl rfl ?_; intro A5 w5 r5 b5; have R5 := hid r5; have B5 : Hid (Below w.heap.size w w5) := hid (B4.out.trans (b5.mono B4.out.size)); clear r5 b5)
        | (go_at_call 7; (with_reducible refine (HM.out w3 B3.out).mono ?_); rintro e w4 ⟨rfl, b4⟩; have B4 : Hid (Below w.heap.size w w4) := hid (B3.out.trans (b4.mono B3.out.size)); clear b4)
        | (go_at_call 9; (with_reducible refine (HD.out w2).mono ?_); rintro e w3 ⟨rfl, b3⟩; have B3 : Hid (Below w.heap.size w w3) := hid (B2.out.trans (b3.mono B2.out.size)); clear b3)
        | (go_at_call 9; (with_reducible refine (HC.out w1 B1.out).mono ?_); rintro e w2 ⟨rfl, b2⟩; have B2 : Hid (Below w.heap.size w w2) := hid (B1.out.trans (b2.mono B1.out.size)); clear b2)
        | (go_at_call 6; (with_reducible refine (live_any w).mono ?_); rintro e w1 ⟨rfl, b1⟩; have B1 := hid b1; clear b1))
      go_ret
      exact ⟨rfl, B6.out⟩
    · clear hcl
      go_enter Try.func5, Try.ntmps5
      go_wp2_with (first
        | (go_at_call 9; (with_reducible refine (HE.out w5 A5 R5.out).mono ?_); rintro e w6 ⟨rfl, b6⟩; have B6 : Hid (Below w.heap.size w w6) := hid (B5.out.trans (b6.mono B5.out.size)); clear b6)
        | (refine wpList_mk0 rfl (.tmp 90) (.tmp 90) rfl n (by omega) rfl rfl ?_; intro A5 w5 r5 b5; have R5 := hid r5; have B5 : Hid (Below w.heap.size w w5) := hid (B4.out.trans (b5.mono B4.out.size)); clear r5 b5)
        | (go_at_call 7; (with_reducible refine (HM.out w3 B3.out).mono ?_); rintro e w4 ⟨rfl, b4⟩; have B4 : Hid (Below w.heap.size w w4) := hid (B3.out.trans (b4.mono B3.out.size)); clear b4)
        | (go_at_call 9; (with_reducible refine (HD.out w2).mono ?_); rintro e w3 ⟨rfl, b3⟩; have B3 : Hid (Below w.heap.size w w3) := hid (B2.out.trans (b3.mono B2.out.size)); clear b3)
        | (go_at_call 9; (with_reducible refine (HC.out w1 B1.out).mono ?_); rintro e w2 ⟨rfl, b2⟩; have B2 : Hid (Below w.heap.size w w2) := hid (B1.out.trans (b2.mono B1.out.size)); clear b2)
        | (go_at_call 6; (with_reducible refine (live_any w).mono ?_); rintro e w1 ⟨rfl, b1⟩; have B1 := hid b1; clear b1))
      go_ret
      exact ⟨rfl, B6.out⟩
theorem clips_row {w : World} (win : Int) (g0 : -9223372036854775808 ≤ win) (g1 : win ≤ 9223372036854775807) (A : Option Addr) (n c : Nat) (zs : List Int) (h : Came .i64 w A n c zs) (hc : c ≤ 140737488351232) :
    Calls Try.prog 5 #[.int .i64 win, .slice A n c] w fun e w' => e = .returned (.bool true) ∧ Below w.heap.size w w' := by
  obtain ⟨hr, hb⟩ := came_i64 h
  have hn : n ≤ 140737488351232 := Nat.le_trans h.2.1 hc
  by_cases h0 : win < 0
  · exact clips_neg win A n c zs w hr hb hn g0 g1 h0
  · by_cases h64 : 64 < n
    · exact clips_full win A n c zs w hr hb hn g0 g1 h0 h64
    · exact clips_some win A n c zs w hr hb hn g0 g1 h0 h64
end Go.Proofs.Yteccfocngpdnnaa
