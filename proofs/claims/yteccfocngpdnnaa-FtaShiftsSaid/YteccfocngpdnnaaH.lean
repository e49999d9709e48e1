/-
  The walk of FtaShifts: all numbers greater by the same have a mean greater by it, and are as far apart; in another order they have the same. Words for slices of the call's own that grow side by side.
-/
import Derived.Test.YteccfocngpdnnaaK
namespace Go.Proofs.Yteccfocngpdnnaa
open Go Go.RowKit

/-- The block of a slice; two that are not in one block. -/
def ob (A : Option Addr) : Option Nat := Value.ownBlock (.slice A 0 0)
def Apt (A B : Option Addr) : Prop := ob A = none ∨ ob B = none ∨ ob A ≠ ob B
theorem Apt.symm {A B : Option Addr} (h : Apt A B) : Apt B A := by
  rcases h with h | h | h
  · exact .inr (.inl h)
  · exact .inl h
  · exact .inr (.inr fun e => h e.symm)
theorem ob_of (A : Option Addr) (n c : Nat) : Value.ownBlock (.slice A n c) = ob A := by cases A <;> rfl
/-- Where a slice grew, all others stay that lie apart from it, and lie apart from what it is now. -/
def Keeps (w : World) (A : Option Addr) (w' : World) (A' : Option Addr) : Prop :=
  ∀ b2 A2 n2 c2 vs, Own w b2 2 A2 n2 c2 vs → Apt A2 A → Own w' b2 2 A2 n2 c2 vs ∧ Apt A2 A'
theorem wpList_push {w : World} {ops : Array Oper} {rest : List Oper} {o : Oper} {a : Act} {Q : Exit → Act → World → Prop} (hgd : o.guard = none) (s x : Operand)
    (ho : o.op = .call { callee := .builtin .append, args := #[s, x], argTypes := #[25, 25] }) (base : Nat) (A : Option Addr) (n c : Nat) (l : List Int) (hs : a.eval s = .slice A n c) (hown : Own w base 2 A n c (sv l)) (v : Int)
    (hx : a.eval x = .slice (some ⟨w.heap.size, 0, none⟩) 1 1) (hn : n ≤ 100000) (hbase : base ≤ w.heap.size)
    (h : ∀ A' c' w', Own w' base 2 A' (n + 1) c' (sv (l ++ [v])) → Below base w w' → Keeps w A w' A' → wpList Try.prog ops Q rest (a.put o.dst (.slice A' (n + 1) c')) w') :
    wpList Try.prog ops Q (o :: rest) a (w.alloc (.cells #[.int .i64 v] 2)) := by
  refine wpList_plain hgd fun _ hK => ?_
  obtain ⟨i, hi0, hi1, hi2, hi3⟩ := info_parts info2
  obtain ⟨v', w', hrun, h2, h3, _, h5⟩ := run_append_own_at (P := Try.prog) (w.alloc (.cells #[.int .i64 v] 2)) base 25 o.type 2 i (.int .i64 0) 1 8 Try.underlying25 hi0 hi1 hi2 hi3 rfl (by omega) (.slice A n c) n (sv l) (hown.alloc _) ⟨w.heap.size, 0, none⟩ 1 1 [.int .i64 v] rfl
    (fun j u hu => by
      match j, hu with
      | 0, hu =>
        obtain rfl : Value.int .i64 v = u := by simpa using hu
        exact cell_of_row (w.alloc (.cells #[.int .i64 v] 2)) w.heap.size 0 #[.int .i64 v] 2 (0, 0) (heap_alloc_new w _))
    (by intro u hu; simp at hu; subst hu; rfl) (by unfold maxLen; omega) (by omega) (by simp; omega)
  have e1 : sv l ++ [.int .i64 v] = sv (l ++ [v]) := by simp [sv]
  rw [e1] at h2
  have hsz : (w.alloc (.cells #[.int .i64 v] 2)).heap.size = w.heap.size + 1 := by simp
  rw [ob_of] at h3 h5
  have hbel : Below base w w' := ((Below.refl _ w).alloc hbase _).trans ((Below.refl _ _).grown h3 (by omega) (fun k hk => (World.ownsRow.lt (hown.alloc (.cells #[.int .i64 v] 2)) k (by rw [ob_of]; exact hk)).1))
  have hfin : ∃ A' c', v' = .slice A' (n + 1) c' := by
    rcases h2.2 with ⟨rfl, h0⟩ | ⟨g, cap, cur, rfl, r⟩
    · omega
    · exact ⟨_, _, rfl⟩
  obtain ⟨A', c', rfl⟩ := hfin
  rw [ob_of] at h5
  have hkeep : Keeps w A w' A' := fun b2 A2 n2 c2 vs h7 h8 => by
    refine ⟨World.ownsRow.kept (h7.alloc _) h3 ?_, ?_⟩
    · rw [ob_of]
      rcases h8 with h8 | h8 | h8
      · exact .inl h8
      · rw [h8]
        cases h9 : ob A2 with
        | none => exact .inl rfl
        | some k => exact .inr (by simp)
      · exact .inr h8
    · rcases h5 with h5 | h5
      · unfold Apt; rw [h5]; exact h8
      · cases h9 : ob A2 with
        | none => exact .inl h9
        | some k =>
          have := (World.ownsRow.lt h7 k (by rw [ob_of]; exact h9)).2
          refine .inr (.inr ?_)
          rw [h9, h5, hsz]
          intro e
          injection e with e
          omega
  unfold Oper.wp execOp
  simp only [ho, resolve, invoke, builtin, Sem.run_bind, Sem.run_pure, Result.andThen_ok, List.map_toArray, List.map_cons, List.map_nil, hs, hx, hrun]
  exact hK _ _ (h A' c' w' h2 hbel hkeep)
/-- Two lists that are made side by side. -/
def ShRel (l : List Int) (by_ : Int) (w : World) (p q i : Value) (wr : World) : Prop :=
  ∃ (k c1 c2 : Nat) (A1 A2 : Option Addr), k ≤ l.length ∧ i = .int .i64 (k : Int) ∧ p = .slice A1 k c1 ∧ q = .slice A2 k c2 ∧ Hid (Own wr w.heap.size 2 A1 k c1 (sv ((l.take k).map (· + by_)))) ∧
    Hid (Own wr w.heap.size 2 A2 k c2 (sv (l.reverse.take k))) ∧ Hid (Apt A1 A2) ∧ Hid (Below w.heap.size w wr) ∧ Hid (∀ x ∈ l.take k, -1152921504606846976 ≤ x ∧ x ≤ 1152921504606846976)
theorem far_same {a b : List Int} (hp : a.length = b.length) : meanE a = meanE b := by
  unfold meanE
  rw [hp]
  have : (a = []) ↔ (b = []) := by rw [← List.length_eq_zero_iff, ← List.length_eq_zero_iff, hp]
  split
  · rfl
  · by_cases h : a = []
    · rw [if_pos h, if_pos (this.1 h)]
    · rw [if_neg h, if_neg (fun e => h (this.2 e))]
set_option maxHeartbeats 4000000 in
theorem shifts_walk (A : Option Addr) (n c : Nat) (l : List Int) (by_ : Int) (w : World) (ha : Row w w.heap.size A n (sv l)) (hb : B64 l) (hn : n ≤ 140737488351232) (y0 : -2147483648 ≤ by_) (y1 : by_ ≤ 2147483647) :
    Calls Try.prog 4 #[.slice A n c, .int .i32 by_] w (TrueB w) := by
  have hl : l.length = n := by have := ha.1; rwa [sv_len] at this
  have HL := hid hl
  have HA := hid ha
  have HB := hid hb
  clear ha hb hl
  by_cases h2 : 200 < n
  · go_enter Try.func4, Try.ntmps4
    go_wp2_with (go_at_call 6; (with_reducible refine (live_any w).mono ?_); rintro e w1 ⟨rfl, b1⟩; have B1 := hid b1; clear b1)
    go_ret
    exact ⟨rfl, B1.out⟩
  · go_enter Try.func4, Try.ntmps4
    go_wp2_with (go_at_call 6; (with_reducible refine (live_any w).mono ?_); rintro e w1 ⟨rfl, b1⟩; have B1 := hid b1; clear b1)
    go_loopw [6, 7, 29] (ShRel l by_ w) (fun _ _ i _ => n - (intOf i).toNat)
    case atStart => exact ⟨0, 0, 0, none, none, Nat.zero_le _, rfl, rfl, rfl, hid (Own.nil _ _ _), hid (Own.nil _ _ _), hid (.inl rfl), B1, hid (by intro x hx; simp at hx)⟩
    case round =>
      obtain ⟨k, c1, c2, A1, A2, hk, rfl, rfl, rfl, O1, O2, HP, BW, HS⟩ := hrel
      have hl := HL.out
      have hkn : k ≤ n := by omega
      clear hl hk
      by_cases hlt : k < n
      · obtain ⟨b, o, u, rfl, hbb, hu, hcell⟩ := (HA.out.below BW.out).at_ hlt
        obtain rfl := sv_get (by rw [HL.out]; exact hlt) hu
        obtain ⟨b', o', u, e', _, hu', hcell'⟩ := (HA.out.below BW.out).at_ (show n - 1 - k < n by omega)
        injection e' with e'; injection e' with e1 e2
        subst e1; subst e2
        obtain rfl := sv_get (by rw [HL.out]; omega) hu'
        have hkl : k < l.length := by rw [HL.out]; exact hlt
        have HT : Hid (l.take (k + 1) = l.take k ++ [l.getD k 0]) := hid (by rw [List.take_succ_eq_append_getElem hkl]; simp [List.getD, List.getElem?_eq_getElem hkl])
        have HR : Hid (l.reverse.take (k + 1) = l.reverse.take k ++ [l.getD (n - 1 - k) 0]) := hid (by
          have hr : k < l.reverse.length := by simpa using hkl
          rw [List.take_succ_eq_append_getElem hr, List.getElem_reverse]
          have : l.length - 1 - k < l.length := by omega
          simp [List.getD, ← HL.out, List.getElem?_eq_getElem this])
        have hx := getD_b64 HB.out k
        have hy := getD_b64 HB.out (n - 1 - k)
        generalize l.getD k 0 = x at *
        generalize l.getD (n - 1 - k) 0 = y at *
        have hj : ((n : Int) - 1 - (k : Int)) = ((n - 1 - k : Nat) : Int) := by omega
        have hj2 : n - 1 - k < n := by omega
        generalize n - 1 - k = j at *
        have HX := hid hx
        have x1 := hx.1
        have x2 := hx.2
        clear hu hu' hx hy hkl hbb
        by_cases q1 : 1152921504606846976 < x
        · go_wp2
          go_ret
          exact ⟨rfl, BW.out⟩
        · by_cases q2 : x < -1152921504606846976
          · go_wp2
            go_ret
            exact ⟨rfl, BW.out⟩
          · go_wp2_with (first
              | (at_builtin; refine wpList_push rfl (.tmp 48) (.tmp 57) rfl w.heap.size A2 k c2 (l.reverse.take k) rfl O4.out y rfl (by omega) B3.out.size ?_; intro A4 c4 w4 o4 b4 k4; have O5 : Hid (Own w4 w.heap.size 2 A4 (k + 1) c4 (sv (l.reverse.take k ++ [y]))) := hid o4; have KP2 := k4 _ _ _ _ _ O3.out P3.out; have O6 : Hid (Own w4 w.heap.size 2 A3 (k + 1) c3 (sv ((l.take k).map (· + by_) ++ [x + by_]))) := hid KP2.1; have P6 : Hid (Apt A3 A4) := hid KP2.2; clear KP2; have B4 : Hid (Below w.heap.size w w4) := hid (B3.out.trans b4); clear o4 k4 b4)
              | (at_builtin; refine wpList_push rfl (.tmp 41) (.tmp 46) rfl w.heap.size A1 k c1 ((l.take k).map (· + by_)) rfl O1.out (x + by_) rfl (by omega) BW.out.size ?_; intro A3 c3 w3 o3 b3 k3; have O3 : Hid (Own w3 w.heap.size 2 A3 (k + 1) c3 (sv ((l.take k).map (· + by_) ++ [x + by_]))) := hid o3; have KP := k3 _ _ _ _ _ O2.out HP.out.symm; have O4 : Hid (Own w3 w.heap.size 2 A2 k c2 (sv (l.reverse.take k))) := hid KP.1; have P3 : Hid (Apt A3 A2) := hid KP.2.symm; clear KP; have B3 : Hid (Below w.heap.size w w3) := hid (BW.out.trans b3); have hcell3 : w3.cell? ⟨b, o + j, none⟩ = some (.int .i64 y) := (b3.cell (p := ⟨b, o + j, none⟩) (by assumption)).trans hcell'; clear o3 k3 b3 hcell'))
            refine ⟨⟨k + 1, c3, c4, A3, A4, by rw [HL.out]; omega, by go_num, rfl, rfl, hid ?_, hid ?_, P6, B4, hid ?_⟩, by simp [intOf]; omega⟩
            · rw [HT.out, List.map_append]; exact O6.out
            · rw [HR.out]; exact O5.out
            · rw [HT.out]
              intro z hz
              rcases List.mem_append.1 hz with hz | hz
              · exact HS.out z hz
              · obtain rfl := List.mem_singleton.1 hz
                omega
      · have hk2 : k = n := by omega
        have hT1 : l.take k = l := List.take_of_length_le (by rw [HL.out]; omega)
        have hT2 : l.reverse.take k = l.reverse := List.take_of_length_le (by rw [List.length_reverse, HL.out]; omega)
        have hs := HS.out
        rw [hT1] at hs O1
        rw [hT2] at O2
        have hb1 : B64 (l.map (· + by_)) := fun z hz => by
          obtain ⟨x, hx, rfl⟩ := List.mem_map.1 hz
          have := hs x hx; omega
        have hb2 : B64 l.reverse := fun z hz => HB.out z (List.mem_reverse.1 hz)
        have R1 := O1.out.row
        have R2 := O2.out.row
        obtain ⟨m, E, s, m2, s2, m3, em, eE, es, em2, es2, em3, hc⟩ : ∃ m E s m2 s2 m3, mean l = m ∧ meanE l = E ∧ far l = s ∧ mean (l.map (· + by_)) = m2 ∧ far (l.map (· + by_)) = s2 ∧ mean l.reverse = m3 ∧
            (E = 7 ∨ E = 8 ∨ E = 0 ∧ -1152921504606846976 ≤ m ∧ m ≤ 1152921504606846976 ∧ m2 = m + by_ ∧ m3 = m ∧ s2 = s) := by
          refine ⟨_, _, _, _, _, _, rfl, rfl, rfl, rfl, rfl, rfl, ?_⟩
          by_cases h6 : 64 < l.length
          · refine .inl ?_; unfold meanE; rw [if_pos h6]
          · by_cases h0 : l = []
            · refine .inr (.inl ?_); unfold meanE; rw [if_neg h6, if_pos h0]
            · have h0m : l.map (· + by_) ≠ [] := fun e => h0 (List.map_eq_nil_iff.1 e)
              have h0r : l.reverse ≠ [] := fun e => h0 (List.reverse_eq_nil_iff.1 e)
              have haw := avg_within h0 hs
              have e1 : mean l = avg l := by unfold mean; rw [if_neg h6, if_neg h0]
              have e2 : mean (l.map (· + by_)) = avg l + by_ := by unfold mean; rw [if_neg (by rw [List.length_map]; exact h6), if_neg h0m, avg_map h0]
              have e3 : mean l.reverse = avg l := by unfold mean; rw [if_neg (by rw [List.length_reverse]; exact h6), if_neg h0r, avg_same (List.reverse_perm l)]
              have e4 : far l = mx l - mn l := by unfold far; rw [if_neg h6, if_neg h0]
              have e5 : far (l.map (· + by_)) = mx l - mn l := by unfold far; rw [if_neg (by rw [List.length_map]; exact h6), if_neg h0m, mx_map h0, mn_map h0]; omega
              refine .inr (.inr ⟨by unfold meanE; rw [if_neg h6, if_neg h0], ?_, ?_, ?_, ?_, ?_⟩)
              · rw [e1]; exact haw.1
              · rw [e1]; exact haw.2
              · rw [e2, e1]
              · rw [e3, e1]
              · rw [e5, e4]
        have HM1 : Hid (∀ w1, Below w.heap.size w w1 → Calls Try.prog 7 #[.slice A n c] w1 (RetM m E w1)) := hid fun w1 b1 => average_any A n c w.heap.size l w1 (HA.out.below b1) b1.size HB.out (by omega) m E em eE
        have HM2 : Hid (∀ w1, Below wr.heap.size wr w1 → Calls Try.prog 7 #[.slice A1 k c1] w1 (RetM m2 E w1)) := hid fun w1 b1 => average_any A1 k c1 wr.heap.size _ w1 (R1.below b1) b1.size hb1 (by omega) m2 E em2 (by rw [← eE]; exact far_same (by simp))
        have HM3 : Hid (∀ w1, Below wr.heap.size wr w1 → Calls Try.prog 7 #[.slice A2 k c2] w1 (RetM m3 E w1)) := hid fun w1 b1 => average_any A2 k c2 wr.heap.size _ w1 (R2.below b1) b1.size hb2 (by omega) m3 E em3 (by rw [← eE]; exact far_same (by simp))
        have HS1 : Hid (∀ w1, Below w.heap.size w w1 → Calls Try.prog 8 #[.slice A n c] w1 (RetU s E w1)) := hid fun w1 b1 => spread_any A n c w.heap.size l w1 (HA.out.below b1) HB.out (by omega) s E es eE
        have HS2 : Hid (∀ w1, Below wr.heap.size wr w1 → Calls Try.prog 8 #[.slice A1 k c1] w1 (RetU s2 E w1)) := hid fun w1 b1 => spread_any A1 k c1 wr.heap.size _ w1 (R1.below b1) hb1 (by omega) s2 E es2 (by rw [← eE]; exact far_same (by simp))
        subst hk2
        clear em eE es em2 es2 em3 hT1 hT2 hs hb1 hb2 R1 R2 O1 O2 HS HP HA HB HL
        rcases hc with rfl | rfl | ⟨rfl, hm0, hm1, rfl, rfl, rfl⟩
        · go_wp2_with (first
            | (go_at_call 8; (with_reducible refine (HS2.out w5 W5.out).mono ?_); rintro e w7 ⟨rfl, e7⟩; rw [e7]; clear e7 w7)
            | (go_at_call 8; (with_reducible refine (HS1.out w5 B5.out).mono ?_); rintro e w6 ⟨rfl, e6⟩; rw [e6]; clear e6 w6)
            | (go_at_call 7; (with_reducible refine (HM3.out w4 W4.out).mono ?_); rintro e w5 ⟨rfl, b5⟩; have B5 : Hid (Below w.heap.size w w5) := hid (B4.out.trans (b5.mono B4.out.size)); have W5 : Hid (Below wr.heap.size wr w5) := hid (W4.out.trans (b5.mono W4.out.size)); clear b5)
            | (go_at_call 7; (with_reducible refine (HM2.out w3 W3.out).mono ?_); rintro e w4 ⟨rfl, b4⟩; have B4 : Hid (Below w.heap.size w w4) := hid (B3.out.trans (b4.mono B3.out.size)); have W4 : Hid (Below wr.heap.size wr w4) := hid (W3.out.trans (b4.mono W3.out.size)); clear b4)
            | (go_at_call 7; (with_reducible refine (HM1.out wr BW.out).mono ?_); rintro e w3 ⟨rfl, b3⟩; have B3 : Hid (Below w.heap.size w w3) := hid (BW.out.trans (b3.mono BW.out.size)); have W3 : Hid (Below wr.heap.size wr w3) := hid b3; clear b3))
          go_ret
          exact ⟨rfl, B5.out⟩
        · go_wp2_with (first
            | (go_at_call 8; (with_reducible refine (HS2.out w5 W5.out).mono ?_); rintro e w7 ⟨rfl, e7⟩; rw [e7]; clear e7 w7)
            | (go_at_call 8; (with_reducible refine (HS1.out w5 B5.out).mono ?_); rintro e w6 ⟨rfl, e6⟩; rw [e6]; clear e6 w6)
            | (go_at_call 7; (with_reducible refine (HM3.out w4 W4.out).mono ?_); rintro e w5 ⟨rfl, b5⟩; have B5 : Hid (Below w.heap.size w w5) := hid (B4.out.trans (b5.mono B4.out.size)); have W5 : Hid (Below wr.heap.size wr w5) := hid (W4.out.trans (b5.mono W4.out.size)); clear b5)
            | (go_at_call 7; (with_reducible refine (HM2.out w3 W3.out).mono ?_); rintro e w4 ⟨rfl, b4⟩; have B4 : Hid (Below w.heap.size w w4) := hid (B3.out.trans (b4.mono B3.out.size)); have W4 : Hid (Below wr.heap.size wr w4) := hid (W3.out.trans (b4.mono W3.out.size)); clear b4)
            | (go_at_call 7; (with_reducible refine (HM1.out wr BW.out).mono ?_); rintro e w3 ⟨rfl, b3⟩; have B3 : Hid (Below w.heap.size w w3) := hid (BW.out.trans (b3.mono BW.out.size)); have W3 : Hid (Below wr.heap.size wr w3) := hid b3; clear b3))
          go_ret
          exact ⟨rfl, B5.out⟩
        · go_wp2_with (first
            | (go_at_call 8; (with_reducible refine (HS2.out w5 W5.out).mono ?_); rintro e w7 ⟨rfl, e7⟩; rw [e7]; clear e7 w7)
            | (go_at_call 8; (with_reducible refine (HS1.out w5 B5.out).mono ?_); rintro e w6 ⟨rfl, e6⟩; rw [e6]; clear e6 w6)
            | (go_at_call 7; (with_reducible refine (HM3.out w4 W4.out).mono ?_); rintro e w5 ⟨rfl, b5⟩; have B5 : Hid (Below w.heap.size w w5) := hid (B4.out.trans (b5.mono B4.out.size)); have W5 : Hid (Below wr.heap.size wr w5) := hid (W4.out.trans (b5.mono W4.out.size)); clear b5)
            | (go_at_call 7; (with_reducible refine (HM2.out w3 W3.out).mono ?_); rintro e w4 ⟨rfl, b4⟩; have B4 : Hid (Below w.heap.size w w4) := hid (B3.out.trans (b4.mono B3.out.size)); have W4 : Hid (Below wr.heap.size wr w4) := hid (W3.out.trans (b4.mono W3.out.size)); clear b4)
            | (go_at_call 7; (with_reducible refine (HM1.out wr BW.out).mono ?_); rintro e w3 ⟨rfl, b3⟩; have B3 : Hid (Below w.heap.size w w3) := hid (BW.out.trans (b3.mono BW.out.size)); have W3 : Hid (Below wr.heap.size wr w3) := hid b3; clear b3))
          go_ret
          exact ⟨rfl, B5.out⟩
theorem shifts_row {w : World} (A : Option Addr) (n c : Nat) (zs : List Int) (h : Came .i64 w A n c zs) (hc : c ≤ 140737488351232) (by_ : Int) (g0 : -2147483648 ≤ by_) (g1 : by_ ≤ 2147483647) :
    Calls Try.prog 4 #[.slice A n c, .int .i32 by_] w fun e w' => e = .returned (.bool true) ∧ Below w.heap.size w w' := by
  obtain ⟨hr, hb⟩ := came_i64 h
  exact shifts_walk A n c zs by_ w hr hb (Nat.le_trans h.2.1 hc) g0 g1
end Go.Proofs.Yteccfocngpdnnaa
