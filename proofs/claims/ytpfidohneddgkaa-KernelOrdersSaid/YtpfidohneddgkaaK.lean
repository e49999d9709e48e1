/-
  The document's own Check, Put, Sorted, Same, Find: what they answer at slices that read as lists. What is asked: lengths that fit.
-/
import Derived.Test.YtpfidohneddgkaaJ
import Derived.Deep.RegionLaw
namespace Go.Proofs.Ytpfidohneddgkaa
open Go Go.RowKit

theorem put_at : ∀ {l : List It} {x : It} {a : Nat}, a ≤ l.length → (∀ j, j < a → lt x (nth l j) = false) → (a < l.length → lt x (nth l a) = true) → put l x = l.take a ++ (x :: l.drop a)
  | [], x, a, h, _, _ => by
    obtain rfl : a = 0 := by simpa using h
    rfl
  | y :: l, x, 0, _, _, h => by
    have := h (by simp)
    have e : nth (y :: l) 0 = y := rfl
    rw [e] at this
    unfold put
    rw [if_pos this]; rfl
  | y :: l, x, a + 1, h0, h1, h2 => by
    have e : lt x y = false := h1 0 (by omega)
    unfold put
    rw [e, if_neg Bool.false_ne_true, put_at (l := l) (x := x) (a := a) (by simpa using h0) (fun j hj => h1 (j + 1) (by omega)) (fun h => h2 (by simpa using h))]
    rfl
theorem Row.take {w : World} {B n : Nat} {A : Option Addr} {xs : List It} (h : Row w B A n xs) {k : Nat} (hk : k ≤ n) : Row w B A k (xs.take k) := by
  refine ⟨by rw [List.length_take, h.1]; omega, fun hp => ?_⟩
  obtain ⟨b, o, rfl, hb, hc⟩ := h.2 (by omega)
  refine ⟨b, o, rfl, hb, fun j u hu => hc j u ?_⟩
  have e : flat xs = flat (xs.take k) ++ flat (xs.drop k) := by rw [← flat_app, List.take_append_drop]
  rw [e, List.getElem?_append_left (List.getElem?_eq_some_iff.1 hu).1]; exact hu
theorem refless_q (x y : It) (w : World) (d : Nat) (os : Array Obj) : Calls Try.prog 30 #[itv x, itv y] (Sort.grow (redrawn w d) os) fun e w' => e = .returned (.bool (lt x y)) ∧ ∃ p : Regrown, w' = Sort.grow (redrawn w p.d) p.os :=
  Calls.regrown_of (refless_any x y (Sort.grow (redrawn w d) os))

set_option maxHeartbeats 2000000 in
theorem refcheck_any (A : Option Addr) (n c B : Nat) (xs : List It) (r : Bool) (w : World) (ha : Row w B A n xs) (hB : B ≤ w.heap.size) (hn : n ≤ 1000000000) (hr : (chk xs && decide (n ≤ 4096)) = r) :
    Calls Try.prog 37 #[.slice A n c] w fun e w' => e = .returned (.bool r) ∧ Below w.heap.size w w' := by
  have HA := hid ha
  have HL := hid ha.1
  have HR := hid hr
  clear ha hr
  go_enter Try.func37, Try.ntmps37
  go_wp2
  go_loopw [6] (fun t wr => ∃ k : Nat, t = .int .i64 (k : Int) ∧ k ≤ n ∧ Below w.heap.size w wr ∧ ∀ i, 1 ≤ i → i < k → Ok xs i) (fun t _ => n - (intOf t).toNat)
  case atStart => exact ⟨0, rfl, by omega, Below.refl _ _, fun i h1 h2 => by omega⟩
  case round =>
    obtain ⟨k, rfl, hk, hbel, hok⟩ := hrel
    have HB := hid hbel
    have HO := hid hok
    clear hbel hok
    by_cases hlt : k < n
    · by_cases h0 : 0 < k
      · have hp : par k < k := by unfold par; omega
        have HRR : Hid (Row wr B A n xs) := hid (HA.out.below (HB.out.mono hB))
        obtain ⟨b, o, rfl, hb, hc⟩ := HRR.out.all (by omega)
        have r1 := hid (hc k hlt)
        have r2 := hid (hc (par k) (by omega))
        have T1 := hid (fun d os => refless_q (nth xs k) (nth xs (par k)) wr d os)
        clear hc
        have HN : Hid (lt (nth xs k) (nth xs (par k)) = true → r = false) := hid fun h => by rw [← HR.out, chk_no h0 (by rw [HL.out]; exact hlt) h]; rfl
        have HY : Hid (lt (nth xs k) (nth xs (par k)) = false → Ok xs k) := hid fun h => h
        have ep : IntKind.i64.wrap (((k : Int) - 1).tdiv 2) = ((par k : Nat) : Int) := by
          have : ((k : Int) - 1).tdiv 2 = ((par k : Nat) : Int) := by unfold par; rw [Int.tdiv_eq_ediv_of_nonneg (by omega)]; omega
          rw [this]; exact IntWalk.i64_in _ (by omega)
        have ew : IntKind.i64.wrap ((k : Int) - 1) = (k : Int) - 1 := IntWalk.i64_in _ (by omega)
        generalize lt (nth xs k) (nth xs (par k)) = R at *
        generalize nth xs (par k) = y at *
        generalize nth xs k = x at *
        generalize par k = q at *
        have hq1 : q < n := by omega
        have hq2 : (q : Int) < (n : Int) := by omega
        have hd0 : decide (0 < k) = true := decide_eq_true h0
        go_wp2_with fail
        refine wp_region_quiet_below (by kernel_rfl) (by kernel_rfl) ?_
        repeat (first | refine wpQuiet_ld rfl rfl rfl r1.out ?_ | refine wpQuiet_ld rfl rfl rfl r2.out ?_ | quiet_step (with_reducible exact T1.out _ _))
        refine wpQuiet_nil ?_
        intro _ hw'
        obtain ⟨⟨dq, osq⟩, hw''⟩ := hw'
        subst hw''
        have HW : Hid (Below wr.heap.size wr (Sort.grow (redrawn wr dq) osq)) := hid (below_regrown wr dq osq)
        generalize Sort.grow (redrawn wr dq) osq = w2 at *
        clear r1 r2 T1 ep ew
        have HB2 : Hid (Below w.heap.size w w2) := hid (HB.out.trans (HW.out.mono HB.out.size))
        cases R
        · go_wp2
          go_roundw
          case rel => exact ⟨k + 1, by go_num, by omega, HB2.out, fun i h1 h2 => by
            by_cases e : i = k
            · subst e; exact HY.out rfl
            · exact HO.out i h1 (by omega)⟩
          case measure => simp [intOf]; omega
        · have HN' := hid (HN.out rfl)
          clear HN
          go_wp2
          go_ret
          exact ⟨ret_bool HN'.out.symm, HB2.out⟩
      · obtain ⟨z, hz⟩ : ∃ z : Int, (k : Int) = z := ⟨_, rfl⟩
        have hd0 : decide ((0 : Int) < z) = false := decide_eq_false (by omega)
        have hzn : z < (n : Int) := by omega
        have hz0 : 0 ≤ z := by omega
        have HZ := hid hz
        have H00 := hid h0
        rw [hz]
        clear hz h0
        go_wp2_with fail
        go_region
        have HB2 : Hid (Below w.heap.size w wr.drew) := hid HB.out.drew
        go_wp2
        go_roundw
        case rel => exact ⟨k + 1, by rw [← HZ.out]; go_num, by omega, HB2.out, fun i h1 h2 => by have := H00.out; omega⟩
        case measure => have := HZ.out; simp [intOf]; omega
    · have HC : Hid (chk xs = true) := hid ((chk_iff xs).2 fun i h1 h2 => HO.out i h1 (by rw [HL.out] at h2; omega))
      have HR' : Hid (decide (n ≤ 4096) = r) := hid (by rw [← HR.out, HC.out, Bool.true_and])
      go_wp2
      go_ret
      exact ⟨ret_bool (by rw [← HR'.out]; simp <;> omega), HB.out⟩
/-- append, as a step of a region that draws its order. -/
theorem step_ap {w : World} {base n : Nat} {ops : Array Oper} {o : Oper} {a : Act} {K : Act → World → Prop} {Q : Exit → Act → World → Prop} {E : Prop} (hgd : o.guard = none) (s x : Operand)
    (ho : o.op = .call { callee := .builtin .append, args := #[s, x], argTypes := #[22, 22] }) {A A2 : Option Addr} {c m c2 B : Nat} {l xs : List It} (hs : a.eval s = .slice A n c) (hown : Own w base A n c l) (hx : a.eval x = .slice A2 m c2) (hr : Row w B A2 m xs)
    (hb : n + m ≤ 1000000000) (hbase : base ≤ w.heap.size)
    (h : ∀ A' c' w', Own w' base A' (n + m) c' (l ++ xs) → Below base w w' → K (a.put o.dst (.slice A' (n + m) c')) w') : if Region.wanted o (yielded ops a.tmps) = true then Oper.wp Try.prog o a w K Q else E := by
  have hw : Region.wanted o (yielded ops a.tmps) = true := by simp [Region.wanted, hgd]
  rw [if_pos hw]
  obtain ⟨A', c', w', hrun, h2, h3⟩ := run_app (c2 := c2) o.type hown hr hb hbase
  unfold Oper.wp execOp
  simp only [ho, resolve, invoke, builtin, Sem.run_bind, Sem.run_pure, Result.andThen_ok, List.map_toArray, List.map_cons, List.map_nil, hs, hx, hrun]
  exact h A' c' w' h2 h3

theorem row_new (w : World) (x : It) : Row (w.alloc (.cells (enc x).toArray 36)).drew (w.heap.size + 1) (some ⟨w.heap.size, 0, none⟩) 1 [x] := by
  refine ⟨rfl, fun _ => ⟨w.heap.size, 0, rfl, by omega, fun j u hu => ?_⟩⟩
  have e : flat [x] = enc x := by simp [flat]
  rw [e] at hu
  exact range_new w x 36 j u hu
def PutRel (w : World) (n : Nat) (xs : List It) (x : It) (t : Value) (wr : World) : Prop := ∃ k : Nat, t = .int .i64 (k : Int) ∧ k ≤ n ∧ (∀ j, j < k → lt x (nth xs j) = false) ∧ Below w.heap.size w wr
set_option maxHeartbeats 2000000 in
theorem put_any (A : Option Addr) (n c B : Nat) (xs : List It) (x : It) (w : World) (ha : Row w B A n xs) (hnc : n ≤ c) (hB : B ≤ w.heap.size) (hn : n ≤ 100000) :
    Calls Try.prog 35 #[.slice A n c, itv x] w (RetS w.heap.size (n + 1) (· = put xs x) w) := by
  have HA := hid ha
  have HL := hid ha.1
  clear ha
  obtain ⟨x1, x2, x3, x4, x5, x6⟩ := x
  have R0 := hid (range_new w (x1, x2, x3, x4, x5, x6) 36)
  have B0 : Hid (Below w.heap.size w (w.alloc (.cells (enc (x1, x2, x3, x4, x5, x6)).toArray 36))) := hid ((Below.refl _ _).alloc (Nat.le_refl _) _)
  have S0 : Hid (w.heap.size < (w.alloc (.cells (enc (x1, x2, x3, x4, x5, x6)).toArray 36)).heap.size) := hid (by simp)
  show Calls Try.prog 35 #[.slice A n c, .agg #[.int .i64 x1, .int .i64 x2, .int .u64 x3, .int .i64 x4, .int .i64 x5, .int .u64 x6]] w _
  change Hid ((w.alloc (.cells #[.int .i64 x1, .int .i64 x2, .int .u64 x3, .int .i64 x4, .int .i64 x5, .int .u64 x6] 36)).rangeAt w.heap.size 0 _) at R0
  change Hid (Below w.heap.size w (w.alloc (.cells #[.int .i64 x1, .int .i64 x2, .int .u64 x3, .int .i64 x4, .int .i64 x5, .int .u64 x6] 36))) at B0
  change Hid (w.heap.size < (w.alloc (.cells #[.int .i64 x1, .int .i64 x2, .int .u64 x3, .int .i64 x4, .int .i64 x5, .int .u64 x6] 36)).heap.size) at S0
  go_enter Try.func35, Try.ntmps35
  go_upto_block 0 with fail
  generalize w.alloc (.cells #[.int .i64 x1, .int .i64 x2, .int .u64 x3, .int .i64 x4, .int .i64 x5, .int .u64 x6] 36) = W at *
  go_cut [5] (fun t wx => ∃ k : Nat, t = .int .i64 (k : Int) ∧ k ≤ n ∧ put xs (x1, x2, x3, x4, x5, x6) = xs.take k ++ ((x1, x2, x3, x4, x5, x6) :: xs.drop k) ∧ Below W.heap.size W wx)
  case first =>
    go_wp2_with fail
    go_loopw [5] (PutRel W n xs (x1, x2, x3, x4, x5, x6)) (fun t _ => n - (intOf t).toNat)
    case atStart => exact ⟨0, rfl, by omega, fun j hj => absurd hj (by omega), Below.refl _ _⟩
    case round =>
      obtain ⟨k, rfl, hk, hno, bel⟩ := hrel
      have HN := hid hno
      have BW := hid bel
      have BWW : Hid (Below w.heap.size w wr) := hid (B0.out.trans (bel.mono B0.out.size))
      have R1 : Hid (wr.rangeAt w.heap.size 0 (enc (x1, x2, x3, x4, x5, x6))) := hid (range_keep R0.out S0.out bel)
      clear hno bel
      by_cases hlt : k < n
      · have HRR : Hid (Row wr B A n xs) := hid (HA.out.below (BWW.out.mono hB))
        obtain ⟨b, o, rfl, hb, hc⟩ := HRR.out.all (by omega)
        have r2 := hid (hc k hlt)
        have T1 := hid (fun d os => refless_q (x1, x2, x3, x4, x5, x6) (nth xs k) wr d os)
        have HY : Hid (lt (x1, x2, x3, x4, x5, x6) (nth xs k) = true → put xs (x1, x2, x3, x4, x5, x6) = xs.take k ++ ((x1, x2, x3, x4, x5, x6) :: xs.drop k)) := hid fun h => put_at (by rw [HL.out]; exact hk) HN.out (fun _ => h)
        have HZ : Hid (lt (x1, x2, x3, x4, x5, x6) (nth xs k) = false → ∀ j, j < k + 1 → lt (x1, x2, x3, x4, x5, x6) (nth xs j) = false) := hid fun h j hj => by
          by_cases e : j = k
          · subst e; exact h
          · exact HN.out j (by omega)
        clear hc HN
        generalize lt (x1, x2, x3, x4, x5, x6) (nth xs k) = R at *
        generalize nth xs k = y at *
        have i1 : (k : Int) < (n : Int) := by omega
        have hd0 : decide (k < n) = true := decide_eq_true hlt
        go_wp2_with fail
        refine wp_region_quiet_below (by kernel_rfl) (by kernel_rfl) ?_
        repeat (first | refine wpQuiet_ld rfl rfl rfl R1.out ?_ | refine wpQuiet_ld rfl rfl rfl r2.out ?_ | quiet_step (with_reducible exact T1.out _ _))
        refine wpQuiet_nil ?_
        intro _ hw'
        obtain ⟨⟨dq, osq⟩, hw''⟩ := hw'
        subst hw''
        have HW : Hid (Below wr.heap.size wr (Sort.grow (redrawn wr dq) osq)) := hid (below_regrown wr dq osq)
        generalize Sort.grow (redrawn wr dq) osq = w2 at *
        clear R1 r2 T1
        have HB2 : Hid (Below W.heap.size W w2) := hid (BW.out.trans (HW.out.mono BW.out.size))
        cases R
        · have HZ' := hid (HZ.out rfl)
          clear HY HZ
          go_wp2
          go_roundw
          case rel => exact ⟨k + 1, by go_num, by omega, HZ'.out, HB2.out⟩
          case measure => simp [intOf]; omega
        · have HY' := hid (HY.out rfl)
          clear HY HZ
          go_wp2
          go_meet
          exact ⟨k, rfl, hk, HY'.out, HB2.out⟩
      · have HY' : Hid (put xs (x1, x2, x3, x4, x5, x6) = xs.take k ++ ((x1, x2, x3, x4, x5, x6) :: xs.drop k)) := hid (put_at (by rw [HL.out]; exact hk) HN.out (fun h => by rw [HL.out] at h; omega))
        have hd0 : decide (k < n) = false := decide_eq_false hlt
        clear HN
        go_wp2_with fail
        go_region
        go_wp2
        go_meet
        exact ⟨k, rfl, hk, HY'.out, BW.out.drew⟩
  case rest =>
    obtain ⟨k, rfl, hk, hput, bel⟩ := hcut
    have HP := hid hput
    have BWW : Hid (Below w.heap.size w wc) := hid (B0.out.trans (bel.mono B0.out.size))
    have R1 : Hid (wc.rangeAt w.heap.size 0 (enc (x1, x2, x3, x4, x5, x6))) := hid (range_keep R0.out S0.out bel)
    have S1 : Hid (w.heap.size < wc.heap.size) := hid (Nat.lt_of_lt_of_le S0.out bel.size)
    have HR1 : Hid (Row wc B A n xs) := hid (HA.out.below (BWW.out.mono hB))
    have HRT : Hid (Row wc B A k (xs.take k)) := hid (HR1.out.take hk)
    have i1 : (k : Int) ≤ (n : Int) := by omega
    have i2 : (k : Int) ≤ (c : Int) := by omega
    clear hput bel R0 B0 S0
    go_wp2_with (at_builtin; refine wpList_ap rfl (.const (.slice none 0 0)) (.tmp 24) rfl (base := wc.heap.size) (l := []) rfl (Own.nil _ _) rfl HRT.out (by omega) (Nat.le_refl _) ?_; intro A1 c1 w1 own1 bel1)
    rw [Nat.zero_add, List.nil_append] at own1
    obtain ⟨r0, r1, r2, r3, r4, r5⟩ := six_of (range_keep R1.out S1.out bel1)
    have i3 : (0 : Int) ≤ (k : Int) := by omega
    have HC1 := hid (HR1.out.cut (l := k) (r := n) (c := c) hk (Nat.le_refl _) hnc)
    rw [List.take_of_length_le (by rw [HL.out]; exact Nat.le_refl _)] at HC1
    have BA : Hid (Below w1.heap.size w1 (w1.alloc (.cells #[.int .i64 x1, .int .i64 x2, .int .u64 x3, .int .i64 x4, .int .i64 x5, .int .u64 x6] 36)).drew) := hid ((Below.refl _ _).alloc (Nat.le_refl _) _).drew
    have OA : Hid (Own (w1.alloc (.cells #[.int .i64 x1, .int .i64 x2, .int .u64 x3, .int .i64 x4, .int .i64 x5, .int .u64 x6] 36)).drew wc.heap.size A1 k c1 (xs.take k)) := hid (own1.below BA.out)
    have RA : Hid (Row (w1.alloc (.cells #[.int .i64 x1, .int .i64 x2, .int .u64 x3, .int .i64 x4, .int .i64 x5, .int .u64 x6] 36)).drew (w1.heap.size + 1) (some ⟨w1.heap.size, 0, none⟩) 1 [(x1, x2, x3, x4, x5, x6)]) := hid (row_new w1 (x1, x2, x3, x4, x5, x6))
    have BC : Hid (Below B wc (w1.alloc (.cells #[.int .i64 x1, .int .i64 x2, .int .u64 x3, .int .i64 x4, .int .i64 x5, .int .u64 x6] 36)).drew) := hid (((bel1.trans (BA.out.mono bel1.size))).mono (Nat.le_trans hB BWW.out.size))
    have hBw : B ≤ wc.heap.size := Nat.le_trans hB BWW.out.size
    go_region_law (first
      | (refine step_ap rfl (.tmp 26) (.tmp 28) rfl (by rfl) OA.out (by rfl) RA.out (by omega) (Nat.le_trans bel1.size BA.out.size) ?_; intro A2 c2 w2 own2 bel2)
      | (refine step_ap rfl (.tmp 29) (.tmp 32) rfl (by rfl) own2 (by rfl) (HC1.out.below (BC.out.trans (bel2.mono hBw))) (by omega) (Nat.le_trans bel1.size (Nat.le_trans BA.out.size bel2.size)) ?_; intro A3 c3 w3 own3 bel3))
    go_wp2
    all_goals
      go_ret
      have e1 : k + 1 + (n - k) = n + 1 := by omega
      rw [e1] at own3
      refine ⟨A3, c3, _, by rw [← e1]; rfl, by rw [HP.out]; simp, own3.base_le BWW.out.size, ?_⟩
      exact BWW.out.trans ((bel1.trans ((BA.out.mono bel1.size).trans (bel2.trans bel3))).mono BWW.out.size)
end Go.Proofs.Ytpfidohneddgkaa
