/-
  Tokens and places compared ('=='); the contracts of the law functions' few and the document's Same of tokens (at slices that read as lists).
-/
import Derived.Test.YtfdieablcffdkaaGreatDoorLJ
import Derived.Laws.StructEq
import Derived.BigQuiet
namespace Go.Proofs.YtfdieablcffdkaaGreatDoor
open Go Go.RowKit Go.Joins

theorem foT : Tryz.prog.underlying 26 = some (.struct (Tryz.prog.fieldsOf 26)) := by kernel_rfl
theorem siT : Tryz.prog.stoodInHeld 26 = false := by kernel_rfl
theorem egT : Tryz.prog.eqGuardType Tryz.prog.depth 26 = false := by kernel_rfl
theorem foP : Tryz.prog.underlying 32 = some (.struct (Tryz.prog.fieldsOf 32)) := by kernel_rfl
theorem siP : Tryz.prog.stoodInHeld 32 = false := by kernel_rfl
theorem egP : Tryz.prog.eqGuardType Tryz.prog.depth 32 = false := by kernel_rfl
theorem strB_inj {a b : List UInt8} : ((strB a).toList == (strB b).toList) = decide (a = b) := by
  rw [ByteArray.toList_eq, ByteArray.toList_eq, Bool.eq_iff_iff, beq_iff_eq, decide_eq_true_eq]
  exact Iff.rfl
theorem eqInT (x y : Tk) (w : World) : (Op.equalIn 10000 26 (tkV x) (tkV y)).run Tryz.prog w = .ok (decide (x = y)) w := by
  obtain ⟨x1, x2, x3, x4⟩ := x
  obtain ⟨y1, y2, y3, y4⟩ := y
  unfold tkV
  rw [run_equalIn_agg w 9999 26 _ _ foT siT]
  have h := strB_inj (a := x2) (b := y2)
  simp [go_sem, h]
  by_cases h1 : x1 = y1 <;> by_cases h2 : x2 = y2 <;> by_cases h3 : x3 = y3 <;> by_cases h4 : x4 = y4 <;> simp [h1, h2, h3, h4]
theorem eqT (x y : Tk) (w : World) : (binOp .eql 26 (tkV x) (tkV y)).run Tryz.prog w = .ok (.bool (decide (x = y))) w := by
  have := eqInT x y w
  unfold tkV at this ⊢
  rw [run_eql_struct, this]; rfl
theorem neT (x y : Tk) (w : World) : (binOp .neq 26 (tkV x) (tkV y)).run Tryz.prog w = .ok (.bool (!decide (x = y))) w := by
  have := eqInT x y w
  unfold tkV at this ⊢
  rw [run_neq_struct, this]; rfl
theorem guT (op : BinOp) (a b : Operand) (x y : Tk) (w : World) : (eqGuard op 26 a b (tkV x) (tkV y)).run Tryz.prog w = .ok () w := run_eqGuard_agg w op 26 a b _ _ egT
theorem eqInP (x y : Pl) (w : World) : (Op.equalIn 10000 32 (plV x) (plV y)).run Tryz.prog w = .ok (decide (x = y)) w := by
  obtain ⟨x1, x2⟩ := x
  obtain ⟨y1, y2⟩ := y
  unfold plV
  rw [run_equalIn_agg w 9999 32 _ _ foP siP]
  simp [go_sem]
  by_cases h1 : x1 = y1 <;> by_cases h2 : x2 = y2 <;> simp [h1, h2] <;> omega
theorem eqP (x y : Pl) (w : World) : (binOp .eql 32 (plV x) (plV y)).run Tryz.prog w = .ok (.bool (decide (x = y))) w := by
  have := eqInP x y w
  unfold plV at this ⊢
  rw [run_eql_struct, this]; rfl
theorem neP (x y : Pl) (w : World) : (binOp .neq 32 (plV x) (plV y)).run Tryz.prog w = .ok (.bool (!decide (x = y))) w := by
  have := eqInP x y w
  unfold plV at this ⊢
  rw [run_neq_struct, this]; rfl
theorem guP (op : BinOp) (a b : Operand) (x y : Pl) (w : World) : (eqGuard op 32 a b (plV x) (plV y)).run Tryz.prog w = .ok () w := run_eqGuard_agg w op 32 a b _ _ egP

/-! ### few -/
def fewB (n : Nat) (ts : List Tk) : Bool := ts.all (fun t => decide (t.s.length ≤ 200)) && ((decide (n ≤ 3000) || (decide (65536 < n) && decide (n < 131072))) && decide (ts.length ≤ 300))
set_option maxRecDepth 100000 in
theorem few_any (s : ByteArray) (A : Option Addr) (n c B : Nat) (ts : List Tk) (w : World) (hr : tkS.Rw w B A n ts) (hB : B ≤ w.heap.size) (hn : n ≤ 9223372036854775807) (hs : s.size ≤ 9223372036854775807) :
    Calls Tryz.prog 6 #[.string s, .slice A n c] w fun e w' => e = .returned (.bool (fewB s.size ts)) ∧ Below w.heap.size w w' := by
  have HR := hid hr
  have HL := hid hr.1
  clear hr
  go_enter Tryz.func6, Tryz.ntmps6
  go_wp2
  go_loopw [9] (fun v9 wr => ∃ k : Nat, v9 = .int .i64 (k : Nat) ∧ k ≤ n ∧ (ts.take k).all (fun t => decide (t.s.length ≤ 200)) = true ∧ Below w.heap.size w wr) (fun v9 _ => n - (intOf v9).toNat)
  case atStart => exact ⟨0, rfl, Nat.zero_le _, rfl, Below.refl _ _⟩
  case round =>
    obtain ⟨k, rfl, hk, hall, hbel⟩ := hrel
    have BW := hid hbel
    by_cases hlt : k < n
    · obtain ⟨b, o, rfl, hb, hc⟩ := (HR.out.below (hbel.mono hB)).at_ hlt
      have hg : ts[k]? = some (tkS.nth ts k) := Sh.nth_get tkS (by rw [HL.out]; exact hlt)
      have HT : Hid (ts.take (k + 1) = ts.take k ++ [tkS.nth ts k]) := hid (by rw [List.take_add_one, hg]; rfl)
      have HM := hid (List.mem_of_getElem? hg)
      have HA := hid hall
      generalize tkS.nth ts k = t at *
      have r1 : wr.rangeAt b (o + k * 4) (tkS.enc t) := hc
      have hls := bA_size t.s
      clear hc hbel hall hg
      obtain ⟨t1, ts', t3, t4⟩ := t
      obtain ⟨m, hm⟩ : ∃ m, ts'.length = m := ⟨_, rfl⟩
      obtain ⟨sb, hsb⟩ : ∃ sb, strB ts' = sb := ⟨_, rfl⟩
      have hls : sb.size = m := by rw [← hsb, ← hm]; exact hls
      have HSB := hid hsb
      have HMM := hid hm
      clear hm hsb
      by_cases hm2 : (200 : Int) < m
      · have hF : Hid (fewB s.size ts = false) := hid (by
          unfold fewB
          have : ts.all (fun t => decide (t.s.length ≤ 200)) = false := List.all_eq_false.2 ⟨_, HM.out, by simp [HMM.out]; omega⟩
          rw [this]; rfl)
        go_wp2_with (first
          | (refine Sh.wp_sv tkS (x := ⟨t1, ts', t3, t4⟩) rfl (.tmp 6) (.tmp 12) rfl rfl (by rfl) q1 ?_; intro w2 q2 b2 o2 s2; have x1 : w2.cell? ⟨wr.heap.size, 1, none⟩ = some (.string sb) := (by have := q2.cell (j := 1) rfl; rw [← HSB.out]; exact this); have B2 := hid (b1.trans (b2.mono (Nat.le_refl _))); clear q1 q2 b1 b2 o2 s2)
          | (refine Sh.wp_al tkS rfl rfl ?_; intro w1 q1 b1 s1; clear s1)
          | (refine Sh.wp_ld tkS rfl (.tmp 11) rfl rfl r1 ?_))
        go_ret
        exact ⟨ret_bool hF.out.symm, BW.out.trans (B2.out.mono BW.out.size)⟩
      · have hok : Hid ((ts.take (k + 1)).all (fun t => decide (t.s.length ≤ 200)) = true) := hid (by rw [HT.out, List.all_append, HA.out]; simp [HMM.out]; omega)
        go_wp2_with (first
          | (refine Sh.wp_sv tkS (x := ⟨t1, ts', t3, t4⟩) rfl (.tmp 6) (.tmp 12) rfl rfl (by rfl) q1 ?_; intro w2 q2 b2 o2 s2; have x1 : w2.cell? ⟨wr.heap.size, 1, none⟩ = some (.string sb) := (by have := q2.cell (j := 1) rfl; rw [← HSB.out]; exact this); have B2 := hid (b1.trans (b2.mono (Nat.le_refl _))); clear q1 q2 b1 b2 o2 s2)
          | (refine Sh.wp_al tkS rfl rfl ?_; intro w1 q1 b1 s1; clear s1)
          | (refine Sh.wp_ld tkS rfl (.tmp 11) rfl rfl r1 ?_))
        go_roundw
        case rel => exact ⟨k + 1, by go_num, by omega, hok.out, BW.out.trans (B2.out.mono BW.out.size)⟩
        case measure => simp [intOf]; omega
    · have hF : Hid (fewB s.size ts = ((decide (s.size ≤ 3000) || (decide (65536 < s.size) && decide (s.size < 131072))) && decide (n ≤ 300))) := hid (by
        unfold fewB
        rw [List.take_of_length_le (by rw [HL.out]; omega)] at hall
        rw [hall, HL.out]; rfl)
      clear hall hbel
      by_cases hA : s.size ≤ 3000
      · have hA' : (s.size : Int) ≤ 3000 := by omega
        go_wp2
        go_ret
        exact ⟨ret_bool (by rw [hF.out, decide_eq_true hA, Bool.true_or, Bool.true_and]; exact decide_eq_decide.2 (by omega)), BW.out⟩
      have hA' : ¬ (s.size : Int) ≤ 3000 := by omega
      by_cases hB1 : 65536 < s.size
      · have hB1' : (65536 : Int) < s.size := by omega
        by_cases hB2 : s.size < 131072
        · have hB2' : (s.size : Int) < 131072 := by omega
          go_wp2
          go_ret
          exact ⟨ret_bool (by rw [hF.out, decide_eq_true hB1, decide_eq_true hB2, Bool.true_and, Bool.or_true, Bool.true_and]; exact decide_eq_decide.2 (by omega)), BW.out⟩
        · have hB2' : ¬ (s.size : Int) < 131072 := by omega
          go_wp2
          go_ret
          exact ⟨ret_bool (by rw [hF.out, decide_eq_false hA, decide_eq_false hB2, Bool.and_false, Bool.or_false, Bool.false_and]), BW.out⟩
      · have hB1' : ¬ (65536 : Int) < s.size := by omega
        go_wp2
        go_ret
        exact ⟨ret_bool (by rw [hF.out, decide_eq_false hA, decide_eq_false hB1, Bool.false_and, Bool.or_false, Bool.false_and]), BW.out⟩

/-! ### The document's Same of tokens -/
theorem Sh.ext_nth {P : Program} {α : Type} (σ : Sh P α) {a b : List α} (hl : a.length = b.length) (h : ∀ j, j < a.length → σ.nth a j = σ.nth b j) : a = b := by
  refine List.ext_getElem? fun j => ?_
  by_cases hj : j < a.length
  · rw [Sh.nth_get σ hj, Sh.nth_get σ (by omega), h j hj]
  · rw [List.getElem?_eq_none (by omega), List.getElem?_eq_none (by omega)]
theorem encT_lit (t : Tk) : tkV t = .agg #[.int .i64 t.kind, .string (strB t.s), .int .i64 t.n, .bool t.time] := rfl
theorem agg_cells {w : World} {b o : Nat} {t : Tk} (h : w.rangeAt b o (tkS.enc t)) : w.cell? ⟨b, o, none⟩ = some (.int .i64 t.kind) ∧ w.cell? ⟨b, o + 1, none⟩ = some (.string (strB t.s)) ∧ w.cell? ⟨b, o + 2, none⟩ = some (.int .i64 t.n) ∧ w.cell? ⟨b, o + 3, none⟩ = some (.bool t.time) :=
  ⟨h 0 _ rfl, h 1 _ rfl, h 2 _ rfl, h 3 _ rfl⟩

set_option maxRecDepth 100000 in
theorem same_any (A A2 : Option Addr) (n c m c2 B B2 : Nat) (a b : List Tk) (r : Bool) (w : World) (ha : tkS.Rw w B A n a) (hb : tkS.Rw w B2 A2 m b) (hB : B ≤ w.heap.size) (hB2 : B2 ≤ w.heap.size) (hn : n ≤ 140737488355328) (hm : m ≤ 140737488355328) (hr : decide (a = b) = r) :
    Calls Tryz.prog 16 #[.slice A n c, .slice A2 m c2] w fun e w' => e = .returned (.bool r) ∧ Below w.heap.size w w' := by
  have HA := hid ha
  have HB := hid hb
  have HR := hid hr
  have LA := hid ha.1
  have LB := hid hb.1
  clear ha hb hr
  by_cases hnm : n = m
  · subst hnm
    go_enter Tryz.func16, Tryz.ntmps16
    go_wp2
    go_loopw [13] (fun t wr => ∃ i : Nat, t = .int .i64 (i : Nat) ∧ i ≤ n ∧ (∀ j, j < i → tkS.nth a j = tkS.nth b j) ∧ Below w.heap.size w wr) (fun t _ => n - (intOf t).toNat)
    case atStart => exact ⟨0, rfl, by omega, fun j hj => absurd hj (by omega), Below.refl _ _⟩
    case round =>
      obtain ⟨i, rfl, hi, hj, bel⟩ := hrel
      have HJ := hid hj
      have BW := hid bel
      clear hj bel
      by_cases hlt : i < n
      · obtain ⟨b1, o1, rfl, _, r1⟩ := (HA.out.below (BW.out.mono hB)).at_ hlt
        obtain ⟨b2, o2, rfl, _, r2⟩ := (HB.out.below (BW.out.mono hB2)).at_ hlt
        have HY : Hid (decide (tkS.nth a i = tkS.nth b i) = true → ∀ j, j < i + 1 → tkS.nth a j = tkS.nth b j) := hid fun h j hj => by
          by_cases e : j = i
          · subst e; simpa using h
          · exact HJ.out j (by omega)
        have HN : Hid (decide (tkS.nth a i = tkS.nth b i) = false → r = false) := hid fun h => by
          rw [← HR.out, decide_eq_false_iff_not]
          rintro rfl
          simp at h
        have q1 := fun w => neT (tkS.nth a i) (tkS.nth b i) w
        have q2 := fun p q w => guT .neq p q (tkS.nth a i) (tkS.nth b i) w
        rw [encT_lit, encT_lit] at q1 q2
        obtain ⟨x0, x1, x2, x3⟩ := agg_cells (o := o1 + i * 4) r1
        obtain ⟨y0, y1, y2, y3⟩ := agg_cells (o := o2 + i * 4) r2
        clear r1 r2
        generalize decide (tkS.nth a i = tkS.nth b i) = R at *
        generalize tkS.nth a i = x at *
        generalize tkS.nth b i = y at *
        obtain ⟨k1, s1, n1, t1⟩ := x
        obtain ⟨k2, s2, n2, t2⟩ := y
        generalize strB s1 = z1 at *
        generalize strB s2 = z2 at *
        have i1 : (i : Int) < (n : Int) := by omega
        go_wp2_with fail
        go_quiet (fail)
        have HW := hid (bel_drewN BW.out nq)
        generalize wr.drewN nq = w2 at *
        clear q1 q2 x0 x1 x2 x3 y0 y1 y2 y3
        cases R
        · have HN' := hid (HN.out rfl)
          clear HN HY
          go_wp2
          go_ret
          exact ⟨ret_bool HN'.out.symm, HW.out⟩
        · have HY' := hid (HY.out rfl)
          clear HN HY
          go_wp2
          go_roundw
          case rel => exact ⟨i + 1, by go_num, by omega, HY'.out, HW.out⟩
          case measure => simp [intOf]; omega
      · have hF : Hid (r = true) := hid (by
          rw [← HR.out, decide_eq_true_eq]
          exact Sh.ext_nth tkS (by rw [LA.out, LB.out]) fun j hj => HJ.out j (by rw [LA.out] at hj; omega))
        go_wp2
        go_ret
        exact ⟨ret_bool hF.out.symm, BW.out⟩
  · have hF : Hid (r = false) := hid (by
      rw [← HR.out, decide_eq_false_iff_not]
      rintro rfl
      exact hnm (LA.out.symm.trans LB.out))
    have hb : ((n : Int) != (m : Int)) = true := by simp; omega
    go_enter Tryz.func16, Tryz.ntmps16
    go_wp2
    go_ret
    exact ⟨ret_bool hF.out.symm, Below.refl _ _⟩
end Go.Proofs.YtfdieablcffdkaaGreatDoor
