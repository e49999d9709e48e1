/-
  Contracts of check's forms: whether a number may be, whether a statement's numbers fit, whether they hold, and which name nodes; of statements whose numbers lie in memory.
-/
import Derived.Test.YtpkoboohnbkpoaaGreatDoorJZM
import Derived.BigQuiet
import Derived.Deep.CutBlock
import Derived.Deep.DeepCutAuto
import Derived.Deep.RegionWith
namespace Go.Proofs.YtpkoboohnbkpoaaGreatDoor
open Go Go.RowKit Go.Maps

theorem below_dN {B : Nat} {a w : World} (h : Below B a w) (n : Nat) : Below B a (w.drewN n) := h.trans ⟨rfl, rfl, rfl, Nat.le_refl _, fun _ _ => rfl⟩
theorem Sv.wp_box {P : Program} {α : Type} {σ : Sv P α} {w : World} {x : α} {ops : Array Oper} {rest : List Oper} {o : Oper} {a : Act} {Q : Exit → Act → World → Prop} (hg : o.guard = none) (e : Operand) (ho : o.op = .box σ.T e) (hx : a.eval e = σ.val x)
    (h : ∀ w', σ.Var w' w.heap.size x → Below w.heap.size w w' → Hid (w'.heap.size = w.heap.size + 1) → wpList P ops Q rest (a.put o.dst (.pointer (some ⟨w.heap.size, 0, none⟩))) w') : wpList P ops Q (o :: rest) a w := by
  refine wpList_plain hg fun K hK => ?_
  unfold Oper.wp execOp
  simp only [ho, hx, Sem.run_bind, Instr.box, newVar, newRow, run_newObj_alloc, Sem.run_pure, Result.andThen_ok]
  exact hK _ _ (h _ (Sv.var_new σ w x σ.T) ((Below.refl _ _).alloc (Nat.le_refl _) _) (hid (by simp)))

/-! ### Plain -/
theorem nth_cons_zero {P : Program} {α : Type} (σ : Sh P α) (x : α) (l : List α) : σ.nth (x :: l) 0 = x := rfl
theorem nth_cons_succ {P : Program} {α : Type} (σ : Sh P α) (x : α) (l : List α) (k : Nat) : σ.nth (x :: l) (k + 1) = σ.nth l k := rfl
theorem fitsL_iff : ∀ (xs : List Nr) (ns : List (Int × Bool)), fitsL xs ns = true ↔ ns.length = xs.length ∧ ∀ j, j < xs.length → (nmS.nth ns j).2 = (nrS.nth xs j).time
  | [], [] => by simp [fitsL]
  | [], _ :: _ => by simp [fitsL]
  | _ :: _, [] => by simp [fitsL]
  | x :: xs, n :: ns => by
    simp only [fitsL, Bool.and_eq_true, beq_iff_eq, fitsL_iff xs ns, List.length_cons, Nat.add_right_cancel_iff]
    constructor
    · rintro ⟨h1, h2, h3⟩
      refine ⟨h2, fun j hj => ?_⟩
      cases j with
      | zero => exact h1
      | succ j => exact h3 j (by omega)
    · rintro ⟨h1, h2⟩
      exact ⟨h2 0 (by omega), h1, fun j hj => h2 (j + 1) (by omega)⟩
theorem mayL_iff : ∀ (xs : List Nr) (ns : List (Int × Bool)), ns.length = xs.length → (mayL xs ns = true ↔ ∀ j, j < xs.length → (nrS.nth xs j).may (nmS.nth ns j).1 = true)
  | [], [], _ => by simp [mayL]
  | x :: xs, n :: ns, h => by
    simp only [List.length_cons, Nat.add_right_cancel_iff] at h
    simp only [mayL, Bool.and_eq_true, mayL_iff xs ns h, List.length_cons]
    constructor
    · rintro ⟨h1, h2⟩ j hj
      cases j with
      | zero => exact h1
      | succ j => exact h2 j (by omega)
    · intro h2
      exact ⟨h2 0 (by omega), fun j hj => h2 (j + 1) (by omega)⟩
  | [], _ :: _, h => by simp at h
  | _ :: _, [], h => by simp at h

/-! ### may -/
theorem nrmay_any (t : Bool) (lo hi n : Int) (w : World) : Calls Tryz.prog 76 #[.agg #[.bool t, .int .i64 lo, .int .i64 hi], .int .i64 n] w fun e w' => e = .returned (.bool (Nr.may ⟨t, lo, hi⟩ n)) ∧ Below w.heap.size w w' := by
  have HM : Hid (Nr.may ⟨t, lo, hi⟩ n = (decide (lo ≤ n) && decide (n ≤ hi))) := hid rfl
  generalize Nr.may ⟨t, lo, hi⟩ n = M at *
  go_enter Tryz.func76, Tryz.ntmps76
  go_wp2_with (first | (refine Sh.wp_box nrS (x := ⟨t, lo, hi⟩) rfl (.tmp 0) rfl rfl ?_; intro w1 q1 b1 s1; have c1 : w1.cell? ⟨w.heap.size, 1, none⟩ = some (.int .i64 lo) := q1.cell (j := 1) rfl; have c2 : w1.cell? ⟨w.heap.size, 2, none⟩ = some (.int .i64 hi) := q1.cell (j := 2) rfl; have B1 := hid b1; clear q1 b1 s1))
  all_goals
    go_ret
    exact ⟨ret_bool (by rw [HM.out]; rw [Bool.eq_iff_iff]; first | (simp; done) | (simp; omega) | (simp_all; done) | (simp_all; omega)), B1.out⟩

/-! ### named -/
theorem named_any (g m nodes : Nat) (wo bl : Bool) (x : Sm) (w : World) (hn : nodes ≤ x.nc) :
    Calls Tryz.prog 63 #[.agg #[.slice (some ⟨g, 0, none⟩) m m, .int .i64 (nodes : Int), .bool wo, .bool bl], smV x] w fun e w' => e = .returned (.slice x.nA nodes x.nc) ∧ Below w.heap.size w w' := by
  obtain ⟨xw, xA, xn, xc, xb, xB, xm, xk⟩ := x
  simp only at hn ⊢
  go_enter Tryz.func63, Tryz.ntmps63
  go_wp2_with (first
    | (refine Sh.wp_box smS (x := ⟨xw, xA, xn, xc, xb, xB, xm, xk⟩) rfl (.tmp 1) rfl rfl ?_; intro w2 q2 b2 s2; have d1 : w2.cell? ⟨w1.heap.size, 1, none⟩ = some (.slice xA xn xc) := q2.cell (j := 1) rfl; have c1 : w2.cell? ⟨w.heap.size, 1, none⟩ = some (.int .i64 (nodes : Int)) := (V1.out.keep b2).cell (j := 1) rfl; have B2 := hid (B1.out.trans (b2.mono B1.out.size)); clear q2 b2 s2)
    | (refine Sv.wp_box (σ := feS) (x := ⟨some ⟨g, 0, none⟩, m, m, nodes, wo, bl⟩) rfl (.tmp 0) rfl rfl ?_; intro w1 q1 b1 s1; have V1 := hid q1; have B1 := hid b1; clear q1 b1 s1))
  all_goals
    go_ret
    exact ⟨rfl, B2.out⟩

/-! ### fits -/
set_option maxHeartbeats 1000000 in
set_option maxRecDepth 100000 in
theorem ffits_any (nums : List Nr) (g m nodes : Nat) (wo bl : Bool) (x : Sm) (ns : List (Int × Bool)) (w : World) (hm : nums.length = m) (hm8 : m ≤ 1000) (hg : w.rangeAt g 0 (nrS.flat nums)) (hgl : g < w.heap.size) (hr : nmS.Rw w w.heap.size x.nA x.nn ns) (hn : x.nn ≤ 9223372036854775807) :
    Calls Tryz.prog 100 #[.agg #[.slice (some ⟨g, 0, none⟩) m m, .int .i64 (nodes : Int), .bool wo, .bool bl], smV x] w fun e w' => e = .returned (.bool (fitsL nums ns)) ∧ Below w.heap.size w w' := by
  obtain ⟨xw, xA, xn, xc, xb, xB, xq, xk⟩ := x
  simp only at hn hr ⊢
  have HG := hid (And.intro hg hgl)
  have HR := hid hr
  have HM := hid hm
  have HLN := hid hr.1
  clear hg hgl hr
  by_cases hl : xn = m
  · subst hl
    have hxm : xn ≤ 1000 := hm8
    clear hm
    have HF := hid (fitsL_iff nums ns)
    generalize fitsL nums ns = F at *
    go_enter Tryz.func100, Tryz.ntmps100
    go_wp2_with (first
      | (refine Sh.wp_box smS (x := ⟨xw, xA, xn, xc, xb, xB, xq, xk⟩) rfl (.tmp 1) rfl rfl ?_; intro w2 q2 b2 s2; have d1 : w2.cell? ⟨w1.heap.size, 1, none⟩ = some (.slice xA xn xc) := q2.cell (j := 1) rfl; have V2 := hid q2; have V1 := hid (V1.out.keep b2); have c0 : w2.cell? ⟨w.heap.size, 0, none⟩ = some (.slice (some ⟨g, 0, none⟩) xn xn) := V1.out.cell (j := 0) rfl; have B2 := hid (B1.out.trans (b2.mono B1.out.size)); have G2 := hid (And.intro V1.out.lt V2.out.lt); clear q2 b2 s2)
      | (refine Sv.wp_box (σ := feS) (x := ⟨some ⟨g, 0, none⟩, xn, xn, nodes, wo, bl⟩) rfl (.tmp 0) rfl rfl ?_; intro w1 q1 b1 s1; have V1 := hid q1; have B1 := hid b1; clear q1 b1 s1))
    go_loopw [17] (fun v17 wr => ∃ k : Nat, v17 = .int .i64 (k : Int) ∧ k ≤ xn ∧ (∀ j, j < k → (nmS.nth ns j).2 = (nrS.nth nums j).time) ∧ Below w2.heap.size w2 wr) (fun v17 _ => xn - (intOf v17).toNat)
    case atStart => exact ⟨0, rfl, Nat.zero_le _, fun j hj => by omega, Below.refl _ _⟩
    case round =>
      obtain ⟨k, rfl, hk, hall, hbel⟩ := hrel
      have BW := hid hbel
      have HA := hid hall
      have BR := hid (B2.out.trans (hbel.mono B2.out.size))
      clear d1 c0 hall
      by_cases hlt : k < xn
      · obtain ⟨b, o, rfl, hb, hc⟩ := (HR.out.below BR.out).at_ hlt
        have HT := hid (show (nmS.nth ns k).2 = (nrS.nth nums k).time → ∀ j, j < k + 1 → (nmS.nth ns j).2 = (nrS.nth nums j).time from fun h j hj => by
          rcases Nat.lt_succ_iff_lt_or_eq.1 hj with h2 | rfl
          · exact HA.out j h2
          · exact h)
        have HU := hid (show (nmS.nth ns k).2 ≠ (nrS.nth nums k).time → F = false from fun h => by
          cases F with
          | false => rfl
          | true => exact absurd ((HF.out.1 rfl).2 k (by rw [HM.out]; exact hlt)) h)
        have hgc : w.rangeAt g (k * 3) (nrS.enc (nrS.nth nums k)) := fun j v hj => by
          have hj3 : j < 3 := by have := (List.getElem?_eq_some_iff.1 hj).1; rwa [nrS.len] at this
          have := HG.out.1 (k * 3 + j) v (by rw [← hj]; exact Sh.flat_at nrS nums k j (by rw [HM.out]; exact hlt) hj3)
          rwa [Nat.zero_add] at this
        generalize nmS.nth ns k = z at *
        generalize nrS.nth nums k = y at *
        obtain ⟨z1, z2⟩ := z
        obtain ⟨yt, yl, yh⟩ := y
        have e0 : wr.cell? ⟨b, o + k * 2, none⟩ = some (.int .i64 z1) := hc 0 _ rfl
        have e1 : wr.cell? ⟨b, o + k * 2 + 1, none⟩ = some (.bool z2) := hc 1 _ rfl
        have HY := hid (show wr.cell? ⟨g, k * 3, none⟩ = some (.bool yt) from (BR.out.cell (p := ⟨g, k * 3, none⟩) HG.out.2).trans (hgc 0 _ rfl))
        have HGL := hid (Nat.lt_of_lt_of_le HG.out.2 BR.out.size)
        have V1r := hid (V1.out.below BW.out G2.out.1)
        clear hc hbel hgc hb
        go_upto_region 6 with (first
          | (refine Sh.wp_sv nmS (x := (z1, z2)) rfl (.tmp 6) (.tmp 21) rfl rfl (by rfl) q3 ?_; intro w4 q4 b4 o4 s4; have B4 := hid (B3.out.trans (b4.mono (Nat.le_refl _))); have d1 : w4.cell? ⟨wr.heap.size, 1, none⟩ = some (.bool z2) := q4.cell (j := 1) rfl; have c0 : w4.cell? ⟨w.heap.size, 0, none⟩ = some (.slice (some ⟨g, 0, none⟩) xn xn) := (V1r.out.keep B4.out).cell (j := 0) rfl; have y0 : w4.cell? ⟨g, k * 3, none⟩ = some (.bool yt) := (B4.out.cell (p := ⟨g, k * 3, none⟩) HGL.out).trans HY.out; clear q3 q4 b4 o4 s4 e0 e1)
          | (refine Sh.wp_al nmS rfl rfl ?_; intro w3 q3 b3 s3; have B3 := hid b3; clear b3 s3))
        by_cases hz : z2 = yt
        · subst hz
          have hne : (z2 != z2) = false := by simp
          go_quiet (fail)
          go_wp2
          go_roundw
          case rel => exact ⟨k + 1, by go_num, by omega, HT.out rfl, below_dN (BW.out.trans (B4.out.mono BW.out.size)) _⟩
          case measure => simp [intOf]; omega
        · have hne : (z2 == yt) = false := by simpa using hz
          have HV := hid (HU.out hz)
          go_quiet (fail)
          go_wp2
          go_ret
          exact ⟨ret_bool HV.out.symm, below_dN (BR.out.trans (B4.out.mono BR.out.size)) _⟩
      · obtain rfl : k = xn := by omega
        have HV := hid (HF.out.2 ⟨by rw [HLN.out, HM.out], fun j hj => HA.out j (by rw [← HM.out]; exact hj)⟩)
        clear hbel
        go_wp2
        go_ret
        exact ⟨ret_bool HV.out.symm, BR.out⟩
  · have HV : Hid (fitsL nums ns = false) := hid (by
      cases hq : fitsL nums ns with
      | false => rfl
      | true => exact absurd (by rw [← HLN.out, ((fitsL_iff nums ns).1 hq).1, HM.out]) hl)
    generalize fitsL nums ns = F at *
    have hne : ((xn : Int) != (m : Int)) = true := by simp; omega
    clear hm
    go_enter Tryz.func100, Tryz.ntmps100
    go_wp2_with (first
      | (refine Sh.wp_box smS (x := ⟨xw, xA, xn, xc, xb, xB, xq, xk⟩) rfl (.tmp 1) rfl rfl ?_; intro w2 q2 b2 s2; have d1 : w2.cell? ⟨w1.heap.size, 1, none⟩ = some (.slice xA xn xc) := q2.cell (j := 1) rfl; have c0 : w2.cell? ⟨w.heap.size, 0, none⟩ = some (.slice (some ⟨g, 0, none⟩) m m) := (V1.out.keep b2).cell (j := 0) rfl; have B2 := hid (B1.out.trans (b2.mono B1.out.size)); clear q2 b2 s2)
      | (refine Sv.wp_box (σ := feS) (x := ⟨some ⟨g, 0, none⟩, m, m, nodes, wo, bl⟩) rfl (.tmp 0) rfl rfl ?_; intro w1 q1 b1 s1; have V1 := hid q1; have B1 := hid b1; clear q1 b1 s1))
    go_ret
    exact ⟨ret_bool HV.out.symm, B2.out⟩
end Go.Proofs.YtpkoboohnbkpoaaGreatDoor
