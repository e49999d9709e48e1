/-
  Contract of check's form.holds: whether the numbers of a statement that fits may be.
-/
import Derived.Test.YtpkoboohnbkpoaaGreatDoorJZN
import Derived.Lib.QuietBelow
namespace Go.Proofs.YtpkoboohnbkpoaaGreatDoor
open Go Go.RowKit Go.Maps

/-- A struct loaded in a region that draws and whose calls make memory. -/
theorem Sh.wpq_ld {P : Program} {α : Type} (σ : Sh P α) {ops : Array Oper} {w : World} {Q : Act → Prop} {o : Oper} {rest : List Oper} {a : Act} {x : α} (hw : Region.wanted o (yielded ops a.tmps) = true) (e : Operand) (ho : o.op = .load σ.T e) {b off : Nat}
    (hx : a.eval e = .pointer (some ⟨b, off, none⟩)) (hr : w.rangeAt b off (σ.enc x)) (h : wpQuiet P ops (fun w' => ∃ p : Regrown, w' = Sort.grow (redrawn w p.d) p.os) Q rest (a.put o.dst (σ.val x))) : wpQuiet P ops (fun w' => ∃ p : Regrown, w' = Sort.grow (redrawn w p.d) p.os) Q (o :: rest) a := by
  unfold wpQuiet
  rw [if_pos hw]
  refine ⟨σ.val x, fun w' hw' => ?_, h⟩
  unfold Oper.quietAt
  have hr2 : w'.rangeAt b off (σ.enc x) := by obtain ⟨p, rfl⟩ := hw'; exact fun j v hv => cell_regrown (hr j v hv) p.d p.os
  have : (execOp a.eval o).run P w' = .ok (.value (σ.val x)) w' := by
    unfold execOp
    have := run_loadVar_mid w' b off σ.T (σ.enc x) _ hr2 σ.undT σ.isRow (by rw [σ.size, σ.len])
    simp only [ho, hx, Instr.loadAt, Instr.sureAddr, Sem.run_bind, Sem.run_pure, Result.andThen_ok, this]
    rfl
  rw [this]
  exact ⟨rfl, rfl⟩
theorem twoB_lt (ns : List (Int × Bool)) {k : Nat} (h : k < 2) : twoB (ns.take k) = true := by
  match k, ns with
  | 0, _ => rfl
  | 1, [] => rfl
  | 1, _ :: _ => rfl
theorem twoB_ge {ns : List (Int × Bool)} {k : Nat} (h : 2 ≤ k) (hl : 2 ≤ ns.length) : twoB (ns.take k) = !((nmS.nth ns 0).1 == (nmS.nth ns 1).1) := by
  match k, ns, hl with
  | k + 2, a :: b :: ns, _ => rfl
  | 0, _, _ => omega
  | 1, _, _ => omega

set_option maxHeartbeats 1000000 in
set_option maxRecDepth 100000 in
theorem fholds_any (nums : List Nr) (g m nodes : Nat) (wo bl : Bool) (x : Sm) (ns : List (Int × Bool)) (w : World) (hm : nums.length = m) (hm8 : m ≤ 1000) (hg : w.rangeAt g 0 (nrS.flat nums)) (hgl : g < w.heap.size) (hr : nmS.Rw w w.heap.size x.nA x.nn ns) (hxm : x.nn = m) (hno : nodes ≤ m) (hcap : x.nn ≤ x.nc) :
    Calls Tryz.prog 101 #[.agg #[.slice (some ⟨g, 0, none⟩) m m, .int .i64 (nodes : Int), .bool wo, .bool bl], smV x] w fun e w' => e = .returned (.bool (Fm.holds ⟨nums, nodes, wo, bl⟩ ns)) ∧ Below w.heap.size w w' := by
  obtain ⟨xw, xA, xn, xc, xb, xB, xq, xk⟩ := x
  simp only at hr hxm hcap ⊢
  subst hxm
  have HG := hid (And.intro hg hgl)
  have HR := hid hr
  have HM := hid hm
  have HLN := hid hr.1
  have HN := hid (fun w' => named_any g xn nodes wo bl ⟨xw, xA, xn, xc, xb, xB, xq, xk⟩ w' (Nat.le_trans hno hcap))
  have HF : Hid (Fm.holds ⟨nums, nodes, wo, bl⟩ ns = (mayL nums ns && twoB (ns.take nodes))) := hid rfl
  have HQ := hid (mayL_iff nums ns (by rw [hm, hr.1]))
  have HT1 := hid (fun h => twoB_lt ns (k := nodes) h)
  have HT2 := hid (fun h => twoB_ge (ns := ns) (k := nodes) h (by rw [hr.1]; omega))
  clear hg hgl hr hm
  generalize mayL nums ns = F at *
  generalize twoB (ns.take nodes) = T at *
  generalize Fm.holds ⟨nums, nodes, wo, bl⟩ ns = R at *
  go_enter Tryz.func101, Tryz.ntmps101
  go_wp2_with (first
    | (refine Sh.wp_box smS (x := ⟨xw, xA, xn, xc, xb, xB, xq, xk⟩) rfl (.tmp 1) rfl rfl ?_; intro w2 q2 b2 s2; have d1 : w2.cell? ⟨w1.heap.size, 1, none⟩ = some (.slice xA xn xc) := q2.cell (j := 1) rfl; have V2 := hid q2; have V1 := hid (V1.out.keep b2); have B2 := hid (B1.out.trans (b2.mono B1.out.size)); have G2 := hid (And.intro V1.out.lt V2.out.lt); clear q2 b2 s2)
    | (refine Sv.wp_box (σ := feS) (x := ⟨some ⟨g, 0, none⟩, xn, xn, nodes, wo, bl⟩) rfl (.tmp 0) rfl rfl ?_; intro w1 q1 b1 s1; have V1 := hid q1; have B1 := hid b1; clear q1 b1 s1))
  go_loopw [11] (fun v11 wr => ∃ k : Nat, v11 = .int .i64 (k : Int) ∧ k ≤ xn ∧ (∀ j, j < k → (nrS.nth nums j).may (nmS.nth ns j).1 = true) ∧ Below w2.heap.size w2 wr) (fun v11 _ => xn - (intOf v11).toNat)
  case atStart => exact ⟨0, rfl, Nat.zero_le _, fun j hj => by omega, Below.refl _ _⟩
  case round =>
    obtain ⟨k, rfl, hk, hall, hbel⟩ := hrel
    have BW := hid hbel
    have HA := hid hall
    have BR := hid (B2.out.trans (hbel.mono B2.out.size))
    have V1r := hid (V1.out.below BW.out G2.out.1)
    have V2r := hid (V2.out.below BW.out G2.out.2)
    clear d1 hall
    by_cases hlt : k < xn
    · obtain ⟨b, o, rfl, hb, hcc⟩ := (HR.out.below BR.out).at_ hlt
      have HT := hid (show (nrS.nth nums k).may (nmS.nth ns k).1 = true → ∀ j, j < k + 1 → (nrS.nth nums j).may (nmS.nth ns j).1 = true from fun h j hj => by
        rcases Nat.lt_succ_iff_lt_or_eq.1 hj with h2 | rfl
        · exact HA.out j h2
        · exact h)
      have HU := hid (show (nrS.nth nums k).may (nmS.nth ns k).1 = false → R = false from fun h => by
        rw [HF.out]
        cases F with
        | false => rfl
        | true =>
          have := HQ.out.1 rfl k (by rw [HM.out]; exact hlt)
          rw [h] at this
          cases this)
      have hgc : w.rangeAt g (k * 3) (nrS.enc (nrS.nth nums k)) := fun j v hj => by
        have hj3 : j < 3 := by have := (List.getElem?_eq_some_iff.1 hj).1; rwa [nrS.len] at this
        have := HG.out.1 (k * 3 + j) v (by rw [← hj]; exact Sh.flat_at nrS nums k j (by rw [HM.out]; exact hlt) hj3)
        rwa [Nat.zero_add] at this
      generalize nmS.nth ns k = z at *
      generalize nrS.nth nums k = y at *
      obtain ⟨z1, z2⟩ := z
      obtain ⟨yt, yl, yh⟩ := y
      have e0 : wr.cell? ⟨b, o + k * 2, none⟩ = some (.int .i64 z1) := hcc 0 _ rfl
      have e1 : wr.cell? ⟨b, o + k * 2 + 1, none⟩ = some (.bool z2) := hcc 1 _ rfl
      have HY := hid (show wr.rangeAt g (k * 3) (nrS.enc ⟨yt, yl, yh⟩) from range_keep hgc HG.out.2 BR.out)
      have HGL := hid (Nat.lt_of_lt_of_le HG.out.2 BR.out.size)
      have HMA := hid (fun w' => nrmay_any yt yl yh z1 w')
      clear hcc hbel hgc hb
      simp only at HT HU
      generalize Nr.may ⟨yt, yl, yh⟩ z1 = M at *
      go_upto_region 4 with (first
        | (refine Sh.wp_sv nmS (x := (z1, z2)) rfl (.tmp 6) (.tmp 15) rfl rfl (by rfl) q3 ?_; intro w4 q4 b4 o4 s4; have B4 := hid (B3.out.trans (b4.mono (Nat.le_refl _))); have d0 : w4.cell? ⟨wr.heap.size, 0, none⟩ = some (.int .i64 z1) := q4.cell (j := 0) rfl; have c0 : w4.cell? ⟨w.heap.size, 0, none⟩ = some (.slice (some ⟨g, 0, none⟩) xn xn) := (V1r.out.keep B4.out).cell (j := 0) rfl; have y0 : w4.rangeAt g (k * 3) (nrS.enc ⟨yt, yl, yh⟩) := range_keep HY.out HGL.out B4.out; clear q3 q4 b4 o4 s4 e0 e1)
        | (refine Sh.wp_al nmS rfl rfl ?_; intro w3 q3 b3 s3; have B3 := hid b3; clear b3 s3))
      have c0r : ∀ d os, (Sort.grow (redrawn w4 d) os).cell? ⟨w.heap.size, 0, none⟩ = some (.slice (some ⟨g, 0, none⟩) xn xn) := fun d os => cell_regrown c0 d os
      have d0r : ∀ d os, (Sort.grow (redrawn w4 d) os).cell? ⟨wr.heap.size, 0, none⟩ = some (.int .i64 z1) := fun d os => cell_regrown d0 d os
      have cF := fun (d : Nat) (os : Array Obj) => Calls.regrown_of (d := d) (os := os) (HMA.out (Sort.grow (redrawn w4 d) os))
      refine wp_region_quiet_below (by kernel_rfl) (by kernel_rfl) ?_
      repeat (first | (refine Sh.wpq_ld nrS (x := ⟨yt, yl, yh⟩) rfl (.tmp 19) rfl rfl y0 ?_) | quiet_step (exact cF _ _))
      refine wpQuiet_nil ?_
      intro _ hw'
      obtain ⟨⟨dq, osq⟩, hw''⟩ := hw'
      subst hw''
      have BQ := hid (show Below w2.heap.size w2 (Sort.grow (redrawn w4 dq) osq) from BW.out.trans ((B4.out.trans ((below_regrown w4 dq osq).mono B4.out.size)).mono BW.out.size))
      clear c0r d0r cF c0 d0 y0
      generalize Sort.grow (redrawn w4 dq) osq = w5 at *
      cases M with
      | true =>
        go_wp2
        go_roundw
        case rel => exact ⟨k + 1, by go_num, by omega, HT.out rfl, BQ.out⟩
        case measure => simp [intOf]; omega
      | false =>
        have HV := hid (HU.out rfl)
        go_wp2
        go_ret
        exact ⟨ret_bool HV.out.symm, B2.out.trans (BQ.out.mono B2.out.size)⟩
    · obtain rfl : k = xn := by omega
      have HV := hid (HQ.out.2 fun j hj => HA.out j (by rw [← HM.out]; exact hj))
      have HRT := hid (show R = T by rw [HF.out, HV.out]; rfl)
      clear HV HA hbel
      by_cases h2 : nodes < 2
      · have HTT := hid (HT1.out h2)
        go_upto_region 8 with (first
          | (go_at_call 63; refine (HN.out _).mono ?_; rintro e w6 ⟨rfl, b6⟩; have B6 := hid (BR.out.trans (b6.mono BR.out.size)); clear b6)
          | (refine Sv.wp_ld (σ := feS) (x := ⟨some ⟨g, 0, none⟩, k, k, nodes, wo, bl⟩) rfl (.tmp 2) rfl rfl V1r.out.1 ?_)
          | (refine Sh.wp_ld smS (x := ⟨xw, xA, k, xc, xb, xB, xq, xk⟩) rfl (.tmp 3) rfl rfl V2r.out.1 ?_))
        have hd : decide ((nodes : Int) < 2) = true := decide_eq_true (by omega)
        go_quiet (fail)
        go_wp2
        go_ret
        exact ⟨ret_bool (by rw [HRT.out, HTT.out]), below_dN B6.out _⟩
      · obtain ⟨b, o, rfl, hb, hc0⟩ := HR.out.at_ (k := 0) (by omega)
        obtain ⟨b', o', he, _, hc1⟩ := HR.out.at_ (k := 1) (by omega)
        injection he with he; injection he with he1 he2
        subst he1 he2
        have HTT := hid (HT2.out (by omega))
        generalize nmS.nth ns 0 = z at *
        generalize nmS.nth ns 1 = y at *
        obtain ⟨z1, z2⟩ := z
        obtain ⟨y1, y2⟩ := y
        have E0 := hid (show w.cell? ⟨b, o, none⟩ = some (.int .i64 z1) from hc0 0 _ rfl)
        have E1 := hid (show w.cell? ⟨b, o + 2, none⟩ = some (.int .i64 y1) from hc1 0 _ rfl)
        have HBL := hid hb
        clear hc0 hc1 hb
        go_upto_region 8 with (first
          | (go_at_call 63; refine (HN.out _).mono ?_; rintro e w6 ⟨rfl, b6⟩; have B6 := hid (BR.out.trans (b6.mono BR.out.size)); have e0 : w6.cell? ⟨b, o, none⟩ = some (.int .i64 z1) := (B6.out.cell (p := ⟨b, o, none⟩) HBL.out).trans E0.out; have e1 : w6.cell? ⟨b, o + 2, none⟩ = some (.int .i64 y1) := (B6.out.cell (p := ⟨b, o + 2, none⟩) HBL.out).trans E1.out; clear b6)
          | (refine Sv.wp_ld (σ := feS) (x := ⟨some ⟨g, 0, none⟩, k, k, nodes, wo, bl⟩) rfl (.tmp 2) rfl rfl V1r.out.1 ?_)
          | (refine Sh.wp_ld smS (x := ⟨xw, some ⟨b, o, none⟩, k, xc, xb, xB, xq, xk⟩) rfl (.tmp 3) rfl rfl V2r.out.1 ?_))
        have hd : decide ((nodes : Int) < 2) = false := decide_eq_false (by omega)
        go_quiet (fail)
        go_wp2
        go_ret
        exact ⟨ret_bool (by rw [HRT.out, HTT.out]; rfl), below_dN B6.out _⟩
end Go.Proofs.YtpkoboohnbkpoaaGreatDoor
