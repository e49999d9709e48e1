/-
  Contracts of check.Check's closures: whether a number, or a statement, names a node that there is not.
-/
import Derived.Test.YtpkoboohnbkpoaaGreatDoorJZP
import Derived.Test.YtpkoboohnbkpoaaGreatDoorK6
import Derived.Lib.QuietBelow
import Derived.Test.YtpkoboohnbkpoaaGreatDoorJZB
namespace Go.Proofs.YtpkoboohnbkpoaaGreatDoor
open Go Go.RowKit Go.Maps

def bfn (pm : Nat) : Value := .func (.func 59) #[] #[.pointer (some ⟨pm, 0, none⟩)]
theorem byd_any (z : Int × Bool) (m : Int) (pm : Nat) (w : World) (hp : w.cell? ⟨pm, 0, none⟩ = some (.int .i64 m)) : Calls Tryz.prog 59 #[.agg #[.int .i64 z.1, .bool z.2], .pointer (some ⟨pm, 0, none⟩)] w fun e w' => e = .returned (.bool (decide (m ≤ z.1))) ∧ Below w.heap.size w w' := by
  obtain ⟨z1, z2⟩ := z
  have hl := World.block_lt_of_cell? w _ hp
  have hp1 : (w.alloc (.cells #[.int .i64 z1, .bool z2] 57)).cell? ⟨pm, 0, none⟩ = some (.int .i64 m) := (((Below.refl w.heap.size w).alloc (Nat.le_refl _) _).cell (p := ⟨pm, 0, none⟩) hl).trans hp
  go_enter Tryz.func59, Tryz.ntmps59
  go_wp2
  all_goals
    go_ret
    exact ⟨ret_bool (by first | (simp; done) | (rw [Bool.eq_iff_iff]; simp; done) | (rw [Bool.eq_iff_iff]; simp; omega)), (Below.refl _ _).alloc (Nat.le_refl _) _⟩
set_option maxRecDepth 100000 in
theorem bidx_any (A : Option Addr) (n c pm : Nat) (m : Int) (ns : List (Int × Bool)) (w : World) (hp : w.cell? ⟨pm, 0, none⟩ = some (.int .i64 m)) (hr : nmS.Rw w w.heap.size A n ns) (hn : n ≤ 9223372036854775807) :
    Calls Tryz.prog 106 #[.slice A n c, .func (.func 59) #[] #[.pointer (some ⟨pm, 0, none⟩)]] w fun e w' => ∃ r : Int, e = .returned (.int .i64 r) ∧ decide (0 ≤ r) = ns.any (fun z => decide (m ≤ z.1)) ∧ Below w.heap.size w w' := by
  have HR := hid hr
  have HLN := hid hr.1
  have HP := hid (And.intro hp (World.block_lt_of_cell? w _ hp))
  clear hr hp
  go_enter Tryz.func106, Tryz.ntmps106
  go_wp2
  go_loopw [8] (fun v8 wr => ∃ k : Nat, v8 = .int .i64 (k : Int) ∧ k ≤ n ∧ (ns.take k).any (fun z => decide (m ≤ z.1)) = false ∧ Below w.heap.size w wr) (fun v8 _ => n - (intOf v8).toNat)
  case atStart => exact ⟨0, rfl, Nat.zero_le _, rfl, Below.refl _ _⟩
  case round =>
    obtain ⟨k, rfl, hk, hany, hbel⟩ := hrel
    have BW := hid hbel
    have HA := hid hany
    by_cases hlt : k < n
    · obtain ⟨b, o, rfl, _, hc⟩ := (HR.out.below hbel).at_ hlt
      have hg : ns[k]? = some (nmS.nth ns k) := Sh.nth_get nmS (by rw [HLN.out]; exact hlt)
      have HT : Hid (ns.take (k + 1) = ns.take k ++ [nmS.nth ns k]) := hid (by rw [List.take_add_one, hg]; rfl)
      have HIN : Hid (nmS.nth ns k ∈ ns) := hid (List.mem_of_getElem? hg)
      generalize nmS.nth ns k = x at *
      obtain ⟨x1, x2⟩ := x
      have c0 : wr.cell? ⟨b, o + k * 2, none⟩ = some (.int .i64 x1) := hc 0 _ rfl
      have c1 : wr.cell? ⟨b, o + k * 2 + 1, none⟩ = some (.bool x2) := hc 1 _ rfl
      have HF := hid (byd_any (x1, x2) m pm wr ((hbel.cell (p := ⟨pm, 0, none⟩) HP.out.2).trans HP.out.1))
      clear hc hbel hany hg
      simp only at HF
      cases hf : decide (m ≤ x1) with
      | true =>
        rw [hf] at HF
        have HY := hid (show ns.any (fun z => decide (m ≤ z.1)) = true from List.any_eq_true.2 ⟨_, HIN.out, hf⟩)
        clear hf
        go_wp2_with (first
          | (go_at_call 59; refine HF.out.mono ?_; rintro e w2 ⟨rfl, b2⟩; have B2 := hid (BW.out.trans (b2.mono BW.out.size)); clear b2))
        go_ret
        exact ⟨k, rfl, by rw [HY.out]; simp, B2.out⟩
      | false =>
        rw [hf] at HF
        have HY := hid (show (ns.take (k + 1)).any (fun z => decide (m ≤ z.1)) = false by rw [HT.out, List.any_append, HA.out]; simp [hf])
        clear hf
        go_wp2_with (first
          | (go_at_call 59; refine HF.out.mono ?_; rintro e w2 ⟨rfl, b2⟩; have B2 := hid (BW.out.trans (b2.mono BW.out.size)); clear b2))
        exact ⟨⟨k + 1, by go_num, by omega, HY.out, B2.out⟩, by simp [intOf]; omega⟩
    · obtain rfl : k = n := by omega
      rw [List.take_of_length_le (by rw [HLN.out]; omega)] at hany
      have HY := hid hany
      clear hany hbel HA
      go_wp2
      go_ret
      exact ⟨-1, rfl, by rw [HY.out]; decide, BW.out⟩
theorem bcon_any (A : Option Addr) (n c pm : Nat) (m : Int) (ns : List (Int × Bool)) (w : World) (hp : w.cell? ⟨pm, 0, none⟩ = some (.int .i64 m)) (hr : nmS.Rw w w.heap.size A n ns) (hn : n ≤ 9223372036854775807) :
    Calls Tryz.prog 62 #[.slice A n c, .func (.func 59) #[] #[.pointer (some ⟨pm, 0, none⟩)]] w fun e w' => e = .returned (.bool (ns.any (fun z => decide (m ≤ z.1)))) ∧ Below w.heap.size w w' := by
  have HI := hid (bidx_any A n c pm m ns w hp hr hn)
  clear hr hp
  go_enter Tryz.func62, Tryz.ntmps62
  go_wp2_with (first
    | (go_at_call 106; refine HI.out.mono ?_; rintro e w1 ⟨r, rfl, hr, b1⟩; have HR := hid (And.intro hr b1); clear hr b1))
  go_ret
  exact ⟨ret_bool HR.out.1, HR.out.2⟩

theorem flat_take {P : Program} {α : Type} (σ : Sh P α) {xs : List α} {k j : Nat} {u : Value} (h : (σ.flat (xs.take k))[j]? = some u) : (σ.flat xs)[j]? = some u := by
  have e : σ.flat xs = σ.flat (xs.take k) ++ σ.flat (xs.drop k) := by rw [← Sh.flat_app, List.take_append_drop]
  rw [e, List.getElem?_append_left (List.getElem?_eq_some_iff.1 h).1]
  exact h
theorem Sh.Rw.take {P : Program} {α : Type} {σ : Sh P α} {w : World} {B n k : Nat} {A : Option Addr} {xs : List α} (h : σ.Rw w B A n xs) (hk : k ≤ n) : σ.Rw w B A k (xs.take k) := by
  refine ⟨by rw [List.length_take, h.1]; omega, fun hp => ?_⟩
  obtain ⟨b, o, e, hb, hc⟩ := h.2 (by omega)
  exact ⟨b, o, e, hb, fun j u hu => hc j u (flat_take σ hu)⟩
set_option maxHeartbeats 1000000 in
set_option maxRecDepth 100000 in
theorem chk2_any (x : Sm) (ns : List (Int × Bool)) (w : World) (B base pa pf pm : Nat) (m : Int) (ha : w.cell? ⟨pa, 0, none⟩ = some (.map (some B))) (hf : w.cell? ⟨pf, 0, none⟩ = some (bfn pm)) (hp : w.cell? ⟨pm, 0, none⟩ = some (.int .i64 m)) (hF : Fms w B base)
    (h1 : oneE ⟨x.word, ns, x.block⟩ = 0) (hr : nmS.Rw w w.heap.size x.nA x.nn ns) (hn : x.nn ≤ 9223372036854775807) (hcap : x.nn ≤ x.nc) :
    Calls Tryz.prog 61 #[smV x, .pointer (some ⟨pa, 0, none⟩), .pointer (some ⟨pf, 0, none⟩)] w fun e w' => e = .returned (.bool (St.beyond m ⟨x.word, ns, x.block⟩)) ∧ Below w.heap.size w w' := by
  obtain ⟨fm, hfm, hbk, hfit, _, _⟩ := one_parts h1
  simp only at hfm hbk
  obtain ⟨nums, nodes, wo, bk⟩ := fm
  obtain ⟨L, nL, gF, iF, hmp, hfn, _, hgl, hgr⟩ := hF.some hfm
  obtain ⟨hm4, hno, hno2⟩ := form_few hfm
  simp only at hm4 hno hno2 hfit
  have hlen : ns.length = nums.length := fits_len hfit
  have hnx : nodes ≤ x.nn := by rw [← hr.1, hlen]; exact hno
  have HV : Hid (St.beyond m ⟨x.word, ns, x.block⟩ = (ns.take nodes).any (fun z => decide (m ≤ z.1))) := hid (by unfold St.beyond St.named Fm.named; simp only; rw [hfm])
  generalize St.beyond m ⟨x.word, ns, x.block⟩ = R at *
  have HNM := hid (fun w' => named_any gF nums.length nodes wo bk x w' (by omega))
  have HCN := hid (fun w' (hb : Below w.heap.size w w') => bcon_any x.nA nodes x.nc pm m (ns.take nodes) w' ((hb.cell (World.block_lt_of_cell? w _ hp)).trans hp) (((hr.take hnx).below hb).more hb.size) (by omega))
  rw [← HV.out] at HCN
  have HLK := hid (fun w' (hb : Below w.heap.size w w') => show (Instr.lookup 78 (.map (some B)) (.string (strB x.word)) false).run Tryz.prog w' = .ok (feS.val ⟨some ⟨gF, 0, none⟩, nums.length, nums.length, nodes, wo, bk⟩) w' from by
    have hfr := find_run L x.word w'
    rw [hfn] at hfr
    simp [Instr.lookup, run_underlying Tryz.underlying78, MapKept.run_getObj_map (hmp.keep hb), chk_str, hfr, Result.andThen]
    rfl)
  have HAF := hid (And.intro ha hf)
  obtain ⟨xw, xA, xn, xc, xb, xB, xm, xk⟩ := x
  simp only at hn hcap HNM HCN HLK ⊢
  have hla := World.block_lt_of_cell? w _ ha
  have hlf := World.block_lt_of_cell? w _ hf
  clear hr hgr hmp hfn ha hf hp hF h1 hfm hbk hfit
  go_enter Tryz.func61, Tryz.ntmps61
  go_upto_region 1 with (first
    | (refine Sh.wp_box smS (x := ⟨xw, xA, xn, xc, xb, xB, xm, xk⟩) rfl (.tmp 0) rfl rfl ?_; intro w1 q1 b1 s1; have V1 := hid q1; have B1 := hid b1; clear q1 b1 s1))
  have V1r := V1.out.1
  have a0r : ∀ d os, (Sort.grow (redrawn w1 d) os).cell? ⟨pa, 0, none⟩ = some (.map (some B)) := fun d os => cell_regrown ((B1.out.cell (p := ⟨pa, 0, none⟩) hla).trans HAF.out.1) d os
  have f0r : ∀ d os, (Sort.grow (redrawn w1 d) os).cell? ⟨pf, 0, none⟩ = some (.func (.func 59) #[] #[.pointer (some ⟨pm, 0, none⟩)]) := fun d os => cell_regrown ((B1.out.cell (p := ⟨pf, 0, none⟩) hlf).trans HAF.out.2) d os
  have c0r : ∀ d os, (Sort.grow (redrawn w1 d) os).cell? ⟨w.heap.size, 0, none⟩ = some (.string (strB xw)) := fun d os => cell_regrown (V1.out.cell (j := 0) rfl) d os
  have hlk := fun (d : Nat) (os : Array Obj) => HLK.out (Sort.grow (redrawn w1 d) os) (B1.out.trans ((below_regrown w1 d os).mono B1.out.size))
  have cN := fun (d : Nat) (os : Array Obj) => Calls.regrown_of (d := d) (os := os) (HNM.out (Sort.grow (redrawn w1 d) os))
  have cC := fun (d : Nat) (os : Array Obj) => Calls.regrown_of (d := d) (os := os) (HCN.out (Sort.grow (redrawn w1 d) os) (B1.out.trans ((below_regrown w1 d os).mono B1.out.size)))
  refine wp_region_quiet_below (by kernel_rfl) (by kernel_rfl) ?_
  repeat (first | (refine Sh.wpq_ld smS (x := ⟨xw, xA, xn, xc, xb, xB, xm, xk⟩) rfl (.tmp 3) rfl rfl V1r ?_) | quiet_step (first | exact cN _ _ | exact cC _ _))
  refine wpQuiet_nil ?_
  intro _ hw'
  obtain ⟨⟨dq, osq⟩, hw''⟩ := hw'
  subst hw''
  go_wp2
  go_ret
  exact ⟨rfl, B1.out.trans ((below_regrown w1 dq osq).mono B1.out.size)⟩
end Go.Proofs.YtpkoboohnbkpoaaGreatDoor
