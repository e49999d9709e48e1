/-
  The walk of GuardOpens: where it is told when it opens.
-/
import Derived.Test.YtpncbfhbiifncaaOA
import Derived.Test.YtpncbfhbiifncaaCB
namespace Go.Proofs.Ytpncbfhbiifncaa
open Go Go.RowKit
/-- A slice of the call's own that is only read. -/
def VarS (w : World) (b : Nat) (vs : List Value) : Prop := w.rangeAt b 0 vs ∧ 0 < vs.length
section
variable {w w' : World} {b : Nat} {vs : List Value}
theorem VarS.lt (h : VarS w b vs) : b < w.heap.size := World.block_lt_of_cell? w _ (h.1 0 _ (List.getElem?_eq_getElem h.2))
theorem VarS.below (h : VarS w b vs) {B : Nat} (hk : Below B w w') (hb : b < B) : VarS w' b vs := ⟨range_keep h.1 hb hk, h.2⟩
theorem VarS.keep (h : VarS w b vs) (hk : Below w.heap.size w w') : VarS w' b vs := h.below hk h.lt
theorem VarS.other (h : VarS w b vs) {g : Nat} (ho : Oth g w w') (hb : b ≠ g) : VarS w' b vs := ⟨range_other h.1 hb ho, h.2⟩
theorem vars_new (w : World) (t : TypeId) (vs : List Value) (h : 0 < vs.length) : VarS (w.alloc (.cells vs.toArray t)) w.heap.size vs := ⟨fun j u hu => by
  rw [Nat.zero_add, cell_of_row (w.alloc (.cells vs.toArray t)) w.heap.size j vs.toArray t (0, 0) (heap_alloc_new w _)]
  simpa using hu, h⟩
end
def OpRel (g : Gd) (m : Md) (vs : List Value) (gm bs : Nat) (w : World) (i : Value) (wr : World) : Prop :=
  ∃ j : Nat, i = .int .i64 (j : Int) ∧ j ≤ vs.length ∧ VarG wr w.heap.size g ∧ VarM wr gm m ∧ VarS wr bs vs ∧ Below w.heap.size w wr
set_option maxRecDepth 100000 in
set_option maxHeartbeats 8000000 in
theorem opens_walk (o k : Bool) (s a n ms l f d p q q2 at_ x y W LL N E : Int) (I : Bool) (w : World) (H : ∀ w : World, Calls Try.prog 8 #[gv ⟨true, k, s, a⟩, mv ⟨n, ms, l, f, d⟩, .int .i64 p, .int .i64 q] w fun r w' => r = .returned (.tuple #[.int .i64 x, .int .i64 y, .int .i64 0]) ∧ Below w.heap.size w w')
    (x1 : 1 ≤ x) (xy : y = x + 2 * W) (y1 : y + 1 ≤ 1152921504606846976) (W0 : 1 ≤ W) (W1 : W ≤ 1048576000000000) (hLL : l * p = LL) (LL0 : 1 ≤ LL) (LL1 : LL ≤ 1048576000000000) (hN : s < N)
    (HPS : ∀ (t : Int) (w : World), x ≤ t → t ≤ y → Calls Try.prog 10 #[gv ⟨true, k, s, a⟩, mv ⟨n, ms, l, f, d⟩, .int .i64 p, .int .i64 q, .agg #[.int .i64 0, .int .i64 0, .int .u64 0, .int .u16 0], .int .i64 t] w fun e w' => e = .returned (.tuple #[gv ⟨true, true, N, t - LL⟩, .bool true, .int .i64 0]) ∧ Below w.heap.size w w')
    (HQS : ∀ t : Int, x ≤ t → t ≤ y → ∃ H2 : Gd, ((q2 != q) = false ∨ ((q2 != q) = true ∧ I = false ∧ ((E = 0 ∧ H2 = ⟨true, k, s, a⟩) ∨ E = 1))) ∧ ∀ w : World, Calls Try.prog 10 #[gv ⟨true, k, s, a⟩, mv ⟨n, ms, l, f, d⟩, .int .i64 p, .int .i64 q2, .agg #[.int .i64 0, .int .i64 0, .int .u64 0, .int .u16 0], .int .i64 t] w fun e w' => e = .returned (.tuple #[gv H2, .bool I, .int .i64 E]) ∧ Below w.heap.size w w')
    (HZS : ∀ (t : Int) (w : World), (t = x - 1 ∨ t = y + 1) → Calls Try.prog 10 #[gv ⟨true, k, s, a⟩, mv ⟨n, ms, l, f, d⟩, .int .i64 p, .int .i64 q, .agg #[.int .i64 0, .int .i64 0, .int .u64 0, .int .u16 0], .int .i64 t] w fun e w' => e = .returned (.tuple #[gv ⟨true, k, s, a⟩, .bool false, .int .i64 0]) ∧ Below w.heap.size w w') :
    Calls Try.prog 3 #[gv ⟨o, k, s, a⟩, mv ⟨n, ms, l, f, d⟩, .int .i64 p, .int .i64 q, .int .i64 q2, .int .i64 at_] w fun e w' => e = .returned (.bool true) ∧ Below w.heap.size w w' := by
  have HO := hid H
  have HX := hid HPS
  have HY := hid HQS
  have HZ := hid HZS
  have HN := hid hN
  have HM := hid (timeB_yes (n := y + 1) (by omega) y1)
  have i1 : decide (x < 1) = false := by simp; omega
  have i2 : decide (y < x) = false := by simp; omega
  obtain ⟨V, hV⟩ : ∃ V, y - x + 1 = V := ⟨_, rfl⟩
  obtain ⟨Z1, hZ1⟩ : ∃ Z1, at_.tmod V = Z1 := ⟨_, rfl⟩
  obtain ⟨Y3, hY3⟩ : ∃ Y3, Z1 + y - x + 1 = Y3 := ⟨_, rfl⟩
  obtain ⟨Z3, hZ3⟩ : ∃ Z3, Y3.tmod V = Z3 := ⟨_, rfl⟩
  obtain ⟨AT, hAT⟩ : ∃ AT, x + Z3 = AT := ⟨_, rfl⟩
  have k1 := tmod_in at_ V (by omega)
  rw [hZ1] at k1
  have k2 := tmod_in Y3 V (by omega)
  rw [hZ3] at k2
  have k3 := k2.2.2 (by omega)
  have HAT := hid (show x ≤ AT ∧ AT ≤ y by omega)
  have hVne : ¬ V = 0 := by omega
  have hVne' : (V == 0) = false := by simp; omega
  have HXY := hid xy
  have y0 : -1152921504606846976 ≤ y := by omega
  have x0 : x ≤ 1152921504606846976 := by omega
  clear H HPS HQS HZS hN xy
  go_enter Try.func3, Try.ntmps3
  go_wp2_with (first
    | (go_at_call 9; (refine (rmay_1 _ _ (y + 1) true HM.out _ (by simp)).mono ?_); rintro e w6 ⟨rfl, e6⟩; have b6 : Below w5.heap.size w5 w6 := e6 ▸ ((Below.refl _ _).alloc (Nat.le_refl _) _); have vg6 := vg5.keep b6; have vm6 := vm5.keep b6; have B6 : Hid (Below w.heap.size w w6) := hid (B5.out.trans (b6.mono B5.out.size)); clear e6; clear b6 vg5 vm5)
    | (go_at_call 8; (with_reducible refine (HO.out w4).mono ?_); rintro e w5 ⟨rfl, b5⟩; have vg5 := vg4.keep b5; have vm5 := vm4.keep b5; have B5 : Hid (Below w.heap.size w w5) := hid (B4.out.trans (b5.mono B4.out.size)); clear b5 vg4 vm4)
    | (refine wpList_ldg2 (.tmp 6) rfl rfl vg4 rfl ?_)
    | (refine wpList_ldm2 (.tmp 7) rfl rfl vm4 rfl ?_)
    | (refine wpList_son rfl (.tmp 33) _ rfl rfl rfl vg3 ?_; intro w4 vg4 b4 o4 _; replace vg4 : VarG w4 w.heap.size ⟨true, k, s, a⟩ := vg4; have vm4 := vm3.other o4 Ngm.out.symm; have B4 : Hid (Below w.heap.size w w4) := hid (B3.out.trans (b4.mono (Nat.le_refl _))); clear b4 o4 vm3 vg3)
    | (go_at_call 7; (with_reducible refine (live_any w2).mono ?_); rintro e w3 ⟨rfl, b3⟩; have vg3 := vg2.keep b3; have vm3 := vm2.keep b3; have B3 : Hid (Below w.heap.size w w3) := hid (B2.out.trans (b3.mono B2.out.size)); clear b3 vg2 vm2)
    | (refine wpList_boxm (x := ⟨n, ms, l, f, d⟩) rfl (.tmp 1) rfl rfl ?_; intro w2 vm2 b2 s2; have vg2 := vg1.keep b2; have B2 : Hid (Below w.heap.size w w2) := hid (B1.out.trans (b2.mono B1.out.size)); have Ngm : Hid (w.heap.size ≠ w1.heap.size) := hid (by have := vg1.lt; omega); clear b2 s2 vg1)
    | (refine wpList_boxg (x := ⟨o, k, s, a⟩) rfl (.tmp 0) rfl rfl ?_; intro w1 vg1 b1 s1; have B1 : Hid (Below w.heap.size w w1) := hid b1; clear b1 s1))
  have bA : Below w6.heap.size w6 (w6.alloc (Obj.cells #[.int .i64 x, .int .i64 AT, .int .i64 y] 2)) := (Below.refl _ _).alloc (Nat.le_refl _) _
  have V1 := hid (show OpRel ⟨true, k, s, a⟩ ⟨n, ms, l, f, d⟩ [.int .i64 x, .int .i64 AT, .int .i64 y] w1.heap.size w6.heap.size w (.int .i64 0) (w6.alloc (Obj.cells #[.int .i64 x, .int .i64 AT, .int .i64 y] 2)) from ⟨0, rfl, Nat.zero_le _, vg6.keep bA, vm6.keep bA, vars_new w6 2 [.int .i64 x, .int .i64 AT, .int .i64 y] (by simp), B6.out.trans (bA.mono B6.out.size)⟩)
  have HNE : Hid (w.heap.size ≠ w1.heap.size) := hid Ngm.out
  have z1 : ∀ w, (binOp .neq 24 (gv ⟨true, k, s, a⟩) (gv ⟨true, k, s, a⟩)).run Try.prog w = .ok (.bool false) w := ne_same _
  have z2 : ∀ op x y w, (eqGuard op 24 x y (gv ⟨true, k, s, a⟩) (gv ⟨true, k, s, a⟩)).run Try.prog w = .ok () w := fun op x y w => guGd op x y _ _ w
  generalize w1.heap.size = gm at *
  generalize w6.heap.size = bs at *
  clear bA vg6 vm6 HO HM B6 i1 i2 hV hZ1 hY3 hZ3 hAT k1 k2 k3 hVne hVne'
  go_loopw [85] (OpRel ⟨true, k, s, a⟩ ⟨n, ms, l, f, d⟩ [.int .i64 x, .int .i64 AT, .int .i64 y] gm bs w) (fun i _ => 3 - (intOf i).toNat)
  case atStart => exact V1.out
  case round =>
    obtain ⟨j, rfl, hj, vg1, vm1, vs1, bel⟩ := hrel
    have hj3 : j ≤ 3 := hj
    have B1 : Hid (Below w.heap.size w wr) := hid bel
    clear V1 bel hj
    by_cases hlt : j < 3
    · obtain ⟨t, ht, t0, t1⟩ : ∃ t : Int, [Value.int .i64 x, Value.int .i64 AT, Value.int .i64 y][j]? = some (.int .i64 t) ∧ x ≤ t ∧ t ≤ y := by
        have hA := HAT.out
        have hE := HXY.out
        match j, hlt with
        | 0, _ => exact ⟨x, rfl, by omega, by omega⟩
        | 1, _ => exact ⟨AT, rfl, hA.1, hA.2⟩
        | 2, _ => exact ⟨y, rfl, by omega, by omega⟩
      have ct : wr.cell? ⟨bs, j, none⟩ = some (.int .i64 t) := by have := vs1.1 j _ ht; rwa [Nat.zero_add] at this
      have HP := HX.out t
      obtain ⟨H2, hq, hQ⟩ := HY.out t t0 t1
      have HQ := hid hQ
      obtain ⟨T2, hT2⟩ : ∃ T2, t - LL = T2 := ⟨_, rfl⟩
      rw [hT2] at HP
      replace HP := hid (fun w => HP w t0 t1)
      have e3 : IntKind.i64.wrap (l * p) = LL := wrap_in hLL (by omega) (by omega)
      have tb0 : 1 ≤ t := by omega
      have tb1 : t ≤ 1152921504606846976 := by omega
      have ec : IntKind.i64.wrap (t - LL) = T2 := by rw [hT2, IntKind.wrap_i64]; omega
      have hns : decide (N ≤ s) = false := by have := HN.out; simp; omega
      have hlt' : (j : Int) < 3 := by omega
      have cg2 : wr.cell? ⟨w.heap.size, 2, none⟩ = some (.int .u64 s) := vg1.c2
      have cm2 : wr.cell? ⟨gm, 2, none⟩ = some (.int .i64 l) := vm1.c2
      clear hQ hT2 t0 t1 ht
      rcases hq with c1 | ⟨c1, rfl, ⟨rfl, rfl⟩ | rfl⟩
      · go_wp2_with (first
          | (refine wpList_ldg2 (.tmp 22) rfl rfl vh7 rfl ?_)
          | (refine wpList_ldg2 (.tmp 6) rfl rfl vg7 rfl ?_)
          | (refine wpList_svg (x := H2) rfl (.tmp 22) (.tmp 132) rfl rfl rfl vh6 ?_; intro x7 vh7 b7 o7 _; have vg7 := vg6.other o7 Ngh.out; have vm7 := vm6.other o7 Nmh.out; have vs7 := vs6.other o7 Nsh.out; have B7 : Hid (Below w.heap.size w x7) := hid (B6.out.trans (b7.mono (B5.out.size))); clear b7 o7 vg6 vm6 vs6 vh6)
          | (refine wpList_alg rfl rfl ?_; intro x6 vh6 b6 s6; have vg6 := vg5.keep b6; have vm6 := vm5.keep b6; have vs6 := vs5.keep b6; have B6 : Hid (Below w.heap.size w x6) := hid (B5.out.trans (b6.mono B5.out.size)); have Ngh : Hid (w.heap.size ≠ x5.heap.size) := hid (by have := vg5.lt; omega); have Nmh : Hid (gm ≠ x5.heap.size) := hid (by have := vm5.lt; omega); have Nsh : Hid (bs ≠ x5.heap.size) := hid (by have := vs5.lt; omega); clear b6 s6 vg5 vm5 vs5)
          | (go_at_call 10; (with_reducible refine (HQ.out x4).mono ?_); rintro e x5 ⟨rfl, b5⟩; have vg5 := vg4.keep b5; have vm5 := vm4.keep b5; have vs5 := vs4.keep b5; have B5 : Hid (Below w.heap.size w x5) := hid (B4.out.trans (b5.mono B4.out.size)); clear b5 vg4 vm4 vs4)
          | (refine wpList_ldm2 (.tmp 7) rfl rfl vm4 rfl ?_)
          | (refine wpList_ldg2 (.tmp 6) rfl rfl vg4 rfl ?_)
          | (refine wpList_svg (x := ⟨true, true, N, T2⟩) rfl (.tmp 19) (.tmp 97) rfl rfl rfl vh3 ?_; intro x4 vh4 b4 o4 _; have vg4 := vg3.other o4 Ngh.out; have vm4 := vm3.other o4 Nmh.out; have vs4 := vs3.other o4 Nsh.out; have B4 : Hid (Below w.heap.size w x4) := hid (B3.out.trans (b4.mono (B2.out.size))); have cg2_4 : x4.cell? ⟨w.heap.size, 2, none⟩ = some (.int .u64 s) := vg4.c2; have cm2_4 : x4.cell? ⟨gm, 2, none⟩ = some (.int .i64 l) := vm4.c2; have ch2_4 : x4.cell? ⟨x2.heap.size, 2, none⟩ = some (.int .u64 N) := vh4.c2; have ch3_4 : x4.cell? ⟨x2.heap.size, 3, none⟩ = some (.int .i64 T2) := vh4.c3; clear b4 o4 vg3 cg2_3 vm3 cm2_3 vs3 vh3)
          | (refine wpList_alg rfl rfl ?_; intro x3 vh3 b3 s3; have vg3 := vg2.keep b3; have vm3 := vm2.keep b3; have vs3 := vs2.keep b3; have B3 : Hid (Below w.heap.size w x3) := hid (B2.out.trans (b3.mono B2.out.size)); have Ngh : Hid (w.heap.size ≠ x2.heap.size) := hid (by have := vg2.lt; omega); have Nmh : Hid (gm ≠ x2.heap.size) := hid (by have := vm2.lt; omega); have Nsh : Hid (bs ≠ x2.heap.size) := hid (by have := vs2.lt; omega); have cg2_3 : x3.cell? ⟨w.heap.size, 2, none⟩ = some (.int .u64 s) := vg3.c2; have cm2_3 : x3.cell? ⟨gm, 2, none⟩ = some (.int .i64 l) := vm3.c2; clear b3 s3 vg2 cg2_2 vm2 cm2_2 vs2)
          | (go_at_call 10; (with_reducible refine (HP.out wr).mono ?_); rintro e x2 ⟨rfl, b2⟩; have vg2 := vg1.keep b2; have vm2 := vm1.keep b2; have vs2 := vs1.keep b2; have B2 : Hid (Below w.heap.size w x2) := hid (B1.out.trans (b2.mono B1.out.size)); have cg2_2 : x2.cell? ⟨w.heap.size, 2, none⟩ = some (.int .u64 s) := vg2.c2; have cm2_2 : x2.cell? ⟨gm, 2, none⟩ = some (.int .i64 l) := vm2.c2; clear b2 vg1 vm1 vs1)
          | (refine wpList_ldm2 (.tmp 7) rfl rfl vm1 rfl ?_)
          | (refine wpList_ldg2 (.tmp 6) rfl rfl vg1 rfl ?_))
        go_roundw
        case rel => exact ⟨j + 1, by go_num, by show j + 1 ≤ 3; omega, vg7, vm7, vs7, B7.out⟩
        case measure => simp [intOf]; omega
      · go_wp2_with (first
          | (refine wpList_ldg2 (.tmp 22) rfl rfl vh7 rfl ?_)
          | (refine wpList_ldg2 (.tmp 6) rfl rfl vg7 rfl ?_)
          | (refine wpList_svg (x := ⟨true, k, s, a⟩) rfl (.tmp 22) (.tmp 132) rfl rfl rfl vh6 ?_; intro x7 vh7 b7 o7 _; have vg7 := vg6.other o7 Ngh.out; have vm7 := vm6.other o7 Nmh.out; have vs7 := vs6.other o7 Nsh.out; have B7 : Hid (Below w.heap.size w x7) := hid (B6.out.trans (b7.mono (B5.out.size))); clear b7 o7 vg6 vm6 vs6 vh6)
          | (refine wpList_alg rfl rfl ?_; intro x6 vh6 b6 s6; have vg6 := vg5.keep b6; have vm6 := vm5.keep b6; have vs6 := vs5.keep b6; have B6 : Hid (Below w.heap.size w x6) := hid (B5.out.trans (b6.mono B5.out.size)); have Ngh : Hid (w.heap.size ≠ x5.heap.size) := hid (by have := vg5.lt; omega); have Nmh : Hid (gm ≠ x5.heap.size) := hid (by have := vm5.lt; omega); have Nsh : Hid (bs ≠ x5.heap.size) := hid (by have := vs5.lt; omega); clear b6 s6 vg5 vm5 vs5)
          | (go_at_call 10; (with_reducible refine (HQ.out x4).mono ?_); rintro e x5 ⟨rfl, b5⟩; have vg5 := vg4.keep b5; have vm5 := vm4.keep b5; have vs5 := vs4.keep b5; have B5 : Hid (Below w.heap.size w x5) := hid (B4.out.trans (b5.mono B4.out.size)); clear b5 vg4 vm4 vs4)
          | (refine wpList_ldm2 (.tmp 7) rfl rfl vm4 rfl ?_)
          | (refine wpList_ldg2 (.tmp 6) rfl rfl vg4 rfl ?_)
          | (refine wpList_svg (x := ⟨true, true, N, T2⟩) rfl (.tmp 19) (.tmp 97) rfl rfl rfl vh3 ?_; intro x4 vh4 b4 o4 _; have vg4 := vg3.other o4 Ngh.out; have vm4 := vm3.other o4 Nmh.out; have vs4 := vs3.other o4 Nsh.out; have B4 : Hid (Below w.heap.size w x4) := hid (B3.out.trans (b4.mono (B2.out.size))); have cg2_4 : x4.cell? ⟨w.heap.size, 2, none⟩ = some (.int .u64 s) := vg4.c2; have cm2_4 : x4.cell? ⟨gm, 2, none⟩ = some (.int .i64 l) := vm4.c2; have ch2_4 : x4.cell? ⟨x2.heap.size, 2, none⟩ = some (.int .u64 N) := vh4.c2; have ch3_4 : x4.cell? ⟨x2.heap.size, 3, none⟩ = some (.int .i64 T2) := vh4.c3; clear b4 o4 vg3 cg2_3 vm3 cm2_3 vs3 vh3)
          | (refine wpList_alg rfl rfl ?_; intro x3 vh3 b3 s3; have vg3 := vg2.keep b3; have vm3 := vm2.keep b3; have vs3 := vs2.keep b3; have B3 : Hid (Below w.heap.size w x3) := hid (B2.out.trans (b3.mono B2.out.size)); have Ngh : Hid (w.heap.size ≠ x2.heap.size) := hid (by have := vg2.lt; omega); have Nmh : Hid (gm ≠ x2.heap.size) := hid (by have := vm2.lt; omega); have Nsh : Hid (bs ≠ x2.heap.size) := hid (by have := vs2.lt; omega); have cg2_3 : x3.cell? ⟨w.heap.size, 2, none⟩ = some (.int .u64 s) := vg3.c2; have cm2_3 : x3.cell? ⟨gm, 2, none⟩ = some (.int .i64 l) := vm3.c2; clear b3 s3 vg2 cg2_2 vm2 cm2_2 vs2)
          | (go_at_call 10; (with_reducible refine (HP.out wr).mono ?_); rintro e x2 ⟨rfl, b2⟩; have vg2 := vg1.keep b2; have vm2 := vm1.keep b2; have vs2 := vs1.keep b2; have B2 : Hid (Below w.heap.size w x2) := hid (B1.out.trans (b2.mono B1.out.size)); have cg2_2 : x2.cell? ⟨w.heap.size, 2, none⟩ = some (.int .u64 s) := vg2.c2; have cm2_2 : x2.cell? ⟨gm, 2, none⟩ = some (.int .i64 l) := vm2.c2; clear b2 vg1 vm1 vs1)
          | (refine wpList_ldm2 (.tmp 7) rfl rfl vm1 rfl ?_)
          | (refine wpList_ldg2 (.tmp 6) rfl rfl vg1 rfl ?_))
        go_roundw
        case rel => exact ⟨j + 1, by go_num, by show j + 1 ≤ 3; omega, vg7, vm7, vs7, B7.out⟩
        case measure => simp [intOf]; omega
      · go_wp2_with (first
          | (refine wpList_ldg2 (.tmp 22) rfl rfl vh7 rfl ?_)
          | (refine wpList_ldg2 (.tmp 6) rfl rfl vg7 rfl ?_)
          | (refine wpList_svg (x := H2) rfl (.tmp 22) (.tmp 132) rfl rfl rfl vh6 ?_; intro x7 vh7 b7 o7 _; have vg7 := vg6.other o7 Ngh.out; have vm7 := vm6.other o7 Nmh.out; have vs7 := vs6.other o7 Nsh.out; have B7 : Hid (Below w.heap.size w x7) := hid (B6.out.trans (b7.mono (B5.out.size))); clear b7 o7 vg6 vm6 vs6 vh6)
          | (refine wpList_alg rfl rfl ?_; intro x6 vh6 b6 s6; have vg6 := vg5.keep b6; have vm6 := vm5.keep b6; have vs6 := vs5.keep b6; have B6 : Hid (Below w.heap.size w x6) := hid (B5.out.trans (b6.mono B5.out.size)); have Ngh : Hid (w.heap.size ≠ x5.heap.size) := hid (by have := vg5.lt; omega); have Nmh : Hid (gm ≠ x5.heap.size) := hid (by have := vm5.lt; omega); have Nsh : Hid (bs ≠ x5.heap.size) := hid (by have := vs5.lt; omega); clear b6 s6 vg5 vm5 vs5)
          | (go_at_call 10; (with_reducible refine (HQ.out x4).mono ?_); rintro e x5 ⟨rfl, b5⟩; have vg5 := vg4.keep b5; have vm5 := vm4.keep b5; have vs5 := vs4.keep b5; have B5 : Hid (Below w.heap.size w x5) := hid (B4.out.trans (b5.mono B4.out.size)); clear b5 vg4 vm4 vs4)
          | (refine wpList_ldm2 (.tmp 7) rfl rfl vm4 rfl ?_)
          | (refine wpList_ldg2 (.tmp 6) rfl rfl vg4 rfl ?_)
          | (refine wpList_svg (x := ⟨true, true, N, T2⟩) rfl (.tmp 19) (.tmp 97) rfl rfl rfl vh3 ?_; intro x4 vh4 b4 o4 _; have vg4 := vg3.other o4 Ngh.out; have vm4 := vm3.other o4 Nmh.out; have vs4 := vs3.other o4 Nsh.out; have B4 : Hid (Below w.heap.size w x4) := hid (B3.out.trans (b4.mono (B2.out.size))); have cg2_4 : x4.cell? ⟨w.heap.size, 2, none⟩ = some (.int .u64 s) := vg4.c2; have cm2_4 : x4.cell? ⟨gm, 2, none⟩ = some (.int .i64 l) := vm4.c2; have ch2_4 : x4.cell? ⟨x2.heap.size, 2, none⟩ = some (.int .u64 N) := vh4.c2; have ch3_4 : x4.cell? ⟨x2.heap.size, 3, none⟩ = some (.int .i64 T2) := vh4.c3; clear b4 o4 vg3 cg2_3 vm3 cm2_3 vs3 vh3)
          | (refine wpList_alg rfl rfl ?_; intro x3 vh3 b3 s3; have vg3 := vg2.keep b3; have vm3 := vm2.keep b3; have vs3 := vs2.keep b3; have B3 : Hid (Below w.heap.size w x3) := hid (B2.out.trans (b3.mono B2.out.size)); have Ngh : Hid (w.heap.size ≠ x2.heap.size) := hid (by have := vg2.lt; omega); have Nmh : Hid (gm ≠ x2.heap.size) := hid (by have := vm2.lt; omega); have Nsh : Hid (bs ≠ x2.heap.size) := hid (by have := vs2.lt; omega); have cg2_3 : x3.cell? ⟨w.heap.size, 2, none⟩ = some (.int .u64 s) := vg3.c2; have cm2_3 : x3.cell? ⟨gm, 2, none⟩ = some (.int .i64 l) := vm3.c2; clear b3 s3 vg2 cg2_2 vm2 cm2_2 vs2)
          | (go_at_call 10; (with_reducible refine (HP.out wr).mono ?_); rintro e x2 ⟨rfl, b2⟩; have vg2 := vg1.keep b2; have vm2 := vm1.keep b2; have vs2 := vs1.keep b2; have B2 : Hid (Below w.heap.size w x2) := hid (B1.out.trans (b2.mono B1.out.size)); have cg2_2 : x2.cell? ⟨w.heap.size, 2, none⟩ = some (.int .u64 s) := vg2.c2; have cm2_2 : x2.cell? ⟨gm, 2, none⟩ = some (.int .i64 l) := vm2.c2; clear b2 vg1 vm1 vs1)
          | (refine wpList_ldm2 (.tmp 7) rfl rfl vm1 rfl ?_)
          | (refine wpList_ldg2 (.tmp 6) rfl rfl vg1 rfl ?_))
        go_roundw
        case rel => exact ⟨j + 1, by go_num, by show j + 1 ≤ 3; omega, vg7, vm7, vs7, B7.out⟩
        case measure => simp [intOf]; omega
    · have hlt' : ¬ (j : Int) < 3 := by omega
      obtain ⟨w0, rfl⟩ : ∃ w0, w0 = wr := ⟨_, rfl⟩
      go_wp2_with fail
      have bC : Below w0.heap.size w0 (w0.alloc (Obj.cells #[.int .i64 (x - 1), .int .i64 (y + 1)] 2)) := (Below.refl _ _).alloc (Nat.le_refl _) _
      have V2 := hid (show OpRel ⟨true, k, s, a⟩ ⟨n, ms, l, f, d⟩ [.int .i64 (x - 1), .int .i64 (y + 1)] gm w0.heap.size w (.int .i64 0) (w0.alloc (Obj.cells #[.int .i64 (x - 1), .int .i64 (y + 1)] 2)) from ⟨0, rfl, Nat.zero_le _, vg1.keep bC, vm1.keep bC, vars_new w0 2 [.int .i64 (x - 1), .int .i64 (y + 1)] (by simp), B1.out.trans (bC.mono B1.out.size)⟩)
      generalize w0.heap.size = bs2 at *
      clear bC vg1 vm1 vs1 B1
      go_loopw [157] (OpRel ⟨true, k, s, a⟩ ⟨n, ms, l, f, d⟩ [.int .i64 (x - 1), .int .i64 (y + 1)] gm bs2 w) (fun i _ => 2 - (intOf i).toNat)
      case atStart => exact V2.out
      case round =>
        obtain ⟨j2, rfl, hj2, vg1, vm1, vs1, bel⟩ := hrel
        have hj3' : j2 ≤ 2 := hj2
        have B1 : Hid (Below w.heap.size w wr) := hid bel
        clear V2 bel hj2
        by_cases hlt2 : j2 < 2
        · obtain ⟨t, ht, htt⟩ : ∃ t : Int, [Value.int .i64 (x - 1), Value.int .i64 (y + 1)][j2]? = some (.int .i64 t) ∧ (t = x - 1 ∨ t = y + 1) := by
            match j2, hlt2 with
            | 0, _ => exact ⟨x - 1, rfl, .inl rfl⟩
            | 1, _ => exact ⟨y + 1, rfl, .inr rfl⟩
          have ct : wr.cell? ⟨bs2, j2, none⟩ = some (.int .i64 t) := by have := vs1.1 j2 _ ht; rwa [Nat.zero_add] at this
          have HP := HZ.out t
          replace HP := hid (fun w => HP w htt)
          have hltb : (j2 : Int) < 2 := by omega
          clear ht htt
          go_wp2_with (first
            | (refine wpList_ldg2 (.tmp 27) rfl rfl vh4 rfl ?_)
            | (refine wpList_ldg2 (.tmp 6) rfl rfl vg4 rfl ?_)
            | (refine wpList_svg (x := ⟨true, k, s, a⟩) rfl (.tmp 27) (.tmp 169) rfl rfl rfl vh3 ?_; intro x4 vh4 b4 o4 _; have vg4 := vg3.other o4 Ngh.out; have vm4 := vm3.other o4 Nmh.out; have vs4 := vs3.other o4 Nsh.out; have B4 : Hid (Below w.heap.size w x4) := hid (B3.out.trans (b4.mono (B2.out.size))); clear b4 o4 vg3 vm3 vs3 vh3)
            | (refine wpList_alg rfl rfl ?_; intro x3 vh3 b3 s3; have vg3 := vg2.keep b3; have vm3 := vm2.keep b3; have vs3 := vs2.keep b3; have B3 : Hid (Below w.heap.size w x3) := hid (B2.out.trans (b3.mono B2.out.size)); have Ngh : Hid (w.heap.size ≠ x2.heap.size) := hid (by have := vg2.lt; omega); have Nmh : Hid (gm ≠ x2.heap.size) := hid (by have := vm2.lt; omega); have Nsh : Hid (bs2 ≠ x2.heap.size) := hid (by have := vs2.lt; omega); clear b3 s3 vg2 vm2 vs2)
            | (go_at_call 10; (with_reducible refine (HP.out wr).mono ?_); rintro e x2 ⟨rfl, b2⟩; have vg2 := vg1.keep b2; have vm2 := vm1.keep b2; have vs2 := vs1.keep b2; have B2 : Hid (Below w.heap.size w x2) := hid (B1.out.trans (b2.mono B1.out.size)); clear b2 vg1 vm1 vs1)
            | (refine wpList_ldm2 (.tmp 7) rfl rfl vm1 rfl ?_)
            | (refine wpList_ldg2 (.tmp 6) rfl rfl vg1 rfl ?_))
          go_roundw
          case rel => exact ⟨j2 + 1, by go_num, by show j2 + 1 ≤ 2; omega, vg4, vm4, vs4, B4.out⟩
          case measure => simp [intOf]; omega
        · have hltb : ¬ (j2 : Int) < 2 := by omega
          go_wp2_with fail
          go_ret
          exact ⟨rfl, B1.out⟩
end Go.Proofs.Ytpncbfhbiifncaa
