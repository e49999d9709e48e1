/-
  Contract of check.Check: which statement is wrong, and what; at every forest at which parse.Check tells what it tells.
-/
import Derived.Test.YtpkoboohnbkpoaaGreatDoorJZY
import Derived.Test.YtpkoboohnbkpoaaGreatDoorJZW
import Derived.Test.YtpkoboohnbkpoaaGreatDoorJZV
import Derived.Test.YtpkoboohnbkpoaaGreatDoorJZR
import Derived.Test.YtpkoboohnbkpoaaGreatDoorJZI
import Derived.Test.YtpkoboohnbkpoaaGreatDoorK8
import Derived.Test.YtpkoboohnbkpoaaGreatDoorK9
import Derived.Test.YtpkoboohnbkpoaaGreatDoorJZC
import Derived.Deep.RegionWith
namespace Go.Proofs.YtpkoboohnbkpoaaGreatDoor
open Go Go.RowKit Go.Maps

/-! ### A variable of one cell -/
/-- Block g is a variable that holds v. -/
def VarC (w : World) (g : Nat) (v : Value) : Prop := w.rangeAt g 0 [v] ∧ w.there g 0 1
section
variable {w w' : World} {g : Nat} {v : Value}
theorem VarC.below (h : VarC w g v) {B : Nat} (hk : Below B w w') (hb : g < B) : VarC w' g v := ⟨range_keep h.1 hb hk, there_keep h.2 hb hk⟩
theorem VarC.c0 (h : VarC w g v) : w.cell? ⟨g, 0, none⟩ = some v := h.1 0 _ rfl
theorem VarC.lt (h : VarC w g v) : g < w.heap.size := World.block_lt_of_cell? w _ h.c0
theorem VarC.keep (h : VarC w g v) (hk : Below w.heap.size w w') : VarC w' g v := h.below hk h.lt
theorem varc_new (w : World) (v : Value) (t : TypeId) : VarC (w.alloc (.cells #[v] t)) w.heap.size v := ⟨range_new w [v] t, there_new w [v] t⟩
variable {ops : Array Oper} {rest : List Oper} {o : Oper} {a : Act} {Q : Exit → Act → World → Prop}
theorem wp_al1 (hg : o.guard = none) {t : TypeId} (ho : o.op = .alloc t) (hz : (zeroValue t).run Tryz.prog w = .ok v w) (hc : v.cells = #[v])
    (h : ∀ w', VarC w' w.heap.size v → Below w.heap.size w w' → Hid (w'.heap.size = w.heap.size + 1) → wpList Tryz.prog ops Q rest (a.put o.dst (.pointer (some ⟨w.heap.size, 0, none⟩))) w') : wpList Tryz.prog ops Q (o :: rest) a w := by
  refine wpList_plain hg fun K hK => ?_
  unfold Oper.wp execOp
  simp only [ho, Sem.run_bind, Instr.alloc, hz, newVar, newRow, hc, run_newObj_alloc, Sem.run_pure, Result.andThen_ok]
  exact hK _ _ (h _ (varc_new w v t) ((Below.refl _ _).alloc (Nat.le_refl _) _) (hid (by simp)))
theorem wp_sc (hg : o.guard = none) {ty : TypeId} (y z : Operand) (ho : o.op = .store ty y z) {u : Value} (hx : a.eval y = .pointer (some ⟨g, 0, none⟩)) (hy : a.eval z = v) (hc : v.cells = #[v]) (h1 : v.oneCell' = true) (hs : (Tryz.prog.info? ty).map (·.size) = some 1)
    (hv : VarC w g u) (h : ∀ w', VarC w' g v → Below g w w' → Oth g w w' → Hid (w'.heap.size = w.heap.size) → wpList Tryz.prog ops Q rest (a.put o.dst undef) w') : wpList Tryz.prog ops Q (o :: rest) a w := by
  refine wpList_plain hg fun K hK => ?_
  have := run_storeCells_cells (P := Tryz.prog) g 0 [v] 0 w (fun i hi => by simpa using (hv.2 i (by simpa using hi)).1) (fun i hi => by simpa using (hv.2 i (by simpa using hi)).2) (fun u hu => by simp at hu; rw [hu]; exact h1)
  unfold Oper.wp execOp
  cases hq : Tryz.prog.info? ty with
  | none => simp [hq] at hs
  | some i =>
    have hz : i.size = 1 := by simpa [hq] using hs
    simp only [Nat.add_zero] at this
    have hsv : (storeVar ty ⟨g, 0, none⟩ v).run Tryz.prog w = .ok () (w.setCells g 0 [v]) := by
      simp [storeVar, sizeOf, typeInfo, hq, hc, hz, this]
    simp only [ho, hx, hy, Instr.storeAt, Instr.sureAddr, Sem.run_bind, Sem.run_pure, Result.andThen_ok, hsv]
    exact hK _ _ (h _ ⟨World.rangeAt_setCells_same w g 0 [v] hv.2, there_put hv.2⟩ (setCells_oth g _ _ _).1 (setCells_oth g _ _ _).2 (hid (setCells_size _ _ _ _)))
end
theorem chk_one (f : Fo) : chkE f = 0 ∨ chkE f = 1 := by unfold chkE; split <;> simp
theorem hasW_find (ks : List (Ky × Nat)) (w : List UInt8) : hasW ks w = (fndK ks ⟨w, 0, 0⟩).isSome := by rw [fndK_any]; rfl
theorem flat_okS {f : Fo} (h : f.okS) : f.flat.okS := by
  induction f with
  | nil => trivial
  | cons wd ns bl y n ih1 ih2 => exact ⟨h.1, h.2.1, trivial, okS_app (ih1 h.2.2.1) (ih2 h.2.2.2)⟩
theorem stand_call (f : Fo) (w5 w6 w0 : World) (B base base3 base6 : Nat) (A3 A6 : Option Addr) (n3 c3 n6 c6 : Nat) (xs : List Sm) (hF : Fms w5 B base) (hL : Lo w5 base3 A3 n3 c3 f.flat xs) (hcp : AllCp w0 base3 xs) (hb : Below w5.heap.size w5 w6) (how : blS.Ow w6 base6 A6 n6 c6 (bvs f.inL)) (hok : f.okS) (hc : f.count ≤ 2000) :
    Calls Tryz.prog 55 #[.map (some B), .slice A3 n3 c3, .slice A6 n6 c6] w6 fun e w' => StPost (standF f.stL 0 []) e w' ∧ Below w6.heap.size w6 w' := by
  have h3 : n3 = f.count := by rw [hL.len, Fo.len_flat]
  have h6 : n6 = f.count := by rw [← how.len]; unfold bvs; rw [List.length_map, Fo.inL_len]
  subst h3
  obtain rfl : n6 = f.count := h6
  have hx : RwP smS w6 (fun k => k < w5.heap.size) A3 f.count xs := (hL.ow.rowP.mono (fun _ h _ => h.2.1)).keep fun k hk _ => hb.block k hk
  have htr : Tr w6 (fun k => k < w5.heap.size) f.flat xs := (hL.tr.mono (fun _ h _ => h.2.1)).keep fun k hk _ => hb.block k hk
  have := standing_any f.flat f.inL w6 (fun k => k < w5.heap.size) B base A3 f.count c3 xs A6 c6 (hF.below hb) hx htr hcp (flat_okS hok) (by omega) (fun hn => by
    obtain ⟨b, e, _, h1, h2⟩ := how.at_ hn
    exact ⟨b, e, h1, h2⟩) (Fo.inL_len f)
  rw [Fo.flat_topL] at this
  exact this
theorem posW_find {ks : List (Ky × Nat)} {w : List UInt8} {p : Ky × Nat} (h : fndK ks ⟨w, 0, 0⟩ = some p) : posW ks w = p.2 := by unfold posW; unfold fndK at h; rw [h]; rfl
set_option maxRecDepth 100000 in
theorem chkc_arg (f : Fo) (w : World) (A : Option Addr) (n c : Nat) (hP : ChkAt f (.slice A n c) w) (h : chkE f = 1) :
    Calls Tryz.prog 25 #[.slice A n c] w fun e w' => e = .returned (.tuple #[.int .i64 0, .int .i64 1]) ∧ Below w.heap.size w w' := by
  have HP := hid hP
  clear hP
  have e1 := h
  unfold ChkAt at HP
  rw [e1] at HP
  clear e1 h
  go_enter Tryz.func25, Tryz.ntmps25
  go_wp2_with (first
    | (go_at_call 40; refine (HP.out w (Below.refl _ _)).mono ?_; rintro e w1 ⟨rfl, b1⟩; have B1 := hid b1; clear b1))
  go_ret2
  exact ⟨rfl, B1.out⟩
set_option maxHeartbeats 2000000 in
set_option maxRecDepth 100000 in
theorem chkc_bad (f : Fo) (w : World) (K : Nat → Prop) (A : Option Addr) (n c : Nat) (hC : LaidC w) (ht : TrS w K A n f) (hK : ∀ k, K k → k < w.heap.size) (hP : ChkAt f (.slice A n c) w) (h0 : chkE f = 0) (p er : Nat) (her : er ≠ 0) (hS : standF f.stL 0 [] = .bad p er) :
    Calls Tryz.prog 25 #[.slice A n c] w fun e w' => e = .returned (.tuple #[.int .i64 (p : Int), .int .i64 (er : Int)]) ∧ Below w.heap.size w w' := by
  have HP := hid hP
  unfold ChkAt at HP
  rw [h0] at HP
  obtain ⟨hokA, hcnt⟩ := chk_ok h0
  have HF := hid (fun w' (hb : Below w.heap.size w w') => forms_any w' (hC.below hb))
  have HFL := hid (fun w' (hb : Below w.heap.size w w') => flat3_any f w' K A n c (ht.below hb) (fun k hk => Nat.lt_of_lt_of_le (hK k hk) hb.size) (by omega) (okA_okS hokA))
  have HWI := hid (fun w' (hb : Below w.heap.size w w') => within_any f w' K A n c (ht.below hb) hcnt)
  have HOK := hid (And.intro hokA hcnt)
  clear hP hC ht hK h0 hokA hcnt
  have HS := hid hS
  have he2 : ((er : Int) != 0) = true := by simp; omega
  have he3 : ¬ (er : Int) = 0 := by omega
  clear hS her
  go_enter Tryz.func25, Tryz.ntmps25
  go_upto_region 5 with (first
    | (refine wp_sc (v := .map (some B)) rfl (.tmp 5) (.tmp 22) rfl rfl rfl rfl rfl (by kernel_rfl) Q4.out ?_; intro w5 q5 b5 o5 s5; have B35 := hid (B34.out.trans (b5.mono (Nat.le_refl _))); have V5 := hid q5.c0; have L5 := hid (L3.out.below B35.out); have F5 := hid (F3.out.below B35.out); have B5 := hid (B3.out.trans (B35.out.mono B3.out.size)); clear q5 b5 o5 s5)
    | (refine wp_al1 (v := .map none) rfl rfl (by kernel_rfl) rfl ?_; intro w4 q4 b4 s4; have L4 := hid (L3.out.below b4); have F4 := hid (F3.out.below b4); have Q4 := hid q4; have B34 := hid b4; have B4 := hid (B3.out.trans (b4.mono B3.out.size)); clear q4 b4 s4)
    | (go_at_call 54; refine (HFL.out w2 B2.out).mono ?_; rintro e w3 ⟨A3, n3, c3, xs, rfl, lo3, b3, cp3⟩; have L3 := hid lo3; have CP3 := hid cp3; have F3 := hid (F2.out.below b3); have B3 := hid (B2.out.trans (b3.mono B2.out.size)); clear lo3 b3 cp3)
    | (go_at_call 52; refine (HF.out w1 B1.out).mono ?_; rintro e w2 ⟨B, rfl, f2, b2⟩; have F2 := hid f2; have B2 := hid (B1.out.trans (b2.mono B1.out.size)); clear f2 b2)
    | (go_at_call 40; refine (HP.out w (Below.refl _ _)).mono ?_; rintro e w1 ⟨rfl, b1⟩; have B1 := hid b1; clear b1))
  have B5d := hid (show Below w5.heap.size w5 w5.drew from (Below.refl _ _).drew)
  have B5w := hid B5.out.drew
  have c5 : w5.drew.cell? ⟨w3.heap.size, 0, none⟩ = some (.map (some B)) := V5.out
  have hl5 := hid (World.block_lt_of_cell? w5 _ V5.out)
  go_region_with (first
    | (go_at_call 55; refine (stand_call f w5 w6 w3 B _ _ _ A3 A6 n3 c3 n6 c6 xs F5.out L5.out CP3.out B56.out O6.out (okA_okS HOK.out.1) HOK.out.2).mono ?_; rintro e w7 ⟨h7, b7⟩; rw [HS.out] at h7; have h8 : e = .returned (.tuple #[.map none, .int .i64 (p : Int), .int .i64 (er : Int)]) := h7; subst h8; have B7 := hid (B6.out.trans (b7.mono B6.out.size)); clear b7 h7)
    | (go_at_call 56; refine (HWI.out w5.drew B5w.out).mono ?_; rintro e w6 ⟨A6, n6, c6, rfl, o6, b6⟩; have O6 := hid o6; have B56 := hid (B5d.out.trans b6); have B6 := hid (B5w.out.trans (b6.mono B5w.out.size)); have c5 : w6.cell? ⟨w3.heap.size, 0, none⟩ = some (.map (some B)) := (B56.out.cell (p := ⟨w3.heap.size, 0, none⟩) hl5.out).trans V5.out; clear o6 b6))
  all_goals
    go_wp2_with fail
    go_ret2
    exact ⟨rfl, B7.out⟩
theorem chk_miss {f : Fo} {ks : List (Ky × Nat)} (h0 : chkE f = 0) (hS : standF f.stL 0 [] = .ok ks) (h : firstFour.all (hasW ks) = false) : chkF f = (f.count, 8) := by
  unfold Fo.stL at hS
  unfold chkF
  rw [if_neg (by rw [h0]; simp), hS]
  simp only
  rw [if_pos h]
theorem chk_okm {f : Fo} {ks : List (Ky × Nat)} (h0 : chkE f = 0) (hS : standF f.stL 0 [] = .ok ks) (h : firstFour.all (hasW ks) = true) (hk : (toldF f.flatL).okM = false) : chkF f = (posW ks wSlot, 1) := by
  unfold Fo.stL at hS
  unfold chkF
  rw [if_neg (by rw [h0]; simp), hS]
  simp only
  rw [if_neg (by rw [h]; simp), if_pos hk]
theorem chk_last {f : Fo} {ks : List (Ky × Nat)} (h0 : chkE f = 0) (hS : standF f.stL 0 [] = .ok ks) (h : firstFour.all (hasW ks) = true) (hk : (toldF f.flatL).okM = true) : chkF f = (match f.flatL.findIdx? (St.beyond (toldF f.flatL).nodes) with | some i => (i, 1) | none => (0, 0)) := by
  unfold Fo.stL at hS
  unfold chkF
  rw [if_neg (by rw [h0]; simp), hS]
  simp only
  rw [if_neg (by rw [h]; simp), if_neg (by rw [hk]; simp)]
  cases List.findIdx? (St.beyond (toldF f.flatL).nodes) f.flatL <;> rfl
def w4V : Value := .agg #[.string ⟨#[110, 111, 100, 101, 115]⟩, .string ⟨#[116, 105, 99, 107]⟩, .string ⟨#[115, 108, 111, 116]⟩, .string ⟨#[104, 111, 114, 105, 122, 111, 110]⟩]
theorem w4_0 (w : World) : (Instr.index 91 w4V (.int .i64 0)).run Tryz.prog w = .ok (.string ⟨#[110, 111, 100, 101, 115]⟩) w := by kernel_rfl
theorem w4_1 (w : World) : (Instr.index 91 w4V (.int .i64 1)).run Tryz.prog w = .ok (.string ⟨#[116, 105, 99, 107]⟩) w := by kernel_rfl
theorem w4_2 (w : World) : (Instr.index 91 w4V (.int .i64 2)).run Tryz.prog w = .ok (.string ⟨#[115, 108, 111, 116]⟩) w := by kernel_rfl
theorem w4_3 (w : World) : (Instr.index 91 w4V (.int .i64 3)).run Tryz.prog w = .ok (.string ⟨#[104, 111, 114, 105, 122, 111, 110]⟩) w := by kernel_rfl
theorem fld0 (v0 v1 v2 v3 v4 v5 v6 v7 v8 v9 v10 : Value) (w : World) : (Instr.field 45 (.agg #[v0, v1, v2, v3, v4, v5, v6, v7, v8, v9, v10]) 0).run Tryz.prog w = .ok (.agg #[v0, v1, v2, v3, v4]) w := by kernel_rfl
theorem okm_md (C : Cf) {ek : Int} (h : okMd ⟨C.nodes, C.slot, C.lead, C.frame, C.window⟩ = ek) : ek = if C.okM = true then 0 else 1 := by
  rw [← h]
  unfold okMd Cf.okM OkMd
  simp only [decide_eq_true_eq]
set_option maxHeartbeats 4000000 in
set_option maxRecDepth 100000 in
theorem chkc_ok (f : Fo) (w : World) (K : Nat → Prop) (A : Option Addr) (n c : Nat) (hC : LaidC w) (ht : TrS w K A n f) (hK : ∀ k, K k → k < w.heap.size) (hP : ChkAt f (.slice A n c) w) (h0 : chkE f = 0) (ks : List (Ky × Nat)) (hS : standF f.stL 0 [] = .ok ks) :
    Calls Tryz.prog 25 #[.slice A n c] w fun e w' => e = .returned (.tuple #[.int .i64 ((chkF f).1 : Nat), .int .i64 ((chkF f).2 : Nat)]) ∧ Below w.heap.size w w' := by
  have HE0 := hid h0
  have HP := hid hP
  unfold ChkAt at HP
  rw [h0] at HP
  obtain ⟨hokA, hcnt⟩ := chk_ok h0
  have HF := hid (fun w' (hb : Below w.heap.size w w') => forms_any w' (hC.below hb))
  have HFL := hid (fun w' (hb : Below w.heap.size w w') => flat3_any f w' K A n c (ht.below hb) (fun k hk => Nat.lt_of_lt_of_le (hK k hk) hb.size) (by omega) (okA_okS hokA))
  have HWI := hid (fun w' (hb : Below w.heap.size w w') => within_any f w' K A n c (ht.below hb) hcnt)
  have HOK := hid (And.intro hokA hcnt)
  clear hP hC ht hK h0 hokA hcnt
  have HS := hid hS
  have HONE := hid (show ∀ x ∈ f.flatL, oneE x = 0 from fun x hx => by
    rw [← Fo.stL_fst] at hx
    obtain ⟨q, hq, rfl⟩ := List.mem_map.1 hx
    exact ((stand_ok hS).1 q hq).1)
  clear hS
  go_enter Tryz.func25, Tryz.ntmps25
  go_upto_region 5 with (first
    | (refine wp_sc (v := .map (some B)) rfl (.tmp 5) (.tmp 22) rfl rfl rfl rfl rfl (by kernel_rfl) Q4.out ?_; intro w5 q5 b5 o5 s5; have B35 := hid (B34.out.trans (b5.mono (Nat.le_refl _))); have V5 := hid q5.c0; have L5 := hid (L3.out.below B35.out); have F5 := hid (F3.out.below B35.out); have B5 := hid (B3.out.trans (B35.out.mono B3.out.size)); clear q5 b5 o5 s5)
    | (refine wp_al1 (v := .map none) rfl rfl (by kernel_rfl) rfl ?_; intro w4 q4 b4 s4; have L4 := hid (L3.out.below b4); have F4 := hid (F3.out.below b4); have Q4 := hid q4; have B34 := hid b4; have B4 := hid (B3.out.trans (b4.mono B3.out.size)); clear q4 b4 s4)
    | (go_at_call 54; refine (HFL.out w2 B2.out).mono ?_; rintro e w3 ⟨A3, n3, c3, xs, rfl, lo3, b3, cp3⟩; have L3 := hid lo3; have CP3 := hid cp3; have F3 := hid (F2.out.below b3); have B3 := hid (B2.out.trans (b3.mono B2.out.size)); clear lo3 b3 cp3)
    | (go_at_call 52; refine (HF.out w1 B1.out).mono ?_; rintro e w2 ⟨B, rfl, f2, b2⟩; have F2 := hid f2; have B2 := hid (B1.out.trans (b2.mono B1.out.size)); clear f2 b2)
    | (go_at_call 40; refine (HP.out w (Below.refl _ _)).mono ?_; rintro e w1 ⟨rfl, b1⟩; have B1 := hid b1; clear b1))
  go_simp
  have B5d := hid (show Below w5.heap.size w5 w5.drew from (Below.refl _ _).drew)
  have B5w := hid B5.out.drew
  have c5 : w5.drew.cell? ⟨w3.heap.size, 0, none⟩ = some (.map (some B)) := V5.out
  have hl5 := hid (World.block_lt_of_cell? w5 _ V5.out)
  go_cut [7, 8, 9] (fun v7 v8 v9 wx => ∃ B9, v7 = .map (some B9) ∧ v8 = .int .i64 0 ∧ v9 = .int .i64 0 ∧ Hid (StM wx B9 ks) ∧ Hid (Below w5.heap.size w5 wx))
  case first =>
    go_region_with (first
      | (go_at_call 55; refine (stand_call f w5 w6 w3 B _ _ _ A3 A6 n3 c3 n6 c6 xs F5.out L5.out CP3.out B56.out O6.out (okA_okS HOK.out.1) HOK.out.2).mono ?_; rintro e w7 ⟨h7, b7⟩; rw [HS.out] at h7; obtain ⟨B9, rfl, m7⟩ := h7; have M7 := hid m7; have B57 := hid (B56.out.trans (b7.mono B56.out.size)); clear b7 m7)
      | (go_at_call 56; refine (HWI.out w5.drew B5w.out).mono ?_; rintro e w6 ⟨A6, n6, c6, rfl, o6, b6⟩; have O6 := hid o6; have B56 := hid (B5d.out.trans b6); have B6 := hid (B5w.out.trans (b6.mono B5w.out.size)); have c5 : w6.cell? ⟨w3.heap.size, 0, none⟩ = some (.map (some B)) := (B56.out.cell (p := ⟨w3.heap.size, 0, none⟩) hl5.out).trans V5.out; clear o6 b6))
    all_goals
      go_wp2_with fail
      go_meet
      exact ⟨_, rfl, rfl, rfl, M7, B57⟩
  case rest =>
    obtain ⟨B9, rfl, rfl, rfl, M9, BC⟩ := hcut
    have BWC := hid (B5.out.trans (BC.out.mono B5.out.size))
    have HN3 := hid (show n3 = f.count by rw [L5.out.len, Fo.len_flat])
    clear c5 HP HF HFL HWI B5d B5w
    have i0 := w4_0
    have i1 := w4_1
    have i2 := w4_2
    have i3 := w4_3
    unfold w4V at i0 i1 i2 i3
    have hfd := fld0
    go_wp2
    refine wp_loop_rounds 5 ?_
    rw [rounds_succ]
    cases h0 : fndK ks ⟨wNodes, 0, 0⟩ with
    | none =>
      have H0 := hid h0
      have HV := hid (show chkF f = (f.count, 8) from chk_miss HE0.out HS.out (by simp [firstFour, hasW_find, h0]))
      clear h0
      go_wp2_with (first
        | (refine wp_lkK (k := ⟨wNodes, 0, 0⟩) (r := .tuple #[.int .i64 0, .bool false]) rfl (.tmp 43) (.tmp 45) rfl Tryz.underlying86 (by kernel_rfl) rfl rfl M9.out (by rw [H0.out]; rfl) ?_))
      go_ret2
      rw [HV.out]
      exact ⟨by rw [← HN3.out]; rfl, BWC.out⟩
    | some p0 =>
      have H0 := hid h0
      clear h0
      go_wp2_with (first
        | (refine wp_lkK (k := ⟨wNodes, 0, 0⟩) (r := .tuple #[.int .i64 (p0.2 : Int), .bool true]) rfl (.tmp 43) (.tmp 45) rfl Tryz.underlying86 (by kernel_rfl) rfl rfl M9.out (by rw [H0.out]; rfl) ?_))
      rw [rounds_succ]
      cases h1 : fndK ks ⟨wTick, 0, 0⟩ with
      | none =>
        have H1 := hid h1
        have HV := hid (show chkF f = (f.count, 8) from chk_miss HE0.out HS.out (by simp [firstFour, hasW_find, h1]))
        clear h1
        go_wp2_with (first
          | (refine wp_lkK (k := ⟨wTick, 0, 0⟩) (r := .tuple #[.int .i64 0, .bool false]) rfl (.tmp 43) (.tmp 45) rfl Tryz.underlying86 (by kernel_rfl) rfl rfl M9.out (by rw [H1.out]; rfl) ?_))
        go_ret2
        rw [HV.out]
        exact ⟨by rw [← HN3.out]; rfl, BWC.out⟩
      | some p1 =>
        have H1 := hid h1
        clear h1
        go_wp2_with (first
          | (refine wp_lkK (k := ⟨wTick, 0, 0⟩) (r := .tuple #[.int .i64 (p1.2 : Int), .bool true]) rfl (.tmp 43) (.tmp 45) rfl Tryz.underlying86 (by kernel_rfl) rfl rfl M9.out (by rw [H1.out]; rfl) ?_))
        rw [rounds_succ]
        cases h2 : fndK ks ⟨wSlot, 0, 0⟩ with
        | none =>
          have H2 := hid h2
          have HV := hid (show chkF f = (f.count, 8) from chk_miss HE0.out HS.out (by simp [firstFour, hasW_find, h2]))
          clear h2
          go_wp2_with (first
            | (refine wp_lkK (k := ⟨wSlot, 0, 0⟩) (r := .tuple #[.int .i64 0, .bool false]) rfl (.tmp 43) (.tmp 45) rfl Tryz.underlying86 (by kernel_rfl) rfl rfl M9.out (by rw [H2.out]; rfl) ?_))
          go_ret2
          rw [HV.out]
          exact ⟨by rw [← HN3.out]; rfl, BWC.out⟩
        | some p2 =>
          have H2 := hid h2
          clear h2
          go_wp2_with (first
            | (refine wp_lkK (k := ⟨wSlot, 0, 0⟩) (r := .tuple #[.int .i64 (p2.2 : Int), .bool true]) rfl (.tmp 43) (.tmp 45) rfl Tryz.underlying86 (by kernel_rfl) rfl rfl M9.out (by rw [H2.out]; rfl) ?_))
          rw [rounds_succ]
          cases h3 : fndK ks ⟨wHorizon, 0, 0⟩ with
          | none =>
            have H3 := hid h3
            have HV := hid (show chkF f = (f.count, 8) from chk_miss HE0.out HS.out (by simp [firstFour, hasW_find, h3]))
            clear h3
            go_wp2_with (first
              | (refine wp_lkK (k := ⟨wHorizon, 0, 0⟩) (r := .tuple #[.int .i64 0, .bool false]) rfl (.tmp 43) (.tmp 45) rfl Tryz.underlying86 (by kernel_rfl) rfl rfl M9.out (by rw [H3.out]; rfl) ?_))
            go_ret2
            rw [HV.out]
            exact ⟨by rw [← HN3.out]; rfl, BWC.out⟩
          | some p3 =>
            have H3 := hid h3
            clear h3
            go_wp2_with (first
              | (refine wp_lkK (k := ⟨wHorizon, 0, 0⟩) (r := .tuple #[.int .i64 (p3.2 : Int), .bool true]) rfl (.tmp 43) (.tmp 45) rfl Tryz.underlying86 (by kernel_rfl) rfl rfl M9.out (by rw [H3.out]; rfl) ?_))
            rw [rounds_succ]
            have HALL := hid (show firstFour.all (hasW ks) = true by simp [firstFour, hasW_find, H0.out, H1.out, H2.out, H3.out])
            have HPS := hid (posW_find H2.out)
            have HTD := hid (told_any f.flat wc (fun k => k < w5.heap.size) A3 n3 c3 (L5.out.tree.mono (fun _ h _ => h.2) |>.below BC.out) (fun k hk => Nat.lt_of_lt_of_le hk BC.out.size) (by rw [Fo.flat_topL]; exact HONE.out) (by have := HN3.out; have := HOK.out.2; omega))
            rw [Fo.flat_topL] at HTD
            have HCH := hid (fun (hk : (toldF f.flatL).okM = false) => chk_okm (f := f) HE0.out HS.out HALL.out hk)
            have HCF := hid (fun (hk : (toldF f.flatL).okM = true) => chk_last (f := f) HE0.out HS.out HALL.out hk)
            generalize hCC : toldF f.flatL = C at *
            have HCC := hid hCC
            clear hCC
            obtain ⟨ek, hek⟩ : ∃ ek, okMd ⟨C.nodes, C.slot, C.lead, C.frame, C.window⟩ = ek := ⟨_, rfl⟩
            have HMC := hid (fun w' => mcheck_any ⟨C.nodes, C.slot, C.lead, C.frame, C.window⟩ w')
            rw [hek] at HMC
            have HOM := hid (okm_md C hek)
            clear hek
            by_cases hok : C.okM = true
            · have hez : ek = 0 := by have := HOM.out; rw [hok] at this; simpa using this
              subst hez
              have HV := hid (HCF.out hok)
              have HSX := hid (fun w' (hb : Below wc.heap.size wc w') (pm pf : Nat) (h1 : w'.cell? ⟨pf, 0, none⟩ = some (bfn pm)) (h2 : w'.cell? ⟨pm, 0, none⟩ = some (.int .i64 C.nodes)) =>
                sidx_any f.flat w' (fun k => k < w5.heap.size) A3 n3 c3 xs B _ w3.heap.size pf pm C.nodes (((BC.out.trans (hb.mono BC.out.size)).cell (p := ⟨w3.heap.size, 0, none⟩) hl5.out).trans V5.out) h1 h2 (F5.out.below (BC.out.trans (hb.mono BC.out.size)))
                  ((L5.out.ow.rowP.mono (fun _ h _ => h.2.1)).keep fun k hk _ => (BC.out.trans (hb.mono BC.out.size)).block k hk) ((L5.out.tr.mono (fun _ h _ => h.2.1)).keep fun k hk _ => (BC.out.trans (hb.mono BC.out.size)).block k hk) CP3.out (flat_okS (okA_okS HOK.out.1)) (by rw [Fo.flat_topL]; exact HONE.out) (by have := HN3.out; have := HOK.out.2; omega))
              rw [Fo.flat_topL] at HSX
              obtain ⟨R, hR⟩ : ∃ R : Option Nat, f.flatL.findIdx? (St.beyond C.nodes) = R := ⟨_, rfl⟩
              rw [hR] at HSX HV
              clear hR HCH HCF hok
              cases R with
              | none =>
                go_wp2_with (first
                  | (go_at_call 60; refine (HSX.out w13 BC13.out _ _ Q13.out.c0 P13.out).mono ?_; rintro e w14 ⟨rfl, b14⟩; have B14 := hid (BWC.out.trans ((BC13.out.trans (b14.mono BC13.out.size)).mono BWC.out.size)); simp only [idxZ]; clear b14)
                  | (refine wp_sc (v := bfn w8.heap.size) rfl (.tmp 16) (.tmp 65) rfl rfl rfl rfl rfl (by kernel_rfl) Q12.out ?_; intro w13 q13 b13 o13 s13; have Q13 := hid q13; have B1113 := hid (B1112.out.trans (b13.mono (Nat.le_refl _))); have P13 := hid (show w13.cell? ⟨w8.heap.size, 0, none⟩ = some (.int .i64 C.nodes) from (Q11.out.keep B1113.out).cell (j := 0) rfl); have BC13 := hid (BC11.out.trans (B1113.out.mono BC11.out.size)); clear q13 b13 o13 s13)
                  | (have hk11 := Q11; clear hk11; refine wp_al1 (v := .nilFunc) rfl rfl (by kernel_rfl) rfl ?_; intro w12 q12 b12 s12; have Q12 := hid q12; have B1112 := hid b12; clear q12 b12 s12)
                  | (go_at_call 58; refine (HMC.out w10).mono ?_; rintro e w11 ⟨rfl, b11⟩; have Q11 := hid (Q10.out.keep b11); have BC11 := hid (B10.out.trans (b11.mono B10.out.size)); have B11 := hid (BWC.out.trans (BC11.out.mono BWC.out.size)); clear b11)
                  | (refine Sv.wp_ld mdS rfl (.tmp 14) rfl rfl Q10.out.1 ?_)
                  | (refine Sv.wp_sv mdS (x := ⟨C.nodes, C.slot, C.lead, C.frame, C.window⟩) rfl (.tmp 14) (.tmp 56) rfl rfl (by rfl) Q9.out ?_; intro w10 q10 b10 o10 s10; have Q10 := hid q10; have B810 := hid (B89.out.trans (b10.mono (Nat.le_refl _))); have B10 := hid (B8.out.trans (B810.out.mono B8.out.size)); clear q10 b10 o10 s10)
                  | (refine Sv.wp_al mdS rfl rfl ?_; intro w9 q9 b9 s9; have Q9 := hid q9; have B89 := hid b9; clear q9 b9 s9)
                  | (go_at_call 57; refine HTD.out.mono ?_; rintro e w8 ⟨s8, he8, _, b8⟩; have he9 : e = .returned (.agg #[.int .i64 C.nodes, .int .i64 C.slot, .int .i64 C.lead, .int .i64 C.frame, .int .i64 C.window, .int .i64 C.tick, .int .i64 C.horizon, .slice s8.dA s8.dn s8.dc, .slice s8.pA s8.pn s8.pc, .slice s8.lA s8.ln s8.lc, .bool C.guard]) := he8; subst he9; have B8 := hid b8; clear b8))
                go_ret2
                rw [HV.out]
                exact ⟨rfl, B14.out⟩
              | some q =>
                have hqz : (0 : Int) ≤ (q : Int) := by omega
                go_wp2_with (first
                  | (go_at_call 60; refine (HSX.out w13 BC13.out _ _ Q13.out.c0 P13.out).mono ?_; rintro e w14 ⟨rfl, b14⟩; have B14 := hid (BWC.out.trans ((BC13.out.trans (b14.mono BC13.out.size)).mono BWC.out.size)); simp only [idxZ]; clear b14)
                  | (refine wp_sc (v := bfn w8.heap.size) rfl (.tmp 16) (.tmp 65) rfl rfl rfl rfl rfl (by kernel_rfl) Q12.out ?_; intro w13 q13 b13 o13 s13; have Q13 := hid q13; have B1113 := hid (B1112.out.trans (b13.mono (Nat.le_refl _))); have P13 := hid (show w13.cell? ⟨w8.heap.size, 0, none⟩ = some (.int .i64 C.nodes) from (Q11.out.keep B1113.out).cell (j := 0) rfl); have BC13 := hid (BC11.out.trans (B1113.out.mono BC11.out.size)); clear q13 b13 o13 s13)
                  | (have hk11 := Q11; clear hk11; refine wp_al1 (v := .nilFunc) rfl rfl (by kernel_rfl) rfl ?_; intro w12 q12 b12 s12; have Q12 := hid q12; have B1112 := hid b12; clear q12 b12 s12)
                  | (go_at_call 58; refine (HMC.out w10).mono ?_; rintro e w11 ⟨rfl, b11⟩; have Q11 := hid (Q10.out.keep b11); have BC11 := hid (B10.out.trans (b11.mono B10.out.size)); have B11 := hid (BWC.out.trans (BC11.out.mono BWC.out.size)); clear b11)
                  | (refine Sv.wp_ld mdS rfl (.tmp 14) rfl rfl Q10.out.1 ?_)
                  | (refine Sv.wp_sv mdS (x := ⟨C.nodes, C.slot, C.lead, C.frame, C.window⟩) rfl (.tmp 14) (.tmp 56) rfl rfl (by rfl) Q9.out ?_; intro w10 q10 b10 o10 s10; have Q10 := hid q10; have B810 := hid (B89.out.trans (b10.mono (Nat.le_refl _))); have B10 := hid (B8.out.trans (B810.out.mono B8.out.size)); clear q10 b10 o10 s10)
                  | (refine Sv.wp_al mdS rfl rfl ?_; intro w9 q9 b9 s9; have Q9 := hid q9; have B89 := hid b9; clear q9 b9 s9)
                  | (go_at_call 57; refine HTD.out.mono ?_; rintro e w8 ⟨s8, he8, _, b8⟩; have he9 : e = .returned (.agg #[.int .i64 C.nodes, .int .i64 C.slot, .int .i64 C.lead, .int .i64 C.frame, .int .i64 C.window, .int .i64 C.tick, .int .i64 C.horizon, .slice s8.dA s8.dn s8.dc, .slice s8.pA s8.pn s8.pc, .slice s8.lA s8.ln s8.lc, .bool C.guard]) := he8; subst he9; have B8 := hid b8; clear b8))
                go_ret2
                rw [HV.out]
                exact ⟨rfl, B14.out⟩
            · have hok2 : C.okM = false := by simpa using hok
              have hez : ek = 1 := by have := HOM.out; rw [hok2] at this; simpa using this
              subst hez
              have HV := hid (HCH.out hok2)
              rw [HPS.out] at HV
              clear HCH HCF hok
              go_wp2_with (first
                | (refine wp_lkK (k := ⟨wSlot, 0, 0⟩) (r := .int .i64 (p2.2 : Int)) rfl (.tmp 61) (.tmp 62) rfl Tryz.underlying86 (by kernel_rfl) rfl rfl (M9.out.keep BC11.out) (by rw [H2.out]; rfl) ?_)
                | (go_at_call 58; refine (HMC.out w10).mono ?_; rintro e w11 ⟨rfl, b11⟩; have Q11 := hid (Q10.out.keep b11); have BC11 := hid (B10.out.trans (b11.mono B10.out.size)); have B11 := hid (BWC.out.trans (BC11.out.mono BWC.out.size)); clear b11)
                | (refine Sv.wp_ld mdS rfl (.tmp 14) rfl rfl Q10.out.1 ?_)
                | (refine Sv.wp_sv mdS (x := ⟨C.nodes, C.slot, C.lead, C.frame, C.window⟩) rfl (.tmp 14) (.tmp 56) rfl rfl (by rfl) Q9.out ?_; intro w10 q10 b10 o10 s10; have Q10 := hid q10; have B810 := hid (B89.out.trans (b10.mono (Nat.le_refl _))); have B10 := hid (B8.out.trans (B810.out.mono B8.out.size)); clear q10 b10 o10 s10)
                | (refine Sv.wp_al mdS rfl rfl ?_; intro w9 q9 b9 s9; have Q9 := hid q9; have B89 := hid b9; clear q9 b9 s9)
                | (go_at_call 57; refine HTD.out.mono ?_; rintro e w8 ⟨s8, he8, _, b8⟩; have he9 : e = .returned (.agg #[.int .i64 C.nodes, .int .i64 C.slot, .int .i64 C.lead, .int .i64 C.frame, .int .i64 C.window, .int .i64 C.tick, .int .i64 C.horizon, .slice s8.dA s8.dn s8.dc, .slice s8.pA s8.pn s8.pc, .slice s8.lA s8.ln s8.lc, .bool C.guard]) := he8; subst he9; have B8 := hid b8; clear b8))
              go_ret2
              rw [HV.out]
              exact ⟨rfl, B11.out⟩
theorem chkc_any (f : Fo) (w : World) (K : Nat → Prop) (A : Option Addr) (n c : Nat) (hC : LaidC w) (ht : TrS w K A n f) (hK : ∀ k, K k → k < w.heap.size) (hP : ChkAt f (.slice A n c) w) :
    Calls Tryz.prog 25 #[.slice A n c] w fun e w' => e = .returned (.tuple #[.int .i64 ((chkF f).1 : Nat), .int .i64 ((chkF f).2 : Nat)]) ∧ Below w.heap.size w w' := by
  rcases chk_one f with h0 | h1
  · cases hS : standF f.stL 0 [] with
    | bad p er =>
      rw [chkF_stand h0 hS]
      exact chkc_bad f w K A n c hC ht hK hP h0 p er (stand_bad hS).1 hS
    | ok ks => exact chkc_ok f w K A n c hC ht hK hP h0 ks hS
  · rw [chkF_arg (by omega), h1]
    exact chkc_arg f w A n c hP h1
end Go.Proofs.YtpkoboohnbkpoaaGreatDoor
