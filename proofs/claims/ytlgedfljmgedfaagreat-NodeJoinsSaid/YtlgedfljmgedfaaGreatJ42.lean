/-
  Texts PB of this seat, as far as they are used.
-/
import Derived.Test.YtlgedfljmgedfaaGreatJ41
namespace Go.Proofs.YtlgedfljmgedfaaGreat
open Go Go.RowKit
open M10 (hid Md encm mv mz Oth range_keep there_keep range_other there_other setCells_oth setCells_size there_set Ty enct tv tz Fr encf fv fz)
open O6 (Oc enco ov oz)
open T9 (sv)
/-! ### Hear -/
def mayB (now began : Int) : Bool := timeB now && (decide (0 ≤ began) && decide (began ≤ now))
theorem mayB_of {now began : Int} (h : mayB now began = true) : 0 ≤ began ∧ began ≤ now ∧ now ≤ 1152921504606846976 := by
  unfold mayB at h
  simp only [Bool.and_eq_true, decide_eq_true_eq] at h
  exact ⟨h.2.1, h.2.2, (timeB_of h.1).2⟩
set_option maxRecDepth 100000 in
set_option maxHeartbeats 4000000 in
theorem hearF_t (x : Nd) (m : Md) (A Ab : Option Addr) (n c BB nb kb Bb : Nat) (now began : Int) (bs : List Nat) (bad : Bool) (w : World) (hr : T9.Row w BB A n (sv x.dv)) (hB : BB ≤ w.heap.size) (hn : n ≤ 100) (s0 : 0 ≤ x.sl) (mb : x.mb < 65536)
    (hb : F8.Row w Bb Ab nb (F8.bv bs)) (hBb : Bb ≤ w.heap.size) (ho : F8.Oct bs) (hnc : nb ≤ kb) (hn5 : nb ≤ 1048579) (ht : timeB now = true) :
    Calls Tryz.prog 16 #[mv m, nv x A n c, .int .i64 now, .int .i64 began, .slice Ab nb kb, .bool bad] w (RetD w.heap.size (outN (mayB now began = true ∧ nodeOk m x) x (heaN m x now began bs bad) (heaE m x now began bs bad)) (outL (mayB now began = true ∧ nodeOk m x) (heaL m x now began bs bad) (heaE m x now began bs bad)) (outE (mayB now began = true ∧ nodeOk m x) (heaE m x now began bs bad)) (outQ (mayB now began = true ∧ nodeOk m x) x (heaE m x now began bs bad) ∧ ¬ (mayB now began = true ∧ nodeOk m x ∧ ¬ (heaE m x now began bs bad) = 0)) (outQ (mayB now began = true ∧ nodeOk m x) x (heaE m x now began bs bad)) w) := by
  have HM := hid (fun (w : World) => by have hf := isTime_any now w; rw [ht] at hf; exact hf)
  have HW := hid (fun (w : World) => within_46 began 0 now _ rfl w)
  have HD : Hid (∀ (cb cd cn cg : Nat) (w1 : World), Below w.heap.size w w1 → w1.cell? ⟨cb, 0, none⟩ = some (.slice Ab nb kb) → w1.cell? ⟨cd, 0, none⟩ = some (.bool bad) → w1.cell? ⟨cn, 0, none⟩ = some (.int .i64 now) → w1.cell? ⟨cg, 0, none⟩ = some (.int .i64 began) → Calls Tryz.prog 29 #[mv m, nv x A n c, .bool (mayB now began), .func (.func 47) #[] #[.pointer (some ⟨cb, 0, none⟩), .pointer (some ⟨cd, 0, none⟩), .pointer (some ⟨cn, 0, none⟩), .pointer (some ⟨cg, 0, none⟩)]] w1 fun e w' => ∃ v, e = .returned v ∧ RD w1.heap.size (outN (mayB now began = true ∧ nodeOk m x) x (heaN m x now began bs bad) (heaE m x now began bs bad)) (outL (mayB now began = true ∧ nodeOk m x) (heaL m x now began bs bad) (heaE m x now began bs bad)) (outE (mayB now began = true ∧ nodeOk m x) (heaE m x now began bs bad)) (outQ (mayB now began = true ∧ nodeOk m x) x (heaE m x now began bs bad) ∧ ¬ (mayB now began = true ∧ nodeOk m x ∧ ¬ (heaE m x now began bs bad) = 0)) (outQ (mayB now began = true ∧ nodeOk m x) x (heaE m x now began bs bad)) w1 v w') := hid (fun cb cd cn cg w1 k hcb hcd hcn hcg => RetD.named (do47_any x m A n c BB (mayB now began) cb cd cn cg (heaN m x now began bs bad) (heaL m x now began bs bad) (heaE m x now began bs bad) w1 (hr.below (k.mono hB)) (Nat.le_trans hB k.size) hn (fun hm hk K base g w2 hw hK hkb => hear_c K base g cb cd cn cg x m now began Ab nb kb Bb bs bad w2 hw (ok_of hk s0 mb) ((hkb.cell (World.block_lt_of_cell? w1 _ hcb)).trans hcb) ((hkb.cell (World.block_lt_of_cell? w1 _ hcd)).trans hcd) ((hkb.cell (World.block_lt_of_cell? w1 _ hcn)).trans hcn) ((hkb.cell (World.block_lt_of_cell? w1 _ hcg)).trans hcg) ((hb.below (k.mono hBb)).below (hkb.mono (Nat.le_trans hBb k.size))) (Nat.le_trans hBb (Nat.le_trans k.size hkb.size)) ho hnc hn5 (mayB_of hm).1 (mayB_of hm).2.1 (mayB_of hm).2.2)))
  have hq : Hid (outQ (mayB now began = true ∧ nodeOk m x) x (heaE m x now began bs bad) → (outQ (mayB now began = true ∧ nodeOk m x) x (heaE m x now began bs bad) ∧ ¬ (mayB now began = true ∧ nodeOk m x ∧ ¬ (heaE m x now began bs bad) = 0)) ∨ (outN (mayB now began = true ∧ nodeOk m x) x (heaN m x now began bs bad) (heaE m x now began bs bad)).dv = []) := hid (fun h => by
    by_cases hh : mayB now began = true ∧ nodeOk m x ∧ ¬ (heaE m x now began bs bad) = 0
    · refine .inr ?_
      unfold outN
      rw [if_pos ⟨hh.1, hh.2.1⟩, if_neg hh.2.2]
      rcases h with h | h | h
      · exact absurd ⟨hh.1, hh.2.1⟩ h
      · exact absurd h hh.2.2
      · exact h
    · exact .inl ⟨h, hh⟩)
  clear hr hB hn s0 mb hb hBb ho hnc hn5
  generalize outN (mayB now began = true ∧ nodeOk m x) x (heaN m x now began bs bad) (heaE m x now began bs bad) = yN at *
  generalize outL (mayB now began = true ∧ nodeOk m x) (heaL m x now began bs bad) (heaE m x now began bs bad) = yL at *
  generalize outE (mayB now began = true ∧ nodeOk m x) (heaE m x now began bs bad) = yE at *
  generalize (outQ (mayB now began = true ∧ nodeOk m x) x (heaE m x now began bs bad) ∧ ¬ (mayB now began = true ∧ nodeOk m x ∧ ¬ (heaE m x now began bs bad) = 0)) = q at *
  generalize outQ (mayB now began = true ∧ nodeOk m x) x (heaE m x now began bs bad) = r at *
  have hmay : mayB now began = (decide (0 ≤ began) && decide (began ≤ now)) := by unfold mayB; rw [ht]; rfl
  rw [hmay] at HD
  clear hmay ht
  generalize (decide (0 ≤ began) && decide (began ≤ now)) = wb at *
  go_enter Tryz.func16, Tryz.ntmps16
  go_wp2_with (first
    | (refine wpList_galloc 32 (encn nz none 0 0) zero32 rfl rfl ?_; intro w7 v7 b7 s7; have V1 := hid ((((((v1.below b2 l1).below b3 (Nat.lt_of_lt_of_le l1 b2.size)).below b4 (Nat.lt_of_lt_of_le (Nat.lt_of_lt_of_le l1 b2.size) b3.size)).below b5 (Nat.lt_of_lt_of_le (Nat.lt_of_lt_of_le (Nat.lt_of_lt_of_le l1 b2.size) b3.size) b4.size)).below b6 (Nat.lt_of_lt_of_le (Nat.lt_of_lt_of_le (Nat.lt_of_lt_of_le (Nat.lt_of_lt_of_le l1 b2.size) b3.size) b4.size) b5.size)).below b7 (Nat.lt_of_lt_of_le (Nat.lt_of_lt_of_le (Nat.lt_of_lt_of_le (Nat.lt_of_lt_of_le (Nat.lt_of_lt_of_le l1 b2.size) b3.size) b4.size) b5.size) b6.size)); have V2 := hid (((((v2.below b3 l2).below b4 (Nat.lt_of_lt_of_le l2 b3.size)).below b5 (Nat.lt_of_lt_of_le (Nat.lt_of_lt_of_le l2 b3.size) b4.size)).below b6 (Nat.lt_of_lt_of_le (Nat.lt_of_lt_of_le (Nat.lt_of_lt_of_le l2 b3.size) b4.size) b5.size)).below b7 (Nat.lt_of_lt_of_le (Nat.lt_of_lt_of_le (Nat.lt_of_lt_of_le (Nat.lt_of_lt_of_le l2 b3.size) b4.size) b5.size) b6.size)); have V3 := hid ((((v3.below b4 l3).below b5 (Nat.lt_of_lt_of_le l3 b4.size)).below b6 (Nat.lt_of_lt_of_le (Nat.lt_of_lt_of_le l3 b4.size) b5.size)).below b7 (Nat.lt_of_lt_of_le (Nat.lt_of_lt_of_le (Nat.lt_of_lt_of_le l3 b4.size) b5.size) b6.size)); have V4 := hid (((v4.below b5 l4).below b6 (Nat.lt_of_lt_of_le l4 b5.size)).below b7 (Nat.lt_of_lt_of_le (Nat.lt_of_lt_of_le l4 b5.size) b6.size)); have V5 := hid ((v5.below b6 l5).below b7 (Nat.lt_of_lt_of_le l5 b6.size)); have V6 := hid (v6.below b7 l6); have V7 := hid v7; have B7 := hid ((((((b1.trans (b2.mono b1.size)).trans (b3.mono (Nat.le_trans b1.size b2.size))).trans (b4.mono (Nat.le_trans (Nat.le_trans b1.size b2.size) b3.size))).trans (b5.mono (Nat.le_trans (Nat.le_trans (Nat.le_trans b1.size b2.size) b3.size) b4.size))).trans (b6.mono (Nat.le_trans (Nat.le_trans (Nat.le_trans (Nat.le_trans b1.size b2.size) b3.size) b4.size) b5.size))).trans (b7.mono (Nat.le_trans (Nat.le_trans (Nat.le_trans (Nat.le_trans (Nat.le_trans b1.size b2.size) b3.size) b4.size) b5.size) b6.size))); have D7 : Hid (w.heap.size < w6.heap.size ∧ w1.heap.size < w6.heap.size ∧ w2.heap.size < w6.heap.size ∧ w3.heap.size < w6.heap.size ∧ w4.heap.size < w6.heap.size ∧ w5.heap.size < w6.heap.size ∧ w6.heap.size < w7.heap.size) := hid ⟨(Nat.lt_of_lt_of_le (Nat.lt_of_lt_of_le (Nat.lt_of_lt_of_le (Nat.lt_of_lt_of_le (Nat.lt_of_lt_of_le l1 b2.size) b3.size) b4.size) b5.size) b6.size), (Nat.lt_of_lt_of_le (Nat.lt_of_lt_of_le (Nat.lt_of_lt_of_le (Nat.lt_of_lt_of_le l2 b3.size) b4.size) b5.size) b6.size), (Nat.lt_of_lt_of_le (Nat.lt_of_lt_of_le (Nat.lt_of_lt_of_le l3 b4.size) b5.size) b6.size), (Nat.lt_of_lt_of_le (Nat.lt_of_lt_of_le l4 b5.size) b6.size), (Nat.lt_of_lt_of_le l5 b6.size), l6, v7.lt (by show 0 < 14; omega)⟩; clear v1 b1 s1 v2 b2 s2 v3 b3 s3 v4 b4 s4 v5 b5 s5 v6 b6 s6 v7 b7 s7 l1 l2 l3 l4 l5 l6)
    | (refine wpList_gbox 4 ([.bool bad]) rfl (.tmp 5) rfl rfl ?_; intro w6 v6 b6 s6; have l6 := v6.lt (by show 0 < 1; omega))
    | (refine wpList_gbox 33 ([.slice Ab nb kb]) rfl (.tmp 4) rfl rfl ?_; intro w5 v5 b5 s5; have l5 := v5.lt (by show 0 < 1; omega))
    | (refine wpList_gbox 2 ([.int .i64 began]) rfl (.tmp 3) rfl rfl ?_; intro w4 v4 b4 s4; have l4 := v4.lt (by show 0 < 1; omega))
    | (refine wpList_gbox 2 ([.int .i64 now]) rfl (.tmp 2) rfl rfl ?_; intro w3 v3 b3 s3; have l3 := v3.lt (by show 0 < 1; omega))
    | (refine wpList_gbox 32 (encn x A n c) rfl (.tmp 1) rfl rfl ?_; intro w2 v2 b2 s2; have l2 := v2.lt (by show 0 < 14; omega))
    | (refine wpList_gbox 23 (encm m) rfl (.tmp 0) rfl rfl ?_; intro w1 v1 b1 s1; have l1 := v1.lt (by show 0 < 5; omega)))
  generalize w1.heap.size = h2 at *
  generalize w2.heap.size = h3 at *
  generalize w3.heap.size = h4 at *
  generalize w4.heap.size = h5 at *
  generalize w5.heap.size = h6 at *
  have B8 := hid B7.out.drew
  have S1 : Var w7.drew w.heap.size (encm m) ∧ Var w7.drew h2 (encn x A n c) ∧ Var w7.drew h3 ([.int .i64 now]) ∧ Var w7.drew h4 ([.int .i64 began]) ∧ Var w7.drew h5 ([.slice Ab nb kb]) ∧ Var w7.drew h6 ([.bool bad]) := ⟨V1.out.drew, V2.out.drew, V3.out.drew, V4.out.drew, V5.out.drew, V6.out.drew⟩
  have V7d := hid V7.out.drew
  refine wp_region_held_drew (S := fun w' => Var w' w.heap.size (encm m) ∧ Var w' h2 (encn x A n c) ∧ Var w' h3 ([.int .i64 now]) ∧ Var w' h4 ([.int .i64 began]) ∧ Var w' h5 ([.slice Ab nb kb]) ∧ Var w' h6 ([.bool bad])) (by kernel_rfl) S1 (fun _ => ?_)
  refine tk 0 (some 15) (mv m) rfl rfl (by kernel_rfl) (by kernel_rfl) (by kernel_rfl) (fun _ _ _ h => h) (yls 23 (encm m) rfl rfl (fun w h => h.1.1) Tryz.underlying23 rfl size23 rfl) S1 ?_
  simp only [Act.put, List.setIfInBounds_toArray, List.set_cons_zero, List.set_cons_succ]
  refine tk 1 (some 16) (nv x A n c) rfl rfl (by kernel_rfl) (by kernel_rfl) (by kernel_rfl) (fun _ _ _ h => h) (yls 32 (encn x A n c) rfl rfl (fun w h => h.2.1.1) Tryz.underlying32 rfl size32 rfl) S1 ?_
  simp only [Act.put, List.setIfInBounds_toArray, List.set_cons_zero, List.set_cons_succ]
  refine tk 2 (some 17) (.int .i64 now) rfl rfl (by kernel_rfl) (by kernel_rfl) (by kernel_rfl) (fun _ _ _ h => h) (yl1 2 (p := ⟨h3, 0, none⟩) (v := .int .i64 now) rfl rfl Tryz.isAgg2 (fun w h => h.2.2.1.cell rfl) rfl) S1 ?_
  simp only [Act.put, List.setIfInBounds_toArray, List.set_cons_zero, List.set_cons_succ]
  refine tk 9 (some 24) (.func (.func 47) #[] #[.pointer (some ⟨h5, 0, none⟩), .pointer (some ⟨h6, 0, none⟩), .pointer (some ⟨h3, 0, none⟩), .pointer (some ⟨h4, 0, none⟩)]) rfl rfl (by kernel_rfl) (by kernel_rfl) (by kernel_rfl) (fun _ _ _ h => h) (.inl ⟨by rfl, fun _ _ => by unfold execOp; simp [go_sem] <;> rfl⟩) S1 ?_
  simp only [Act.put, List.setIfInBounds_toArray, List.set_cons_zero, List.set_cons_succ]
  refine rd_cl 3 (some 18) 30 #[.int .i64 now] _ (by kernel_rfl) rfl rfl (by unfold execOp; simp [go_sem] <;> rfl) (HM.out _) rfl ?_
  intro wq hwq
  subst hwq
  refine ⟨S1, ?_⟩
  simp only [Act.put, List.setIfInBounds_toArray, List.set_cons_zero, List.set_cons_succ]
  refine tk 4 (some 19) (.bool true) rfl rfl (by kernel_rfl) (by kernel_rfl) (by kernel_rfl) (fun _ _ _ h => h) (.inl ⟨by rfl, fun _ _ => by go_simp⟩) S1 ?_
  simp only [Act.put, List.setIfInBounds_toArray, List.set_cons_zero, List.set_cons_succ]
  refine tk 5 (some 20) (.int .i64 began) rfl rfl (by kernel_rfl) (by kernel_rfl) (by kernel_rfl) (fun _ _ _ h => h) (yl1 2 (p := ⟨h4, 0, none⟩) (v := .int .i64 began) rfl rfl Tryz.isAgg2 (fun w h => h.2.2.2.1.cell rfl) rfl) S1 ?_
  simp only [Act.put, List.setIfInBounds_toArray, List.set_cons_zero, List.set_cons_succ]
  refine tk 6 (some 21) (.int .i64 now) rfl rfl (by kernel_rfl) (by kernel_rfl) (by kernel_rfl) (fun _ _ _ h => h) (yl1 2 (p := ⟨h3, 0, none⟩) (v := .int .i64 now) rfl rfl Tryz.isAgg2 (fun w h => h.2.2.1.cell rfl) rfl) S1 ?_
  simp only [Act.put, List.setIfInBounds_toArray, List.set_cons_zero, List.set_cons_succ]
  refine rd_cl 7 (some 22) 46 #[.int .i64 began, .int .i64 0, .int .i64 now] _ (by kernel_rfl) rfl rfl (by unfold execOp; simp [go_sem] <;> rfl) (HW.out _) rfl ?_
  intro wq hwq
  subst hwq
  refine ⟨S1, ?_⟩
  simp only [Act.put, List.setIfInBounds_toArray, List.set_cons_zero, List.set_cons_succ]
  refine tk 8 (some 23) (.bool wb) rfl rfl (by kernel_rfl) (by kernel_rfl) (by kernel_rfl) (fun _ _ _ h => h) (.inl ⟨by rfl, fun _ _ => by go_simp⟩) S1 ?_
  simp only [Act.put, List.setIfInBounds_toArray, List.set_cons_zero, List.set_cons_succ]
  refine rd_cle 10 (some 25) 29 #[mv m, nv x A n c, .bool wb, .func (.func 47) #[] #[.pointer (some ⟨h5, 0, none⟩), .pointer (some ⟨h6, 0, none⟩), .pointer (some ⟨h3, 0, none⟩), .pointer (some ⟨h4, 0, none⟩)]] (by kernel_rfl) rfl rfl (by unfold execOp; simp [go_sem] <;> rfl) (HD.out h5 h6 h3 h4 _ B8.out V5.out.drew.one V6.out.drew.one V3.out.drew.one V4.out.drew.one) rfl ?_
  rintro v w9 ⟨A6, n6, c6, B, k, d, rfl, hl6, hq6, hr6, ha6, b9⟩
  have S9 : Var w9 w.heap.size (encm m) ∧ Var w9 h2 (encn x A n c) ∧ Var w9 h3 ([.int .i64 now]) ∧ Var w9 h4 ([.int .i64 began]) ∧ Var w9 h5 ([.slice Ab nb kb]) ∧ Var w9 h6 ([.bool bad]) := ⟨V1.out.drew.below b9 (V1.out.drew.lt (by show 0 < 5; omega)), V2.out.drew.below b9 (V2.out.drew.lt (by show 0 < 14; omega)), V3.out.drew.below b9 (V3.out.drew.lt (by show 0 < 1; omega)), V4.out.drew.below b9 (V4.out.drew.lt (by show 0 < 1; omega)), V5.out.drew.below b9 (V5.out.drew.lt (by show 0 < 1; omega)), V6.out.drew.below b9 (V6.out.drew.lt (by show 0 < 1; omega))⟩
  have V9 := V7d.out.below b9 (V7d.out.lt (by show 0 < 14; omega))
  have g67 : w6.heap.size < w7.heap.size := D7.out.2.2.2.2.2.2
  refine ⟨S9, ?_⟩
  simp only [Act.put, List.setIfInBounds_toArray, List.set_cons_zero, List.set_cons_succ]
  refine tk 11 (some 26) (nv yN A6 n6 c6) rfl rfl (by kernel_rfl) (by kernel_rfl) (by kernel_rfl) (fun _ _ _ h => h) (.inl ⟨by rfl, fun _ _ => by go_simp⟩) S9 ?_
  simp only [Act.put, List.setIfInBounds_toArray, List.set_cons_zero, List.set_cons_succ]
  refine tk 12 (some 27) (.slice B k d) rfl rfl (by kernel_rfl) (by kernel_rfl) (by kernel_rfl) (fun _ _ _ h => h) (.inl ⟨by rfl, fun _ _ => by go_simp⟩) S9 ?_
  simp only [Act.put, List.setIfInBounds_toArray, List.set_cons_zero, List.set_cons_succ]
  refine tk 13 (some 28) (.int .i64 yE) rfl rfl (by kernel_rfl) (by kernel_rfl) (by kernel_rfl) (fun _ _ _ h => h) (.inl ⟨by rfl, fun _ _ => by go_simp⟩) S9 ?_
  simp only [Act.put, List.setIfInBounds_toArray, List.set_cons_zero, List.set_cons_succ]
  refine rd_gst 14 0 (encn yN A6 n6 c6) 32 (by kernel_rfl) rfl rfl rfl rfl rfl V9 (by show 0 + 14 ≤ 14; omega) size32 (encn_one _ _ _ _) rfl ?_
  intro w10 v10 b10 o10 s10
  have V10 : Var w10 w6.heap.size (encn yN A6 n6 c6) := v10
  have S10 : Var w10 w.heap.size (encm m) ∧ Var w10 h2 (encn x A n c) ∧ Var w10 h3 ([.int .i64 now]) ∧ Var w10 h4 ([.int .i64 began]) ∧ Var w10 h5 ([.slice Ab nb kb]) ∧ Var w10 h6 ([.bool bad]) := ⟨S9.1.other o10 (by have := D7.out; omega), S9.2.1.other o10 (by have := D7.out; omega), S9.2.2.1.other o10 (by have := D7.out; omega), S9.2.2.2.1.other o10 (by have := D7.out; omega), S9.2.2.2.2.1.other o10 (by have := D7.out; omega), S9.2.2.2.2.2.other o10 (by have := D7.out; omega)⟩
  refine ⟨S10, ?_⟩
  refine tk 15 (some 13) (.slice B k d) rfl rfl (by kernel_rfl) (by kernel_rfl) (by kernel_rfl) (fun _ _ _ h => h) (.inl ⟨by rfl, fun _ _ => by go_simp⟩) S10 ?_
  simp only [Act.put, List.setIfInBounds_toArray, List.set_cons_zero, List.set_cons_succ]
  refine tk 16 (some 14) (.int .i64 yE) rfl rfl (by kernel_rfl) (by kernel_rfl) (by kernel_rfl) (fun _ _ _ h => h) (.inl ⟨by rfl, fun _ _ => by go_simp⟩) S10 ?_
  simp only [Act.put, List.setIfInBounds_toArray, List.set_cons_zero, List.set_cons_succ]
  refine wpAnyH_done (by kernel_rfl) ?_ _
  have hq7 : q → OwnR w10 w.heap.size 2 1 A6 n6 c6 (sv yN.dv) := fun h => ((hq6 h).oth o10 (fun e => by have := ((hq6 h).lt e).1; have : w7.drew.heap.size = w7.heap.size := rfl; omega)).base_le B8.out.size
  have ha7 : OwnR w10 w.heap.size 66 8 B k d (flat yL) := (ha6.oth o10 (fun e => by have := (ha6.lt e).1; have : w7.drew.heap.size = w7.heap.size := rfl; omega)).base_le B8.out.size
  have P7 := hid (And.intro V10 (And.intro hq7 (And.intro ha7 ((B8.out.trans (b9.mono B8.out.size)).trans (b10.mono (by have := D7.out; omega))))))
  have HL := hid hl6
  clear V10 hq7 ha7 S9 S10 V9 v10 b10 o10 s10 b9 hq6 hr6 ha6 hl6 S1 V1 V2 V3 V4 V5 V6 V7 V7d B7 B8 HM HD g67
  go_wp2_with fail
  obtain ⟨V7, hq7, ha7, B7⟩ := P7.out
  refine bodyPost_ret (results_ctt (cs := encn yN A6 n6 c6) Tryz.results16 _ rfl V7.1 rfl) rfl ?_
  refine ⟨A6, n6, c6, B, k, d, rfl, HL.out, hq7, fun h => ?_, ha7, B7⟩
  rcases hq.out h with h | h
  · exact T9.Own.row (hq7 h)
  · rw [h] at HL ⊢
    rw [HL.out]
    exact T9.Row.nil _ _ _
set_option maxRecDepth 100000 in
set_option maxHeartbeats 4000000 in
theorem hearF_f (x : Nd) (m : Md) (A Ab : Option Addr) (n c BB nb kb Bb : Nat) (now began : Int) (bs : List Nat) (bad : Bool) (w : World) (hr : T9.Row w BB A n (sv x.dv)) (hB : BB ≤ w.heap.size) (hn : n ≤ 100) (s0 : 0 ≤ x.sl) (mb : x.mb < 65536)
    (hb : F8.Row w Bb Ab nb (F8.bv bs)) (hBb : Bb ≤ w.heap.size) (ho : F8.Oct bs) (hnc : nb ≤ kb) (hn5 : nb ≤ 1048579) (ht : timeB now = false) :
    Calls Tryz.prog 16 #[mv m, nv x A n c, .int .i64 now, .int .i64 began, .slice Ab nb kb, .bool bad] w (RetD w.heap.size (outN (mayB now began = true ∧ nodeOk m x) x (heaN m x now began bs bad) (heaE m x now began bs bad)) (outL (mayB now began = true ∧ nodeOk m x) (heaL m x now began bs bad) (heaE m x now began bs bad)) (outE (mayB now began = true ∧ nodeOk m x) (heaE m x now began bs bad)) (outQ (mayB now began = true ∧ nodeOk m x) x (heaE m x now began bs bad) ∧ ¬ (mayB now began = true ∧ nodeOk m x ∧ ¬ (heaE m x now began bs bad) = 0)) (outQ (mayB now began = true ∧ nodeOk m x) x (heaE m x now began bs bad)) w) := by
  have HM := hid (fun (w : World) => by have hf := isTime_any now w; rw [ht] at hf; exact hf)
  have HW := hid (fun (w : World) => within_46 began 0 now _ rfl w)
  have HD : Hid (∀ (cb cd cn cg : Nat) (w1 : World), Below w.heap.size w w1 → w1.cell? ⟨cb, 0, none⟩ = some (.slice Ab nb kb) → w1.cell? ⟨cd, 0, none⟩ = some (.bool bad) → w1.cell? ⟨cn, 0, none⟩ = some (.int .i64 now) → w1.cell? ⟨cg, 0, none⟩ = some (.int .i64 began) → Calls Tryz.prog 29 #[mv m, nv x A n c, .bool (mayB now began), .func (.func 47) #[] #[.pointer (some ⟨cb, 0, none⟩), .pointer (some ⟨cd, 0, none⟩), .pointer (some ⟨cn, 0, none⟩), .pointer (some ⟨cg, 0, none⟩)]] w1 fun e w' => ∃ v, e = .returned v ∧ RD w1.heap.size (outN (mayB now began = true ∧ nodeOk m x) x (heaN m x now began bs bad) (heaE m x now began bs bad)) (outL (mayB now began = true ∧ nodeOk m x) (heaL m x now began bs bad) (heaE m x now began bs bad)) (outE (mayB now began = true ∧ nodeOk m x) (heaE m x now began bs bad)) (outQ (mayB now began = true ∧ nodeOk m x) x (heaE m x now began bs bad) ∧ ¬ (mayB now began = true ∧ nodeOk m x ∧ ¬ (heaE m x now began bs bad) = 0)) (outQ (mayB now began = true ∧ nodeOk m x) x (heaE m x now began bs bad)) w1 v w') := hid (fun cb cd cn cg w1 k hcb hcd hcn hcg => RetD.named (do47_any x m A n c BB (mayB now began) cb cd cn cg (heaN m x now began bs bad) (heaL m x now began bs bad) (heaE m x now began bs bad) w1 (hr.below (k.mono hB)) (Nat.le_trans hB k.size) hn (fun hm hk K base g w2 hw hK hkb => hear_c K base g cb cd cn cg x m now began Ab nb kb Bb bs bad w2 hw (ok_of hk s0 mb) ((hkb.cell (World.block_lt_of_cell? w1 _ hcb)).trans hcb) ((hkb.cell (World.block_lt_of_cell? w1 _ hcd)).trans hcd) ((hkb.cell (World.block_lt_of_cell? w1 _ hcn)).trans hcn) ((hkb.cell (World.block_lt_of_cell? w1 _ hcg)).trans hcg) ((hb.below (k.mono hBb)).below (hkb.mono (Nat.le_trans hBb k.size))) (Nat.le_trans hBb (Nat.le_trans k.size hkb.size)) ho hnc hn5 (mayB_of hm).1 (mayB_of hm).2.1 (mayB_of hm).2.2)))
  have hq : Hid (outQ (mayB now began = true ∧ nodeOk m x) x (heaE m x now began bs bad) → (outQ (mayB now began = true ∧ nodeOk m x) x (heaE m x now began bs bad) ∧ ¬ (mayB now began = true ∧ nodeOk m x ∧ ¬ (heaE m x now began bs bad) = 0)) ∨ (outN (mayB now began = true ∧ nodeOk m x) x (heaN m x now began bs bad) (heaE m x now began bs bad)).dv = []) := hid (fun h => by
    by_cases hh : mayB now began = true ∧ nodeOk m x ∧ ¬ (heaE m x now began bs bad) = 0
    · refine .inr ?_
      unfold outN
      rw [if_pos ⟨hh.1, hh.2.1⟩, if_neg hh.2.2]
      rcases h with h | h | h
      · exact absurd ⟨hh.1, hh.2.1⟩ h
      · exact absurd h hh.2.2
      · exact h
    · exact .inl ⟨h, hh⟩)
  clear hr hB hn s0 mb hb hBb ho hnc hn5
  generalize outN (mayB now began = true ∧ nodeOk m x) x (heaN m x now began bs bad) (heaE m x now began bs bad) = yN at *
  generalize outL (mayB now began = true ∧ nodeOk m x) (heaL m x now began bs bad) (heaE m x now began bs bad) = yL at *
  generalize outE (mayB now began = true ∧ nodeOk m x) (heaE m x now began bs bad) = yE at *
  generalize (outQ (mayB now began = true ∧ nodeOk m x) x (heaE m x now began bs bad) ∧ ¬ (mayB now began = true ∧ nodeOk m x ∧ ¬ (heaE m x now began bs bad) = 0)) = q at *
  generalize outQ (mayB now began = true ∧ nodeOk m x) x (heaE m x now began bs bad) = r at *
  have hmay : mayB now began = false := by unfold mayB; rw [ht]; rfl
  rw [hmay] at HD
  clear hmay ht
  clear HW
  go_enter Tryz.func16, Tryz.ntmps16
  go_wp2_with (first
    | (refine wpList_galloc 32 (encn nz none 0 0) zero32 rfl rfl ?_; intro w7 v7 b7 s7; have V1 := hid ((((((v1.below b2 l1).below b3 (Nat.lt_of_lt_of_le l1 b2.size)).below b4 (Nat.lt_of_lt_of_le (Nat.lt_of_lt_of_le l1 b2.size) b3.size)).below b5 (Nat.lt_of_lt_of_le (Nat.lt_of_lt_of_le (Nat.lt_of_lt_of_le l1 b2.size) b3.size) b4.size)).below b6 (Nat.lt_of_lt_of_le (Nat.lt_of_lt_of_le (Nat.lt_of_lt_of_le (Nat.lt_of_lt_of_le l1 b2.size) b3.size) b4.size) b5.size)).below b7 (Nat.lt_of_lt_of_le (Nat.lt_of_lt_of_le (Nat.lt_of_lt_of_le (Nat.lt_of_lt_of_le (Nat.lt_of_lt_of_le l1 b2.size) b3.size) b4.size) b5.size) b6.size)); have V2 := hid (((((v2.below b3 l2).below b4 (Nat.lt_of_lt_of_le l2 b3.size)).below b5 (Nat.lt_of_lt_of_le (Nat.lt_of_lt_of_le l2 b3.size) b4.size)).below b6 (Nat.lt_of_lt_of_le (Nat.lt_of_lt_of_le (Nat.lt_of_lt_of_le l2 b3.size) b4.size) b5.size)).below b7 (Nat.lt_of_lt_of_le (Nat.lt_of_lt_of_le (Nat.lt_of_lt_of_le (Nat.lt_of_lt_of_le l2 b3.size) b4.size) b5.size) b6.size)); have V3 := hid ((((v3.below b4 l3).below b5 (Nat.lt_of_lt_of_le l3 b4.size)).below b6 (Nat.lt_of_lt_of_le (Nat.lt_of_lt_of_le l3 b4.size) b5.size)).below b7 (Nat.lt_of_lt_of_le (Nat.lt_of_lt_of_le (Nat.lt_of_lt_of_le l3 b4.size) b5.size) b6.size)); have V4 := hid (((v4.below b5 l4).below b6 (Nat.lt_of_lt_of_le l4 b5.size)).below b7 (Nat.lt_of_lt_of_le (Nat.lt_of_lt_of_le l4 b5.size) b6.size)); have V5 := hid ((v5.below b6 l5).below b7 (Nat.lt_of_lt_of_le l5 b6.size)); have V6 := hid (v6.below b7 l6); have V7 := hid v7; have B7 := hid ((((((b1.trans (b2.mono b1.size)).trans (b3.mono (Nat.le_trans b1.size b2.size))).trans (b4.mono (Nat.le_trans (Nat.le_trans b1.size b2.size) b3.size))).trans (b5.mono (Nat.le_trans (Nat.le_trans (Nat.le_trans b1.size b2.size) b3.size) b4.size))).trans (b6.mono (Nat.le_trans (Nat.le_trans (Nat.le_trans (Nat.le_trans b1.size b2.size) b3.size) b4.size) b5.size))).trans (b7.mono (Nat.le_trans (Nat.le_trans (Nat.le_trans (Nat.le_trans (Nat.le_trans b1.size b2.size) b3.size) b4.size) b5.size) b6.size))); have D7 : Hid (w.heap.size < w6.heap.size ∧ w1.heap.size < w6.heap.size ∧ w2.heap.size < w6.heap.size ∧ w3.heap.size < w6.heap.size ∧ w4.heap.size < w6.heap.size ∧ w5.heap.size < w6.heap.size ∧ w6.heap.size < w7.heap.size) := hid ⟨(Nat.lt_of_lt_of_le (Nat.lt_of_lt_of_le (Nat.lt_of_lt_of_le (Nat.lt_of_lt_of_le (Nat.lt_of_lt_of_le l1 b2.size) b3.size) b4.size) b5.size) b6.size), (Nat.lt_of_lt_of_le (Nat.lt_of_lt_of_le (Nat.lt_of_lt_of_le (Nat.lt_of_lt_of_le l2 b3.size) b4.size) b5.size) b6.size), (Nat.lt_of_lt_of_le (Nat.lt_of_lt_of_le (Nat.lt_of_lt_of_le l3 b4.size) b5.size) b6.size), (Nat.lt_of_lt_of_le (Nat.lt_of_lt_of_le l4 b5.size) b6.size), (Nat.lt_of_lt_of_le l5 b6.size), l6, v7.lt (by show 0 < 14; omega)⟩; clear v1 b1 s1 v2 b2 s2 v3 b3 s3 v4 b4 s4 v5 b5 s5 v6 b6 s6 v7 b7 s7 l1 l2 l3 l4 l5 l6)
    | (refine wpList_gbox 4 ([.bool bad]) rfl (.tmp 5) rfl rfl ?_; intro w6 v6 b6 s6; have l6 := v6.lt (by show 0 < 1; omega))
    | (refine wpList_gbox 33 ([.slice Ab nb kb]) rfl (.tmp 4) rfl rfl ?_; intro w5 v5 b5 s5; have l5 := v5.lt (by show 0 < 1; omega))
    | (refine wpList_gbox 2 ([.int .i64 began]) rfl (.tmp 3) rfl rfl ?_; intro w4 v4 b4 s4; have l4 := v4.lt (by show 0 < 1; omega))
    | (refine wpList_gbox 2 ([.int .i64 now]) rfl (.tmp 2) rfl rfl ?_; intro w3 v3 b3 s3; have l3 := v3.lt (by show 0 < 1; omega))
    | (refine wpList_gbox 32 (encn x A n c) rfl (.tmp 1) rfl rfl ?_; intro w2 v2 b2 s2; have l2 := v2.lt (by show 0 < 14; omega))
    | (refine wpList_gbox 23 (encm m) rfl (.tmp 0) rfl rfl ?_; intro w1 v1 b1 s1; have l1 := v1.lt (by show 0 < 5; omega)))
  generalize w1.heap.size = h2 at *
  generalize w2.heap.size = h3 at *
  generalize w3.heap.size = h4 at *
  generalize w4.heap.size = h5 at *
  generalize w5.heap.size = h6 at *
  have B8 := hid B7.out.drew
  have S1 : Var w7.drew w.heap.size (encm m) ∧ Var w7.drew h2 (encn x A n c) ∧ Var w7.drew h3 ([.int .i64 now]) ∧ Var w7.drew h4 ([.int .i64 began]) ∧ Var w7.drew h5 ([.slice Ab nb kb]) ∧ Var w7.drew h6 ([.bool bad]) := ⟨V1.out.drew, V2.out.drew, V3.out.drew, V4.out.drew, V5.out.drew, V6.out.drew⟩
  have V7d := hid V7.out.drew
  refine wp_region_held_drew (S := fun w' => Var w' w.heap.size (encm m) ∧ Var w' h2 (encn x A n c) ∧ Var w' h3 ([.int .i64 now]) ∧ Var w' h4 ([.int .i64 began]) ∧ Var w' h5 ([.slice Ab nb kb]) ∧ Var w' h6 ([.bool bad])) (by kernel_rfl) S1 (fun _ => ?_)
  refine tk 0 (some 15) (mv m) rfl rfl (by kernel_rfl) (by kernel_rfl) (by kernel_rfl) (fun _ _ _ h => h) (yls 23 (encm m) rfl rfl (fun w h => h.1.1) Tryz.underlying23 rfl size23 rfl) S1 ?_
  simp only [Act.put, List.setIfInBounds_toArray, List.set_cons_zero, List.set_cons_succ]
  refine tk 1 (some 16) (nv x A n c) rfl rfl (by kernel_rfl) (by kernel_rfl) (by kernel_rfl) (fun _ _ _ h => h) (yls 32 (encn x A n c) rfl rfl (fun w h => h.2.1.1) Tryz.underlying32 rfl size32 rfl) S1 ?_
  simp only [Act.put, List.setIfInBounds_toArray, List.set_cons_zero, List.set_cons_succ]
  refine tk 2 (some 17) (.int .i64 now) rfl rfl (by kernel_rfl) (by kernel_rfl) (by kernel_rfl) (fun _ _ _ h => h) (yl1 2 (p := ⟨h3, 0, none⟩) (v := .int .i64 now) rfl rfl Tryz.isAgg2 (fun w h => h.2.2.1.cell rfl) rfl) S1 ?_
  simp only [Act.put, List.setIfInBounds_toArray, List.set_cons_zero, List.set_cons_succ]
  refine tk 9 (some 24) (.func (.func 47) #[] #[.pointer (some ⟨h5, 0, none⟩), .pointer (some ⟨h6, 0, none⟩), .pointer (some ⟨h3, 0, none⟩), .pointer (some ⟨h4, 0, none⟩)]) rfl rfl (by kernel_rfl) (by kernel_rfl) (by kernel_rfl) (fun _ _ _ h => h) (.inl ⟨by rfl, fun _ _ => by unfold execOp; simp [go_sem] <;> rfl⟩) S1 ?_
  simp only [Act.put, List.setIfInBounds_toArray, List.set_cons_zero, List.set_cons_succ]
  refine rd_cl 3 (some 18) 30 #[.int .i64 now] _ (by kernel_rfl) rfl rfl (by unfold execOp; simp [go_sem] <;> rfl) (HM.out _) rfl ?_
  intro wq hwq
  subst hwq
  refine ⟨S1, ?_⟩
  simp only [Act.put, List.setIfInBounds_toArray, List.set_cons_zero, List.set_cons_succ]
  refine tk 4 (some 19) (.bool false) rfl rfl (by kernel_rfl) (by kernel_rfl) (by kernel_rfl) (fun _ _ _ h => h) (.inl ⟨by rfl, fun _ _ => by go_simp⟩) S1 ?_
  simp only [Act.put, List.setIfInBounds_toArray, List.set_cons_zero, List.set_cons_succ]
  refine tk 5 (some 20) (undef) rfl rfl (by kernel_rfl) (by kernel_rfl) (by kernel_rfl) (fun _ _ _ h => h) (.inr ⟨by rfl, rfl⟩) S1 ?_
  simp only [Act.put, List.setIfInBounds_toArray, List.set_cons_zero, List.set_cons_succ]
  refine tk 6 (some 21) (undef) rfl rfl (by kernel_rfl) (by kernel_rfl) (by kernel_rfl) (fun _ _ _ h => h) (.inr ⟨by rfl, rfl⟩) S1 ?_
  simp only [Act.put, List.setIfInBounds_toArray, List.set_cons_zero, List.set_cons_succ]
  refine tk 7 (some 22) (undef) rfl rfl (by kernel_rfl) (by kernel_rfl) (by kernel_rfl) (fun _ _ _ h => h) (.inr ⟨by rfl, rfl⟩) S1 ?_
  simp only [Act.put, List.setIfInBounds_toArray, List.set_cons_zero, List.set_cons_succ]
  refine tk 8 (some 23) (.bool false) rfl rfl (by kernel_rfl) (by kernel_rfl) (by kernel_rfl) (fun _ _ _ h => h) (.inl ⟨by rfl, fun _ _ => by go_simp⟩) S1 ?_
  simp only [Act.put, List.setIfInBounds_toArray, List.set_cons_zero, List.set_cons_succ]
  refine rd_cle 10 (some 25) 29 #[mv m, nv x A n c, .bool false, .func (.func 47) #[] #[.pointer (some ⟨h5, 0, none⟩), .pointer (some ⟨h6, 0, none⟩), .pointer (some ⟨h3, 0, none⟩), .pointer (some ⟨h4, 0, none⟩)]] (by kernel_rfl) rfl rfl (by unfold execOp; simp [go_sem] <;> rfl) (HD.out h5 h6 h3 h4 _ B8.out V5.out.drew.one V6.out.drew.one V3.out.drew.one V4.out.drew.one) rfl ?_
  rintro v w9 ⟨A6, n6, c6, B, k, d, rfl, hl6, hq6, hr6, ha6, b9⟩
  have S9 : Var w9 w.heap.size (encm m) ∧ Var w9 h2 (encn x A n c) ∧ Var w9 h3 ([.int .i64 now]) ∧ Var w9 h4 ([.int .i64 began]) ∧ Var w9 h5 ([.slice Ab nb kb]) ∧ Var w9 h6 ([.bool bad]) := ⟨V1.out.drew.below b9 (V1.out.drew.lt (by show 0 < 5; omega)), V2.out.drew.below b9 (V2.out.drew.lt (by show 0 < 14; omega)), V3.out.drew.below b9 (V3.out.drew.lt (by show 0 < 1; omega)), V4.out.drew.below b9 (V4.out.drew.lt (by show 0 < 1; omega)), V5.out.drew.below b9 (V5.out.drew.lt (by show 0 < 1; omega)), V6.out.drew.below b9 (V6.out.drew.lt (by show 0 < 1; omega))⟩
  have V9 := V7d.out.below b9 (V7d.out.lt (by show 0 < 14; omega))
  have g67 : w6.heap.size < w7.heap.size := D7.out.2.2.2.2.2.2
  refine ⟨S9, ?_⟩
  simp only [Act.put, List.setIfInBounds_toArray, List.set_cons_zero, List.set_cons_succ]
  refine tk 11 (some 26) (nv yN A6 n6 c6) rfl rfl (by kernel_rfl) (by kernel_rfl) (by kernel_rfl) (fun _ _ _ h => h) (.inl ⟨by rfl, fun _ _ => by go_simp⟩) S9 ?_
  simp only [Act.put, List.setIfInBounds_toArray, List.set_cons_zero, List.set_cons_succ]
  refine tk 12 (some 27) (.slice B k d) rfl rfl (by kernel_rfl) (by kernel_rfl) (by kernel_rfl) (fun _ _ _ h => h) (.inl ⟨by rfl, fun _ _ => by go_simp⟩) S9 ?_
  simp only [Act.put, List.setIfInBounds_toArray, List.set_cons_zero, List.set_cons_succ]
  refine tk 13 (some 28) (.int .i64 yE) rfl rfl (by kernel_rfl) (by kernel_rfl) (by kernel_rfl) (fun _ _ _ h => h) (.inl ⟨by rfl, fun _ _ => by go_simp⟩) S9 ?_
  simp only [Act.put, List.setIfInBounds_toArray, List.set_cons_zero, List.set_cons_succ]
  refine rd_gst 14 0 (encn yN A6 n6 c6) 32 (by kernel_rfl) rfl rfl rfl rfl rfl V9 (by show 0 + 14 ≤ 14; omega) size32 (encn_one _ _ _ _) rfl ?_
  intro w10 v10 b10 o10 s10
  have V10 : Var w10 w6.heap.size (encn yN A6 n6 c6) := v10
  have S10 : Var w10 w.heap.size (encm m) ∧ Var w10 h2 (encn x A n c) ∧ Var w10 h3 ([.int .i64 now]) ∧ Var w10 h4 ([.int .i64 began]) ∧ Var w10 h5 ([.slice Ab nb kb]) ∧ Var w10 h6 ([.bool bad]) := ⟨S9.1.other o10 (by have := D7.out; omega), S9.2.1.other o10 (by have := D7.out; omega), S9.2.2.1.other o10 (by have := D7.out; omega), S9.2.2.2.1.other o10 (by have := D7.out; omega), S9.2.2.2.2.1.other o10 (by have := D7.out; omega), S9.2.2.2.2.2.other o10 (by have := D7.out; omega)⟩
  refine ⟨S10, ?_⟩
  refine tk 15 (some 13) (.slice B k d) rfl rfl (by kernel_rfl) (by kernel_rfl) (by kernel_rfl) (fun _ _ _ h => h) (.inl ⟨by rfl, fun _ _ => by go_simp⟩) S10 ?_
  simp only [Act.put, List.setIfInBounds_toArray, List.set_cons_zero, List.set_cons_succ]
  refine tk 16 (some 14) (.int .i64 yE) rfl rfl (by kernel_rfl) (by kernel_rfl) (by kernel_rfl) (fun _ _ _ h => h) (.inl ⟨by rfl, fun _ _ => by go_simp⟩) S10 ?_
  simp only [Act.put, List.setIfInBounds_toArray, List.set_cons_zero, List.set_cons_succ]
  refine wpAnyH_done (by kernel_rfl) ?_ _
  have hq7 : q → OwnR w10 w.heap.size 2 1 A6 n6 c6 (sv yN.dv) := fun h => ((hq6 h).oth o10 (fun e => by have := ((hq6 h).lt e).1; have : w7.drew.heap.size = w7.heap.size := rfl; omega)).base_le B8.out.size
  have ha7 : OwnR w10 w.heap.size 66 8 B k d (flat yL) := (ha6.oth o10 (fun e => by have := (ha6.lt e).1; have : w7.drew.heap.size = w7.heap.size := rfl; omega)).base_le B8.out.size
  have P7 := hid (And.intro V10 (And.intro hq7 (And.intro ha7 ((B8.out.trans (b9.mono B8.out.size)).trans (b10.mono (by have := D7.out; omega))))))
  have HL := hid hl6
  clear V10 hq7 ha7 S9 S10 V9 v10 b10 o10 s10 b9 hq6 hr6 ha6 hl6 S1 V1 V2 V3 V4 V5 V6 V7 V7d B7 B8 HM HD g67
  go_wp2_with fail
  obtain ⟨V7, hq7, ha7, B7⟩ := P7.out
  refine bodyPost_ret (results_ctt (cs := encn yN A6 n6 c6) Tryz.results16 _ rfl V7.1 rfl) rfl ?_
  refine ⟨A6, n6, c6, B, k, d, rfl, HL.out, hq7, fun h => ?_, ha7, B7⟩
  rcases hq.out h with h | h
  · exact T9.Own.row (hq7 h)
  · rw [h] at HL ⊢
    rw [HL.out]
    exact T9.Row.nil _ _ _
theorem hearF_any (x : Nd) (m : Md) (A Ab : Option Addr) (n c BB nb kb Bb : Nat) (now began : Int) (bs : List Nat) (bad : Bool) (w : World) (hr : T9.Row w BB A n (sv x.dv)) (hB : BB ≤ w.heap.size) (hn : n ≤ 100) (s0 : 0 ≤ x.sl) (mb : x.mb < 65536)
    (hb : F8.Row w Bb Ab nb (F8.bv bs)) (hBb : Bb ≤ w.heap.size) (ho : F8.Oct bs) (hnc : nb ≤ kb) (hn5 : nb ≤ 1048579) :
    Calls Tryz.prog 16 #[mv m, nv x A n c, .int .i64 now, .int .i64 began, .slice Ab nb kb, .bool bad] w (RetD w.heap.size (outN (mayB now began = true ∧ nodeOk m x) x (heaN m x now began bs bad) (heaE m x now began bs bad)) (outL (mayB now began = true ∧ nodeOk m x) (heaL m x now began bs bad) (heaE m x now began bs bad)) (outE (mayB now began = true ∧ nodeOk m x) (heaE m x now began bs bad)) (outQ (mayB now began = true ∧ nodeOk m x) x (heaE m x now began bs bad) ∧ ¬ (mayB now began = true ∧ nodeOk m x ∧ ¬ (heaE m x now began bs bad) = 0)) (outQ (mayB now began = true ∧ nodeOk m x) x (heaE m x now began bs bad)) w) := by
  rcases ht : timeB now with _ | _
  · exact hearF_f x m A Ab n c BB nb kb Bb now began bs bad w hr hB hn s0 mb hb hBb ho hnc hn5 ht
  · exact hearF_t x m A Ab n c BB nb kb Bb now began bs bad w hr hB hn s0 mb hb hBb ho hnc hn5 ht
end Go.Proofs.YtlgedfljmgedfaaGreat
