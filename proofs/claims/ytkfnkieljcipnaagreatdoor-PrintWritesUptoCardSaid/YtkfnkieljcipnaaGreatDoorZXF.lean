/-
  Contract of the document's own Line; under no condition but forests of at most 209,715 statements.
-/
import Derived.Test.YtkfnkieljcipnaaGreatDoorZXE
namespace Go.Proofs.YtkfnkieljcipnaaGreatDoor
open Go Go.RowKit Go.Joins

theorem rnum_text (y : Int × Bool) (w : World) (hy : -1000000000000000000 < y.1 ∧ y.1 < 1000000000000000000) :
    Calls Tryz.prog 54 #[.agg #[.int .i64 2, .string ⟨#[]⟩, .int .i64 y.1, .bool y.2]] w fun e w' => e = .returned (.tuple #[.string (bA (numX y.1 y.2)), .int .i64 0]) ∧ Below w.heap.size w w' := by
  have h := rtext_any ⟨2, [], y.1, y.2⟩ w (by simp)
  have e : textR ⟨2, [], y.1, y.2⟩ = .tuple #[.string (bA (numX y.1 y.2)), .int .i64 0] := by
    unfold textR textF
    rw [if_pos ⟨rfl, by simpa [smallI] using hy⟩]
  rw [e] at h
  exact h
set_option maxHeartbeats 2000000 in
set_option maxRecDepth 100000 in
theorem rline_any (x : Sm) (ns : List (Int × Bool)) (y : Fo) (w : World) (K : Nat → Prop) (hns : RwP nmS w K x.nA x.nn ns) (hy : TrS w K x.bA x.bn y) (hK : ∀ k, K k → k < w.heap.size) (hc : OneAt 21 x ns y) :
    Calls Tryz.prog 30 #[smV x] w fun e w' => e = .returned (.tuple #[.string (bA (liT x ns y)), .int .i64 (chkE (oneF x ns y) : Nat)]) ∧ Below w.heap.size w w' := by
  have HC := hid hc
  have HK := hid hK
  have HNS := hid (fun w1 (hb : Below w.heap.size w w1) => hns.below hb)
  have HY := hid (fun w1 (hb : Below w.heap.size w w1) => hy.below hb)
  have HNL := hid hns.1
  clear hc hK hns hy
  rcases chk_01 (oneF x ns y) with h0 | h1
  · obtain ⟨hfit, hT⟩ := li_ok h0
    rw [hT, h0]
    have HC := hid (fun w A c t => by have := HC.out w A c t; rwa [h0] at this)
    have hll := line_len hfit
    obtain ⟨_, hn8, hfar, _⟩ := fit_of hfit
    have HF := hid (And.intro hll (And.intro hn8 (far_of hfar)))
    clear hT h0 hfit hll hn8 hfar
    obtain ⟨xw, xA, xn, xc, xb, xB, xm, xk⟩ := x
    simp only at HNS HY HNL HF ⊢
    have hxn : (xn : Int) ≤ 8 := by have := HF.out.2.1; have := HNL.out; omega
    have HLL := hid (show xw.length + (numsL ns).length ≤ 202 by have := HF.out.1; unfold lineF at this; simp only [List.length_append] at this; omega)
    go_enter Tryz.func30, Tryz.ntmps30
    go_upto_region 1 with (first
      | (refine Sh.wp_box smS (x := ⟨xw, xA, xn, xc, xb, xB, xm, xk⟩) rfl (.tmp 0) rfl rfl ?_; intro w1 v1 b1 s1; have V1 := hid v1; have B1 := hid b1; clear v1 b1 s1))
    have HO := hid (one_tree (x := ⟨xw, xA, xn, xc, xb, xB, xm, xk⟩) (HNS.out w1 B1.out) (HY.out w1 B1.out) (fun k hk => Nat.lt_of_lt_of_le (HK.out k hk) B1.out.size))
    have BA := hid (show Below w.heap.size w (w1.alloc (.cells (smS.enc ⟨xw, xA, xn, xc, xb, xB, xm, xk⟩).toArray smS.T)) from B1.out.alloc B1.out.size _)
    have VA := hid (show smS.Var (w1.alloc (.cells (smS.enc ⟨xw, xA, xn, xc, xb, xB, xm, xk⟩).toArray smS.T)) w.heap.size ⟨xw, xA, xn, xc, xb, xB, xm, xk⟩ from V1.out.keep ((Below.refl _ _).alloc (Nat.le_refl _) _))
    go_upto_region 3 with (first
      | (go_at_call 21; refine (HC.out _ _ _ HO.out).mono ?_; rintro e w2 ⟨rfl, b⟩; have B2 := hid (BA.out.trans (b.mono BA.out.size)); have V2 := hid (VA.out.keep b); clear b)
      | (refine Sh.wp_bs smS rfl (.tmp 9) (x := ⟨xw, xA, xn, xc, xb, xB, xm, xk⟩) rfl rfl ?_)
      | (refine Sh.wp_ld smS rfl (.tmp 1) rfl rfl V1.out.1 ?_))
    have c0 : w2.cell? ⟨w.heap.size, 0, none⟩ = some (.string (strB xw)) := V2.out.cell (j := 0) rfl
    have c1 : w2.cell? ⟨w.heap.size, 1, none⟩ = some (.slice xA xn xc) := V2.out.cell (j := 1) rfl
    clear V1 VA HO BA B1
    go_wp2_with fail
    go_loopw [4, 18] (fun v4 v18 wr => ∃ (i : Nat) (m : List UInt8), v4 = .string (bA m) ∧ v18 = .int .i64 (i : Int) ∧ i ≤ xn ∧ m ++ numsL (ns.drop i) = xw ++ numsL ns ∧ Below w2.heap.size w2 wr) (fun _ v18 _ => xn - (intOf v18).toNat)
    case atStart => exact ⟨0, xw, rfl, rfl, Nat.zero_le _, rfl, Below.refl _ _⟩
    case round =>
      obtain ⟨i, m, rfl, rfl, hi, hm, hbel⟩ := hrel
      have BW := hid hbel
      have HM := hid hm
      by_cases hlt : i < xn
      · have hnl : i < ns.length := by rw [HNL.out]; exact hlt
        obtain ⟨b2, o2, rfl, hb2, hcell⟩ := (HNS.out wr (B2.out.trans (hbel.mono B2.out.size))).size.at_ hlt
        have HD := hid (numsL_drop hnl)
        have HIN := hid (HF.out.2.2 _ (List.mem_of_getElem? (Sh.nth_get nmS hnl)))
        generalize nmS.nth ns i = z at *
        obtain ⟨z1, z2⟩ := z
        simp only at HIN HD
        have HTX := hid (fun wx => rnum_text (z1, z2) wx HIN.out)
        have hml : m.length + (32 :: numX z1 z2).length ≤ 202 := by
          have e := congrArg List.length hm
          rw [HD.out] at e
          simp only [List.length_append] at e
          have := HLL.out
          omega
        obtain ⟨zt, hzt⟩ : ∃ zt : Nat, (bA (numX z1 z2)).size = zt := ⟨_, rfl⟩
        obtain ⟨zm, hzm⟩ : ∃ zm : Nat, (bA m).size = zm := ⟨_, rfl⟩
        have hz1 : (zt : Int) ≤ 202 := by rw [bA_size] at hzt; simp only [List.length_cons] at hml; omega
        have hz2 : (zm : Int) ≤ 202 := by rw [bA_size] at hzm; omega
        have n1 : ¬ (9223372036854775807 : Int) < 1 + (zt : Int) := by omega
        have n2 : ¬ (9223372036854775807 : Int) < (zm : Int) + (1 + (zt : Int)) := by omega
        have HE := hid (show bA m ++ (⟨#[32]⟩ ++ bA (numX z1 z2)) = bA (m ++ 32 :: numX z1 z2) by rw [bA_app]; congr 1)
        have r1 : wr.rangeAt b2 (o2 + i * 2) (nmS.enc (z1, z2)) := hcell
        clear hcell hm hb2 hbel hnl hml
        go_upto_region 7 with (first
          | (refine Sh.wp_sv nmS (x := (z1, z2)) rfl (.tmp 6) (.tmp 21) rfl rfl (by rfl) q5 ?_; intro w6 q6 b6 o6 s6; have d0 : w6.cell? ⟨wr.heap.size, 0, none⟩ = some (.int .i64 z1) := q6.cell (j := 0) rfl; have d1 : w6.cell? ⟨wr.heap.size, 1, none⟩ = some (.bool z2) := q6.cell (j := 1) rfl; have B6 := hid (BW.out.trans ((B5.out.trans (b6.mono (Nat.le_refl _))).mono BW.out.size)); clear q6 b6 o6 s6 q5)
          | (refine Sh.wp_al nmS rfl rfl ?_; intro w5 q5 b5 s5; have B5 := hid b5; clear b5 s5)
          | (refine Sh.wp_ld nmS rfl (.tmp 20) rfl rfl r1 ?_))
        go_wp2_with (go_at_call 54; refine (HTX.out w6).mono ?_; rintro e w7 ⟨rfl, b⟩; have B7 := hid (B6.out.trans (b.mono B6.out.size)); clear b)
        go_roundw
        case rel => exact ⟨i + 1, m ++ 32 :: numX z1 z2, by rw [← HE.out], by go_num, by omega, by rw [← HM.out, HD.out]; simp, B7.out⟩
        case measure => simp [intOf]; omega
      · obtain rfl : i = xn := by omega
        have c2 : wr.cell? ⟨w.heap.size, 2, none⟩ = some (.bool xb) := (V2.out.keep hbel).cell (j := 2) rfl
        have hm2 : m = xw ++ numsL ns := by
          rw [List.drop_eq_nil_of_le (by rw [HNL.out]; exact Nat.le_refl _)] at hm
          simpa [numsL] using hm
        obtain ⟨zm, hzm⟩ : ∃ zm : Nat, (bA m).size = zm := ⟨_, rfl⟩
        have hz2 : (zm : Int) ≤ 202 := by rw [bA_size, hm2] at hzm; have := HLL.out; simp only [List.length_append] at hzm; omega
        have HE := hid (show bA m ++ bA (tailL xb) = bA (lineF xw ns xb) by rw [← bA_app, hm2]; unfold lineF; simp)
        clear hm hbel hm2 HM
        cases xb
        · have n1 : ¬ (9223372036854775807 : Int) < (zm : Int) + 1 := by omega
          go_wp2_with fail
          go_ret2
          exact ⟨by rw [← HE.out]; rfl, B2.out.trans (BW.out.mono B2.out.size)⟩
        · have n1 : ¬ (9223372036854775807 : Int) < (zm : Int) + 2 := by omega
          go_wp2_with fail
          go_ret2
          exact ⟨by rw [← HE.out]; rfl, B2.out.trans (BW.out.mono B2.out.size)⟩
  · rw [li_no h1, h1]
    have HC := hid (fun w A c t => by have := HC.out w A c t; rwa [h1] at this)
    clear h1
    obtain ⟨xw, xA, xn, xc, xb, xB, xm, xk⟩ := x
    simp only at HNS HY
    go_enter Tryz.func30, Tryz.ntmps30
    go_upto_region 1 with (first
      | (refine Sh.wp_box smS (x := ⟨xw, xA, xn, xc, xb, xB, xm, xk⟩) rfl (.tmp 0) rfl rfl ?_; intro w1 v1 b1 s1; have V1 := hid v1; have B1 := hid b1; clear v1 b1 s1))
    have HO := hid (one_tree (x := ⟨xw, xA, xn, xc, xb, xB, xm, xk⟩) (HNS.out w1 B1.out) (HY.out w1 B1.out) (fun k hk => Nat.lt_of_lt_of_le (HK.out k hk) B1.out.size))
    have BA := hid (show Below w.heap.size w (w1.alloc (.cells (smS.enc ⟨xw, xA, xn, xc, xb, xB, xm, xk⟩).toArray smS.T)) from B1.out.alloc B1.out.size _)
    go_upto_region 2 with (first
      | (go_at_call 21; refine (HC.out _ _ _ HO.out).mono ?_; rintro e w2 ⟨rfl, b⟩; have B2 := hid (BA.out.trans (b.mono BA.out.size)); clear b)
      | (refine Sh.wp_bs smS rfl (.tmp 9) (x := ⟨xw, xA, xn, xc, xb, xB, xm, xk⟩) rfl rfl ?_)
      | (refine Sh.wp_ld smS rfl (.tmp 1) rfl rfl V1.out.1 ?_))
    go_wp2_with fail
    go_ret2
    exact ⟨rfl, B2.out⟩
end Go.Proofs.YtkfnkieljcipnaaGreatDoor
