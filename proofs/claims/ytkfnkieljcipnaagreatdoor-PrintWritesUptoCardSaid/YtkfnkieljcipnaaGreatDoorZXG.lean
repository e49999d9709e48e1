/-
  Contracts of the document's own lines and Print; under no condition but forests of at most 209,715 statements.
-/
import Derived.Test.YtkfnkieljcipnaaGreatDoorZXF
namespace Go.Proofs.YtkfnkieljcipnaaGreatDoor
open Go Go.RowKit Go.Joins

theorem okA_mono : ∀ (f : Fo) (k k' : Int), f.okA k → k ≤ k' → f.okA k'
  | .nil, _, _, _, _ => trivial
  | .cons wd ns bl y n, k, k', h, hk => ⟨h.1, fun hb => by have := h.2.1 hb; omega, okA_mono y (k - 1) (k' - 1) h.2.2.1 (by omega), okA_mono n k k' h.2.2.2 hk⟩
def sps (a : Nat) : List UInt8 := List.replicate (2 * a) 32
theorem sps_succ (a : Nat) : sps a ++ [32, 32] = sps (a + 1) := by
  unfold sps
  rw [show 2 * (a + 1) = 2 * a + 2 by omega, ← List.replicate_append_replicate]; rfl
theorem sps_len (a : Nat) : (sps a).length = 2 * a := by simp [sps]
theorem okL_ofA : ∀ {f : Fo} {k : Int}, f.okA k → f.count ≤ 2000 → f.okL
  | f, k, h, hc => by
    refine ⟨by have := f.len_le; omega, ?_⟩
    clear h
    induction f with
    | nil => trivial
    | cons w ns b y n ih1 ih2 =>
      simp only [Fo.count] at hc
      exact ⟨⟨by have := y.len_le; omega, ih1 (by omega)⟩, ih2 (by omega)⟩
/-- The document's Check at one of the statements of a list that may be. -/
theorem rone_at (x : Sm) (ns : List (Int × Bool)) (y : Fo) (hL : (oneF x ns y).okL) (hS : (oneF x ns y).okS) (hc : (oneF x ns y).count ≤ 209715) : OneAt 21 x ns y :=
  fun w A c t => rcheck_any (oneF x ns y) w _ A 1 c t hL hS hc

def RLinesSaid (f : Fo) : Prop := ∀ (w : World) (K : Nat → Prop) (A : Option Addr) (n c : Nat) (a : Nat) (k : Int), TrS w K A n f → (∀ j, K j → j < w.heap.size) → f.okA k → 1 ≤ k → (a : Int) + k ≤ 6 → f.count ≤ 2000 →
  Calls Tryz.prog 52 #[.int .i64 a, .slice A n c] w fun e w' => e = .returned (.string (bA (f.text (sps a)))) ∧ Below w.heap.size w w'
set_option maxHeartbeats 4000000 in
set_option maxRecDepth 100000 in
theorem rlines_step (f : Fo) (hf : f.Bodies RLinesSaid) : RLinesSaid f := by
  intro w K A n c a k ht hK hok hk hak hcn
  have htl := text_len f k (sps a) hok hk (by rw [sps_len]; omega)
  have HTL := hid (show (f.text (sps a)).length ≤ 520000 by omega)
  obtain ⟨xs, hx, htr⟩ := ht
  have HX := hid hx
  have HK := hid hK
  have hn : (n : Int) ≤ 2000 := by have := f.len_le; have := htr.len; have := hx.1; omega
  have ha : (a : Int) ≤ 6 := by omega
  have S0 := hid (And.intro hf (And.intro htr (And.intro hok hcn)))
  have HAK := hid (And.intro hk hak)
  clear hx hf htr hK hok hcn htl hk hak
  go_enter Tryz.func52, Tryz.ntmps52
  go_wp2
  go_loopw [6, 12] (fun v6 v12 wr => ∃ j : Nat, v6 = .string (bA (sps j)) ∧ v12 = .int .i64 (j : Int) ∧ j ≤ a ∧ wr = w) (fun _ v12 _ => a - (intOf v12).toNat)
  case atStart => exact ⟨0, rfl, rfl, Nat.zero_le _, rfl⟩
  case round =>
    obtain ⟨j, rfl, rfl, hj, hwr⟩ := hrel
    have hwr := hwr.symm
    subst hwr
    by_cases hjl : j < a
    · have HE := hid (show bA (sps j) ++ ⟨#[32, 32]⟩ = bA (sps (j + 1)) by rw [← sps_succ, bA_app]; rfl)
      obtain ⟨zt, hzt⟩ : ∃ zt : Nat, (bA (sps j)).size = zt := ⟨_, rfl⟩
      have hz1 : (zt : Int) ≤ 12 := by rw [bA_size, sps_len] at hzt; omega
      have n1 : ¬ (9223372036854775807 : Int) < (zt : Int) + 2 := by omega
      go_wp2_with fail
      go_roundw
      case rel => exact ⟨j + 1, by rw [← HE.out], by go_num, by omega, by first | trivial | rfl⟩
      case measure => simp [intOf]; omega
    · obtain rfl : j = a := by omega
      go_wp2_with fail
      have hsz := sps_len j
      obtain ⟨sp, hsp⟩ : ∃ sp, sps j = sp := ⟨_, rfl⟩
      have HSP := hid hsp
      rw [hsp] at hsz HTL ⊢
      obtain ⟨zsp, hzsp⟩ : ∃ zsp : Nat, (bA sp).size = zsp := ⟨_, rfl⟩
      have hzs : (zsp : Int) ≤ 12 := by rw [bA_size] at hzsp; omega
      clear hsp hsz
      go_loopw [5, 19] (fun v5 v19 wr => ∃ (i : Nat) (r : Fo) (m : List UInt8), v5 = .string (bA m) ∧ v19 = .int .i64 (i : Int) ∧ i ≤ n ∧ m ++ r.text sp = f.text sp ∧ r.Bodies RLinesSaid ∧ Tr w K r (xs.drop i) ∧ r.okA k ∧ r.count ≤ 2000 ∧ Below w.heap.size w wr) (fun _ v19 _ => n - (intOf v19).toNat)
      case atStart => exact ⟨0, f, [], rfl, rfl, Nat.zero_le _, rfl, S0.out.1, by simpa using S0.out.2.1, S0.out.2.2.1, S0.out.2.2.2, Below.refl _ _⟩
      case round =>
        obtain ⟨i, r, m, rfl, rfl, hi, hm, hbo, htr, hok, hcn, hbel⟩ := hrel
        have BW := hid hbel
        have HM := hid hm
        by_cases hlt : i < n
        · obtain ⟨wd, ns, bl, y, nx, rfl, e1, e2, hns, hy, hnx⟩ := htr.step (by rw [HX.out.1]; exact hlt)
          obtain ⟨bb, o, rfl, hb, hcell⟩ := (HX.out.below hbel).size.at_ hlt
          generalize smS.nth xs i = x at *
          obtain ⟨xw, xA, xn, xc, xb, xB, xm, xk⟩ := x
          simp only at e1 e2 hns hy
          subst e1 e2
          have r1 : wr.rangeAt bb (o + i * 4) (smS.enc ⟨xw, xA, xn, xc, xb, xB, xm, xk⟩) := hcell
          obtain ⟨k1, k2, k3, k4⟩ := hok
          have hone : (oneF ⟨xw, xA, xn, xc, xb, xB, xm, xk⟩ ns y).okA 6 := okA_mono _ k 6 ⟨k1, k2, k3, trivial⟩ (by have := HAK.out; omega)
          have honec : (oneF ⟨xw, xA, xn, xc, xb, xB, xm, xk⟩ ns y).count ≤ 2000 := by simp only [oneF, Fo.count] at hcn ⊢; omega
          have hchk := ok_chk hone honec
          obtain ⟨hfit, hT⟩ := li_ok hchk
          have HLI := hid (fun wx (hx : Below w.heap.size w wx) => by
            have := rline_any ⟨xw, xA, xn, xc, xb, xB, xm, xk⟩ ns y wx K (hns.below hx) (hy.below hx) (fun j hj => Nat.lt_of_lt_of_le (HK.out j hj) hx.size) (rone_at _ _ _ (okL_ofA hone honec) (okA_okS hone) (by omega))
            rwa [hT, hchk] at this)
          have hll := line_len hfit
          simp only at hll
          have HNX := hid (show nx.Bodies RLinesSaid ∧ Tr w K nx (xs.drop (i + 1)) ∧ nx.okA k ∧ nx.count ≤ 2000 from ⟨hbo.2, hnx, k4, by simp only [Fo.count] at hcn; omega⟩)
          have HYB := hid (fun (hbx : xb = true) wx (hx : Below w.heap.size w wx) => by
            have := hbo.1 wx K xB xm xk (j + 1) (k - 1) (hy.below hx) (fun q hq => Nat.lt_of_lt_of_le (HK.out q hq) hx.size) k3 (by have := k2 hbx; omega) (by have := HAK.out; omega) (by simp only [Fo.count] at hcn; omega)
            rwa [show ((j + 1 : Nat) : Int) = (j : Int) + 1 by omega, ← sps_succ, HSP.out] at this)
          have htl := congrArg List.length hm
          obtain ⟨zm, hzm⟩ : ∃ zm : Nat, (bA m).size = zm := ⟨_, rfl⟩
          obtain ⟨zl, hzl⟩ : ∃ zl : Nat, (bA (lineF xw ns xb)).size = zl := ⟨_, rfl⟩
          have hz2 : (zm : Int) ≤ 520000 := by rw [bA_size] at hzm; have := HTL.out; simp only [List.length_append] at htl; omega
          have hz3 : (zl : Int) ≤ 202 := by rw [bA_size] at hzl; omega
          have n1 : ¬ (9223372036854775807 : Int) < (zsp : Int) + (zl : Int) := by omega
          have n2 : ¬ (9223372036854775807 : Int) < (zsp : Int) + (zl : Int) + 1 := by omega
          have n3 : ¬ (9223372036854775807 : Int) < (zm : Int) + ((zsp : Int) + (zl : Int) + 1) := by omega
          have HE := hid (show bA m ++ (bA sp ++ bA (lineF xw ns xb) ++ ⟨#[10]⟩) = bA (m ++ (sp ++ (lineF xw ns xb ++ [10]))) by
            apply ByteArray.ext; simp [bA])
          have HTX := hid htl
          clear hcell hm hbo htr hcn hbel hb hns hy hnx k1 k2 k3 k4 hone honec hchk hfit hT hll htl
          cases xb
          · have HMN := hid (show (m ++ (sp ++ (lineF xw ns false ++ [10]))) ++ nx.text sp = f.text sp by rw [← HM.out]; simp [Fo.text])
            go_upto_region 10 with (first
              | (refine Sh.wp_sv smS (x := ⟨xw, xA, xn, xc, false, xB, xm, xk⟩) rfl (.tmp 8) (.tmp 22) rfl rfl (by rfl) q2 ?_; intro w3 q3 b3 o3 s3; have V3 := hid q3; have B3 := hid (BW.out.trans ((B2.out.trans (b3.mono (Nat.le_refl _))).mono BW.out.size)); clear q3 b3 o3 s3 q2)
              | (refine Sh.wp_al smS rfl rfl ?_; intro w2 q2 b2 s2; have B2 := hid b2; clear b2 s2)
              | (refine Sh.wp_ld smS rfl (.tmp 21) rfl rfl r1 ?_))
            go_upto_region 11 with (first
              | (go_at_call 30; refine (HLI.out w3 B3.out).mono ?_; rintro e w4 ⟨rfl, b⟩; have B4 := hid (B3.out.trans (b.mono B3.out.size)); have V4 := hid (V3.out.keep b); clear b)
              | (refine Sh.wp_ld smS rfl (.tmp 8) rfl rfl V3.out.1 ?_))
            have c2 : w4.cell? ⟨wr.heap.size, 2, none⟩ = some (.bool false) := V4.out.cell (j := 2) rfl
            go_wp2_with fail
            go_roundw
            case rel => exact ⟨i + 1, nx, _, by rw [← HE.out], by go_num, by omega, HMN.out, HNX.out.1, HNX.out.2.1, HNX.out.2.2.1, HNX.out.2.2.2, B4.out⟩
            case measure => simp [intOf]; omega
          · have HMN := hid (show ((m ++ (sp ++ (lineF xw ns true ++ [10]))) ++ (y.text (sp ++ [32, 32]) ++ (sp ++ [125, 10]))) ++ nx.text sp = f.text sp by rw [← HM.out]; simp [Fo.text])
            have HYC := hid (fun wx hx => HYB.out rfl wx hx)
            clear HYB
            obtain ⟨zy, hzy⟩ : ∃ zy : Nat, (bA (y.text (sp ++ [32, 32]))).size = zy := ⟨_, rfl⟩
            have hz4 : (zy : Int) ≤ 520000 := by
              rw [bA_size] at hzy
              have h1 := HTX.out
              have h2 := HTL.out
              simp only [Fo.text, if_true, List.length_append, List.length_cons] at h1
              omega
            have n4 : ¬ (9223372036854775807 : Int) < (zy : Int) + (zsp : Int) := by omega
            have n5 : ¬ (9223372036854775807 : Int) < (zy : Int) + (zsp : Int) + 2 := by omega
            have n6 : ¬ (9223372036854775807 : Int) < (zm : Int) + ((zsp : Int) + (zl : Int) + 1) + ((zy : Int) + (zsp : Int) + 2) := by omega
            have HE2 := hid (show bA (m ++ (sp ++ (lineF xw ns true ++ [10]))) ++ (bA (y.text (sp ++ [32, 32])) ++ bA sp ++ ⟨#[125, 10]⟩) = bA ((m ++ (sp ++ (lineF xw ns true ++ [10]))) ++ (y.text (sp ++ [32, 32]) ++ (sp ++ [125, 10]))) by
              apply ByteArray.ext; simp [bA])
            go_upto_region 10 with (first
              | (refine Sh.wp_sv smS (x := ⟨xw, xA, xn, xc, true, xB, xm, xk⟩) rfl (.tmp 8) (.tmp 22) rfl rfl (by rfl) q2 ?_; intro w3 q3 b3 o3 s3; have V3 := hid q3; have B3 := hid (BW.out.trans ((B2.out.trans (b3.mono (Nat.le_refl _))).mono BW.out.size)); clear q3 b3 o3 s3 q2)
              | (refine Sh.wp_al smS rfl rfl ?_; intro w2 q2 b2 s2; have B2 := hid b2; clear b2 s2)
              | (refine Sh.wp_ld smS rfl (.tmp 21) rfl rfl r1 ?_))
            go_upto_region 11 with (first
              | (go_at_call 30; refine (HLI.out w3 B3.out).mono ?_; rintro e w4 ⟨rfl, b⟩; have B4 := hid (B3.out.trans (b.mono B3.out.size)); have V4 := hid (V3.out.keep b); clear b)
              | (refine Sh.wp_ld smS rfl (.tmp 8) rfl rfl V3.out.1 ?_))
            have c2 : w4.cell? ⟨wr.heap.size, 2, none⟩ = some (.bool true) := V4.out.cell (j := 2) rfl
            have c3 : w4.cell? ⟨wr.heap.size, 3, none⟩ = some (.slice xB xm xk) := V4.out.cell (j := 3) rfl
            go_wp2_with (go_at_call 52; refine (HYC.out w4 B4.out).mono ?_; rintro e w5 ⟨rfl, b⟩; have B5 := hid (B4.out.trans (b.mono B4.out.size)); clear b)
            go_roundw
            case rel => exact ⟨i + 1, nx, _, by rw [← HE2.out, ← HE.out], by go_num, by omega, HMN.out, HNX.out.1, HNX.out.2.1, HNX.out.2.2.1, HNX.out.2.2.2, B5.out⟩
            case measure => simp [intOf]; omega
        · obtain rfl : i = n := by omega
          have hr := htr.done (by rw [HX.out.1]; exact Nat.le_refl _)
          subst hr
          have HV := hid (show m = f.text sp by simpa [Fo.text] using hm)
          clear hm hbo htr hok hcn hbel
          go_wp2_with fail
          go_ret
          exact ⟨by first | (rw [HSP.out]; done) | (rw [HSP.out]; rfl) | (rw [HSP.out, ← HV.out]; rfl), BW.out⟩
theorem rlines_any (f : Fo) : RLinesSaid f := (Fo.ind rlines_step f).1

set_option maxHeartbeats 1000000 in
set_option maxRecDepth 100000 in
theorem rprint_any (f : Fo) (w : World) (K : Nat → Prop) (A : Option Addr) (n c : Nat) (ht : TrS w K A n f) (hK : ∀ j, K j → j < w.heap.size) (hL : f.okL) (hS : f.okS) (hc : f.count ≤ 209715) :
    Calls Tryz.prog 28 #[.slice A n c] w fun e w' => e = .returned (.tuple #[.string (bA (prT f)), .int .i64 (prE f : Nat)]) ∧ Below w.heap.size w w' := by
  have HC := hid (rcheck_any f w K A n c ht hL hS hc)
  rcases chk_01 f with h0 | h1
  · obtain ⟨hok, hcount⟩ := chk_ok h0
    have HL := hid (fun w1 (hb : Below w.heap.size w w1) => rlines_any f w1 K A n c 0 6 (ht.below hb) (fun j hj => Nat.lt_of_lt_of_le (hK j hj) hb.size) hok (by omega) (by omega) hcount)
    have HC := hid (by have := HC.out; rwa [h0] at this)
    have e0 : sps 0 = [] := rfl
    rw [e0] at HL
    by_cases hlen : 65536 < (f.text []).length
    · have hE : prE f = 6 := by unfold prE; rw [if_pos h0, if_pos hlen]
      have hT : prT f = [] := by unfold prT; rw [hE]; rfl
      rw [hE, hT]
      obtain ⟨z, hz⟩ : ∃ z : Nat, (bA (f.text [])).size = z := ⟨_, rfl⟩
      have hz2 : (65536 : Int) < (z : Int) := by rw [bA_size] at hz; omega
      generalize bA (f.text []) = q at *
      clear hE hT hlen hok hcount h0 ht hK hL hS hc e0
      go_enter Tryz.func28, Tryz.ntmps28
      go_wp2_with (first
        | (go_at_call 52; refine (HL.out w1 B1.out).mono ?_; rintro e w2 ⟨rfl, b⟩; have B2 := hid (B1.out.trans (b.mono B1.out.size)); clear b)
        | (go_at_call 21; refine HC.out.mono ?_; rintro e w1 ⟨rfl, b1⟩; have B1 := hid b1; clear b1))
      go_ret2
      exact ⟨rfl, B2.out⟩
    · have hE : prE f = 0 := by unfold prE; rw [if_pos h0, if_neg hlen]
      have hT : prT f = f.text [] := by unfold prT; rw [hE]; rfl
      rw [hE, hT]
      obtain ⟨z, hz⟩ : ∃ z : Nat, (bA (f.text [])).size = z := ⟨_, rfl⟩
      have hz2 : ¬ (65536 : Int) < (z : Int) := by rw [bA_size] at hz; omega
      generalize bA (f.text []) = q at *
      clear hE hT hlen hok hcount h0 ht hK hL hS hc e0
      go_enter Tryz.func28, Tryz.ntmps28
      go_wp2_with (first
        | (go_at_call 52; refine (HL.out w1 B1.out).mono ?_; rintro e w2 ⟨rfl, b⟩; have B2 := hid (B1.out.trans (b.mono B1.out.size)); clear b)
        | (go_at_call 21; refine HC.out.mono ?_; rintro e w1 ⟨rfl, b1⟩; have B1 := hid b1; clear b1))
      go_ret2
      exact ⟨rfl, B2.out⟩
  · have hne : ¬ chkE f = 0 := by omega
    have hE : prE f = 1 := by unfold prE; rw [if_neg hne]
    have hT : prT f = [] := by unfold prT; rw [hE]; rfl
    have HC := hid (by have := HC.out; rwa [h1] at this)
    rw [hE, hT]
    clear hE hT hne h1 ht hK hL hS hc
    go_enter Tryz.func28, Tryz.ntmps28
    go_wp2_with (first
      | (go_at_call 21; refine HC.out.mono ?_; rintro e w1 ⟨rfl, b1⟩; have B1 := hid b1; clear b1))
    go_ret2
    exact ⟨rfl, B1.out⟩
end Go.Proofs.YtkfnkieljcipnaaGreatDoor
