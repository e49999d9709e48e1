/-
  The walk of PrintWrites, at lists of at most 209,715 statements: it is true; under: the tables hold what the program lays.
-/
import Derived.Test.YtkfnkieljcipnaaGreatDoorZXG
import Derived.Test.YtkfnkieljcipnaaGreatDoorZWH
namespace Go.Proofs.YtkfnkieljcipnaaGreatDoor
open Go Go.RowKit Go.Joins

/-- parse.Check at one of the statements of a list. -/
theorem pone_at (x : Sm) (ns : List (Int × Bool)) (y : Fo) (hL : (oneF x ns y).okL) (hS : (oneF x ns y).okS) (hd : (oneF x ns y).depth ≤ 1000000) : OneAt 20 x ns y :=
  fun w A c t => check2_any (oneF x ns y) w _ A 1 c t hS hL hd
set_option maxHeartbeats 4000000 in
set_option maxRecDepth 100000 in
theorem writes_few (f : Fo) (w : World) (K : Nat → Prop) (A : Option Addr) (n c : Nat) (hL : LaidW w) (ht : TrS w K A n f) (hfew : (fewH f.len 12 && f.fewE 12) = false) :
    Calls Tryz.prog 6 #[.slice A n c] w fun e w' => e = .returned (.bool true) ∧ Below w.heap.size w w' := by
  have HV := hid (live16_any w hL)
  have HF := hid (fun w1 (hb : Below w.heap.size w w1) => by have := rfew_any f w1 K A n c 12 (ht.below hb) (by decide) (by decide); rwa [hfew] at this)
  clear hL ht hfew
  go_enter Tryz.func6, Tryz.ntmps6
  go_wp2_with (go_at_call 26; refine HV.out.mono ?_; rintro e w1 ⟨rfl, g1⟩; have B1 := hid g1; clear g1)
  go_at_call 16
  refine (HF.out w1 B1.out).mono ?_
  rintro e w2 ⟨rfl, g2⟩
  have B2 := hid (B1.out.trans (g2.mono B1.out.size))
  clear g2
  go_wp2_with fail
  go_ret
  exact ⟨rfl, B2.out⟩
set_option maxHeartbeats 4000000 in
set_option maxRecDepth 100000 in
theorem writes_many (f : Fo) (w : World) (K : Nat → Prop) (A : Option Addr) (n c : Nat) (hL : LaidW w) (ht : TrS w K A n f) (hc : f.count ≤ 209715) (hfew : (fewH f.len 12 && f.fewE 12) = true) (hm : 2500 < (f.count : Int)) :
    Calls Tryz.prog 6 #[.slice A n c] w fun e w' => e = .returned (.bool true) ∧ Below w.heap.size w w' := by
  have HV := hid (live16_any w hL)
  have HF := hid (fun w1 (hb : Below w.heap.size w w1) => by have := rfew_any f w1 K A n c 12 (ht.below hb) (by decide) (by decide); rwa [hfew] at this)
  obtain ⟨hokL, hokS, hokN, hdep⟩ := few_ok hfew
  have HC := hid (fun w1 (hb : Below w.heap.size w w1) => rcount_any f w1 K A n c (ht.below hb) (by omega))
  have hz : (f.count : Int) ≤ 209715 := by omega
  generalize f.count = C at *
  clear hL ht hfew hokL hokS hokN hdep hc
  go_enter Tryz.func6, Tryz.ntmps6
  go_wp2_with (go_at_call 26; refine HV.out.mono ?_; rintro e w1 ⟨rfl, g1⟩; have B1 := hid g1; clear g1)
  go_at_call 16
  refine (HF.out w1 B1.out).mono ?_
  rintro e w2 ⟨rfl, g2⟩
  have B2 := hid (B1.out.trans (g2.mono B1.out.size))
  clear g2
  go_wp2_with (go_at_call 17; refine (HC.out w2 B2.out).mono ?_; rintro e w3 ⟨rfl, g3⟩; have B3 := hid (B2.out.trans (g3.mono B2.out.size)); clear g3)
  go_ret
  exact ⟨rfl, B3.out⟩
set_option maxHeartbeats 4000000 in
set_option maxRecDepth 100000 in
theorem writes_ok (f : Fo) (w : World) (K : Nat → Prop) (A : Option Addr) (n c : Nat) (hL : LaidW w) (ht : TrS w K A n f) (hK : ∀ k, K k → k < w.heap.size) (hc : f.count ≤ 209715) (hfew : (fewH f.len 12 && f.fewE 12) = true) (hm : ¬ 2500 < (f.count : Int)) :
    Calls Tryz.prog 6 #[.slice A n c] w fun e w' => e = .returned (.bool true) ∧ Below w.heap.size w w' := by
  have HV := hid (live16_any w hL)
  have HF := hid (fun w1 (hb : Below w.heap.size w w1) => by have := rfew_any f w1 K A n c 12 (ht.below hb) (by decide) (by decide); rwa [hfew] at this)
  obtain ⟨hokL, hokS, hokN, hdep⟩ := few_ok hfew
  have HC := hid (fun w1 (hb : Below w.heap.size w w1) => rcount_any f w1 K A n c (ht.below hb) (by omega))
  have HP := hid (fun w1 (hb : Below w.heap.size w w1) => print_any f w1 K A n c (hL.below hb) (ht.below hb) (fun k hk => Nat.lt_of_lt_of_le (hK k hk) hb.size) (fun w2 hb2 => check2_any f w2 K A n c ((ht.below hb).below hb2) hokS hokL (by omega)))
  have HR := hid (fun w1 (hb : Below w.heap.size w w1) => rprint_any f w1 K A n c (ht.below hb) (fun k hk => Nat.lt_of_lt_of_le (hK k hk) hb.size) hokL hokS hc)
  have HL := hid hL
  have HK := hid hK
  have hfl := f.len_le
  have hnn : (n : Int) ≤ 2500 := by rw [ht.len]; omega
  obtain ⟨xs, hx, htr⟩ := ht
  have HX := hid hx
  have S0 := hid (And.intro htr (And.intro hokL.2 (And.intro hokS (And.intro hdep hc))))
  have hz : (f.count : Int) ≤ 2500 := by omega
  generalize bA (prT f) = z at *
  generalize prE f = pe at *
  clear hL hK hx htr hfew hokL hokS hokN hdep hc hfl
  go_enter Tryz.func6, Tryz.ntmps6
  go_wp2_with (go_at_call 26; refine HV.out.mono ?_; rintro e w1 ⟨rfl, g1⟩; have B1 := hid g1; clear g1)
  go_at_call 16
  refine (HF.out w1 B1.out).mono ?_
  rintro e w2 ⟨rfl, g2⟩
  have B2 := hid (B1.out.trans (g2.mono B1.out.size))
  clear g2
  go_wp2_with (go_at_call 17; refine (HC.out w2 B2.out).mono ?_; rintro e w3 ⟨rfl, g3⟩; have B3 := hid (B2.out.trans (g3.mono B2.out.size)); clear g3)
  go_wp2_with (first
    | (go_at_call 28; refine (HR.out w4 B4.out).mono ?_; rintro e w5 ⟨rfl, b⟩; have B5 := hid (B4.out.trans (b.mono B4.out.size)); clear b)
    | (go_at_call 27; refine (HP.out w3 B3.out).mono ?_; rintro e w4 ⟨rfl, b⟩; have B4 := hid (B3.out.trans (b.mono B3.out.size)); clear b))
  go_loopw [44] (fun v44 wr => ∃ (i : Nat) (r : Fo), v44 = .int .i64 (i : Int) ∧ i ≤ n ∧ Tr w K r (xs.drop i) ∧ r.okB ∧ r.okS ∧ r.depth ≤ 13 ∧ r.count ≤ 209715 ∧ Below w5.heap.size w5 wr) (fun v44 _ => n - (intOf v44).toNat)
  case atStart => exact ⟨0, f, rfl, Nat.zero_le _, by simpa using S0.out.1, S0.out.2.1, S0.out.2.2.1, S0.out.2.2.2.1, S0.out.2.2.2.2, Below.refl _ _⟩
  case round =>
    obtain ⟨i, r, rfl, hi, htr, hob, hos, hdp, hcn, hbel⟩ := hrel
    have BW := hid hbel
    have B6 := hid (B5.out.trans (hbel.mono B5.out.size))
    by_cases hlt : i < n
    · obtain ⟨wd, ns, bl, y, nx, rfl, e1, e2, hns, hy, hnx⟩ := htr.step (by rw [HX.out.1]; exact hlt)
      obtain ⟨bb, o, rfl, hb, hcell⟩ := (HX.out.below B6.out).size.at_ hlt
      generalize smS.nth xs i = x at *
      obtain ⟨xw, xA, xn, xc, xb, xB, xm, xk⟩ := x
      simp only at e1 e2 hns hy
      subst e1 e2
      have r1 : wr.rangeAt bb (o + i * 4) (smS.enc ⟨xw, xA, xn, xc, xb, xB, xm, xk⟩) := hcell
      have oL : (oneF ⟨xw, xA, xn, xc, xb, xB, xm, xk⟩ ns y).okL := ⟨by simp [oneF, Fo.len], hob.1, trivial⟩
      have oS : (oneF ⟨xw, xA, xn, xc, xb, xB, xm, xk⟩ ns y).okS := ⟨hos.1, hos.2.1, hos.2.2.1, trivial⟩
      have oC : (oneF ⟨xw, xA, xn, xc, xb, xB, xm, xk⟩ ns y).count ≤ 209715 := by simp only [oneF, Fo.count] at hcn ⊢; omega
      have oD : (oneF ⟨xw, xA, xn, xc, xb, xB, xm, xk⟩ ns y).depth ≤ 1000000 := by simp only [oneF, Fo.depth] at hdp ⊢; omega
      have LP := hid (fun wx (hx : Below w.heap.size w wx) => pline_any ⟨xw, xA, xn, xc, xb, xB, xm, xk⟩ ns y wx K (HL.out.below hx) (hns.below hx) (hy.below hx) (fun k hk => Nat.lt_of_lt_of_le (HK.out k hk) hx.size) (pone_at _ _ _ oL oS oD))
      have LR := hid (fun wx (hx : Below w.heap.size w wx) => rline_any ⟨xw, xA, xn, xc, xb, xB, xm, xk⟩ ns y wx K (hns.below hx) (hy.below hx) (fun k hk => Nat.lt_of_lt_of_le (HK.out k hk) hx.size) (rone_at _ _ _ oL oS oC))
      have HNX := hid (show Tr w K nx (xs.drop (i + 1)) ∧ nx.okB ∧ nx.okS ∧ nx.depth ≤ 13 ∧ nx.count ≤ 209715 from ⟨hnx, hob.2, hos.2.2.2, by simp only [Fo.depth] at hdp; omega, by simp only [Fo.count] at hcn; omega⟩)
      generalize bA (liT ⟨xw, xA, xn, xc, xb, xB, xm, xk⟩ ns y) = zz at *
      generalize chkE (oneF ⟨xw, xA, xn, xc, xb, xB, xm, xk⟩ ns y) = ce at *
      clear hcell htr hob hos hdp hcn hbel hns hy hnx hb oL oS oC oD
      go_upto_region 11 with (first
        | (refine Sh.wp_sv smS (x := ⟨xw, xA, xn, xc, xb, xB, xm, xk⟩) rfl (.tmp 9) (.tmp 47) rfl rfl (by rfl) q2 ?_; intro w7 q3 b3 o3 s3; have V7 := hid q3; have B7 := hid (BW.out.trans ((B2'.out.trans (b3.mono (Nat.le_refl _))).mono BW.out.size)); clear q3 b3 o3 s3 q2)
        | (refine Sh.wp_al smS rfl rfl ?_; intro w2 q2 b2 s2; have B2' := hid b2; clear b2 s2)
        | (refine Sh.wp_ld smS rfl (.tmp 46) rfl rfl r1 ?_))
      go_upto_region 12 with (first
        | (go_at_call 29; refine (LP.out w7 (B5.out.trans (B7.out.mono B5.out.size))).mono ?_; rintro e w8 ⟨rfl, b⟩; have B8 := hid (B7.out.trans (b.mono B7.out.size)); have V8 := hid (V7.out.keep b); clear b)
        | (refine Sh.wp_ld smS rfl (.tmp 9) rfl rfl V7.out.1 ?_))
      go_upto_region 13 with (first
        | (go_at_call 30; refine (LR.out w8 (B5.out.trans (B8.out.mono B5.out.size))).mono ?_; rintro e w9 ⟨rfl, b⟩; have B9 := hid (B8.out.trans (b.mono B8.out.size)); clear b)
        | (refine Sh.wp_ld smS rfl (.tmp 9) rfl rfl V8.out.1 ?_))
      go_wp2_with fail
      go_roundw
      case rel => exact ⟨i + 1, nx, by go_num, by omega, HNX.out.1, HNX.out.2.1, HNX.out.2.2.1, HNX.out.2.2.2.1, HNX.out.2.2.2.2, B9.out⟩
      case measure => simp [intOf]; omega
    · obtain rfl : i = n := by omega
      clear htr hob hos hdp hcn hbel
      go_wp2_with fail
      go_ret
      exact ⟨rfl, B6.out⟩
theorem writes_any (f : Fo) (w : World) (K : Nat → Prop) (A : Option Addr) (n c : Nat) (hL : LaidW w) (ht : TrS w K A n f) (hK : ∀ k, K k → k < w.heap.size) (hc : f.count ≤ 209715) :
    Calls Tryz.prog 6 #[.slice A n c] w fun e w' => e = .returned (.bool true) ∧ Below w.heap.size w w' := by
  cases hfew : (fewH f.len 12 && f.fewE 12) with
  | false => exact writes_few f w K A n c hL ht hfew
  | true =>
    by_cases hm : 2500 < (f.count : Int)
    · exact writes_many f w K A n c hL ht hc hfew hm
    · exact writes_ok f w K A n c hL ht hK hc hfew hm
theorem writes_row (A : Option Addr) (n c : Nat) (f : Fo) (w : World) (hL : LaidW w) (ht : TrS w (fun b => b < w.heap.size) A n f) (hc : f.count ≤ 209715) :
    Calls Tryz.prog 6 #[.slice A n c] w fun e w' => e = .returned (.bool true) ∧ Below w.heap.size w w' := writes_any f w _ A n c hL ht (fun _ h => h) hc
end Go.Proofs.YtkfnkieljcipnaaGreatDoor
