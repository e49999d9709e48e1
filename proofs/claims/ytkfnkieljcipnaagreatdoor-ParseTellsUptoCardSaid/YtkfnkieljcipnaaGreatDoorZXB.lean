/-
  The walk of ParseTells, at lists of at most 209,715 statements: it is true; under: the tables hold what the program lays.
-/
import Derived.Test.YtkfnkieljcipnaaGreatDoorZWU
import Derived.Test.YtkfnkieljcipnaaGreatDoorZXC
import Derived.Test.YtkfnkieljcipnaaGreatDoorZXK
namespace Go.Proofs.YtkfnkieljcipnaaGreatDoor
open Go Go.RowKit Go.Joins

set_option maxHeartbeats 4000000 in
set_option maxRecDepth 100000 in
theorem tells_few1 (f g : Fo) (w : World) (K K2 : Nat → Prop) (A A2 : Option Addr) (n c n2 c2 : Nat) (hL : LaidW w) (ht : TrS w K A n f) (_ : TrS w K2 A2 n2 g) (hfew : (fewH f.len 12 && f.fewE 12) = false) :
    Calls Tryz.prog 4 #[.slice A n c, .slice A2 n2 c2] w fun e w' => e = .returned (.bool true) ∧ Below w.heap.size w w' := by
  have HV := hid (live_any w hL)
  have HF := hid (fun w1 (hb : Below w.heap.size w w1) => by have := rfew_any f w1 K A n c 12 (ht.below hb) (by decide) (by decide); rwa [hfew] at this)
  clear hL ht hfew
  go_enter Tryz.func4, Tryz.ntmps4
  go_wp2_with (go_at_call 11; refine HV.out.mono ?_; rintro e w1 ⟨rfl, g1⟩; have B1 := hid g1; clear g1)
  go_at_call 16
  refine (HF.out w1 B1.out).mono ?_
  rintro e w2 ⟨rfl, g2⟩
  have B2 := hid (B1.out.trans (g2.mono B1.out.size))
  clear g2
  go_wp2_with fail
  go_ret
  exact ⟨rfl, B2.out⟩
set_option maxHeartbeats 4000000 in
set_option maxRecDepth 100000 in
theorem tells_few2 (f g : Fo) (w : World) (K K2 : Nat → Prop) (A A2 : Option Addr) (n c n2 c2 : Nat) (hL : LaidW w) (ht : TrS w K A n f) (ht2 : TrS w K2 A2 n2 g) (hfew : (fewH f.len 12 && f.fewE 12) = true) (hfew2 : (fewH g.len 12 && g.fewE 12) = false) :
    Calls Tryz.prog 4 #[.slice A n c, .slice A2 n2 c2] w fun e w' => e = .returned (.bool true) ∧ Below w.heap.size w w' := by
  have HV := hid (live_any w hL)
  have HF := hid (fun w1 (hb : Below w.heap.size w w1) => by have := rfew_any f w1 K A n c 12 (ht.below hb) (by decide) (by decide); rwa [hfew] at this)
  have HF2 := hid (fun w1 (hb : Below w.heap.size w w1) => by have := rfew_any g w1 K2 A2 n2 c2 12 (ht2.below hb) (by decide) (by decide); rwa [hfew2] at this)
  clear hL ht ht2 hfew hfew2
  go_enter Tryz.func4, Tryz.ntmps4
  go_wp2_with (go_at_call 11; refine HV.out.mono ?_; rintro e w1 ⟨rfl, g1⟩; have B1 := hid g1; clear g1)
  go_at_call 16
  refine (HF.out w1 B1.out).mono ?_
  rintro e w2 ⟨rfl, g2⟩
  have B2 := hid (B1.out.trans (g2.mono B1.out.size))
  clear g2
  go_wp2_with fail
  go_at_call 16
  refine (HF2.out w2 B2.out).mono ?_
  rintro e w3 ⟨rfl, g3⟩
  have B3 := hid (B2.out.trans (g3.mono B2.out.size))
  clear g3
  go_wp2_with fail
  go_ret
  exact ⟨rfl, B3.out⟩
set_option maxHeartbeats 4000000 in
set_option maxRecDepth 100000 in
theorem tells_many (f g : Fo) (w : World) (K K2 : Nat → Prop) (A A2 : Option Addr) (n c n2 c2 : Nat) (hL : LaidW w) (ht : TrS w K A n f) (ht2 : TrS w K2 A2 n2 g) (hfew : (fewH f.len 12 && f.fewE 12) = true) (hfew2 : (fewH g.len 12 && g.fewE 12) = true) (hc1 : f.count ≤ 209715) (hm : 3000 < (f.count : Int)) :
    Calls Tryz.prog 4 #[.slice A n c, .slice A2 n2 c2] w fun e w' => e = .returned (.bool true) ∧ Below w.heap.size w w' := by
  have HV := hid (live_any w hL)
  have HF := hid (fun w1 (hb : Below w.heap.size w w1) => by have := rfew_any f w1 K A n c 12 (ht.below hb) (by decide) (by decide); rwa [hfew] at this)
  have HF2 := hid (fun w1 (hb : Below w.heap.size w w1) => by have := rfew_any g w1 K2 A2 n2 c2 12 (ht2.below hb) (by decide) (by decide); rwa [hfew2] at this)
  obtain ⟨hokL, hokS, hokN, hdep⟩ := few_ok hfew
  obtain ⟨hokL2, hokS2, hokN2, hdep2⟩ := few_ok hfew2
  have HC := hid (fun w1 (hb : Below w.heap.size w w1) => rcount_any f w1 K A n c (ht.below hb) (by omega))
  have hz1 : (f.count : Int) ≤ 209715 := by omega
  generalize f.count = C1 at *
  clear hL ht ht2 hfew hfew2 hokL hokS hokN hdep hokL2 hokS2 hokN2 hdep2 hc1
  go_enter Tryz.func4, Tryz.ntmps4
  go_wp2_with (go_at_call 11; refine HV.out.mono ?_; rintro e w1 ⟨rfl, g1⟩; have B1 := hid g1; clear g1)
  go_at_call 16
  refine (HF.out w1 B1.out).mono ?_
  rintro e w2 ⟨rfl, g2⟩
  have B2 := hid (B1.out.trans (g2.mono B1.out.size))
  clear g2
  go_wp2_with fail
  go_at_call 16
  refine (HF2.out w2 B2.out).mono ?_
  rintro e w3 ⟨rfl, g3⟩
  have B3 := hid (B2.out.trans (g3.mono B2.out.size))
  clear g3
  go_wp2_with (first
    | (go_at_call 17; refine (HC.out w3 B3.out).mono ?_; rintro e w4 ⟨rfl, b⟩; have B4 := hid (B3.out.trans (b.mono B3.out.size)); clear b))
  go_ret
  exact ⟨rfl, B4.out⟩
set_option maxHeartbeats 4000000 in
set_option maxRecDepth 100000 in
theorem tells_ok (f g : Fo) (w : World) (K K2 : Nat → Prop) (A A2 : Option Addr) (n c n2 c2 : Nat) (hL : LaidW w) (ht : TrS w K A n f) (ht2 : TrS w K2 A2 n2 g) (hK : ∀ k, K k → k < w.heap.size) (hfew : (fewH f.len 12 && f.fewE 12) = true) (hfew2 : (fewH g.len 12 && g.fewE 12) = true) (hc1 : f.count ≤ 209715) (hc2 : g.count ≤ 209715) (hm : ¬ 3000 < (f.count : Int)) :
    Calls Tryz.prog 4 #[.slice A n c, .slice A2 n2 c2] w fun e w' => e = .returned (.bool true) ∧ Below w.heap.size w w' := by
  have HV := hid (live_any w hL)
  have HF := hid (fun w1 (hb : Below w.heap.size w w1) => by have := rfew_any f w1 K A n c 12 (ht.below hb) (by decide) (by decide); rwa [hfew] at this)
  have HF2 := hid (fun w1 (hb : Below w.heap.size w w1) => by have := rfew_any g w1 K2 A2 n2 c2 12 (ht2.below hb) (by decide) (by decide); rwa [hfew2] at this)
  obtain ⟨hokL, hokS, hokN, hdep⟩ := few_ok hfew
  obtain ⟨hokL2, hokS2, hokN2, hdep2⟩ := few_ok hfew2
  have HC := hid (fun w1 (hb : Below w.heap.size w w1) => rcount_any f w1 K A n c (ht.below hb) (by omega))
  have TF := hid (fun w1 (hb : Below w.heap.size w w1) => ht.below hb)
  have FL := hid (fun wx (hb : Below w.heap.size w wx) => flat2_any f wx K A n c (ht.below hb) (fun k hk => Nat.lt_of_lt_of_le (hK k hk) hb.size) (by omega) hokS)
  have RF := hid (fun wx (hb : Below w.heap.size w wx) => rflat_any f wx wx.heap.size K A n c (ht.below hb) (fun k hk => Nat.lt_of_lt_of_le (hK k hk) hb.size) rfl (by omega) hokS)
  have SF := hid (fun wx K' K3 A' n' c' A3 n3 c3 (t1 : TrS wx K' A' n' f.flat) (t2 : TrS wx K3 A3 n3 f.flat) => by
    have := rsame_any f.flat f.flat wx K' K3 A' A3 n' c' n3 c3 t1 t2 (by rw [count_flat]; omega) (by rw [count_flat]; omega) (okN_flat hokN) (okN_flat hokN)
    rwa [decide_eq_true (show f.flat = f.flat from rfl)] at this)
  have ON := hid (okN_flat hokN)
  have CH := hid (fun wx (hb : Below w.heap.size w wx) => check_any f wx K A n c (ht.below hb) hokS (by omega))
  have RC := hid (fun wx (hb : Below w.heap.size w wx) => rcheck_any f wx K A n c (ht.below hb) hokL hokS (by omega))
  have CN := hid (fun wx (hb : Below w.heap.size w wx) => count_any f wx K A n c (ht.below hb) (by omega))
  have DP := hid (fun wx (hb : Below w.heap.size w wx) => depth_any f wx K A n c (ht.below hb) (by omega))
  have RD := hid (fun wx (hb : Below w.heap.size w wx) => rdepth_any f wx K A n c (ht.below hb) (by omega))
  have PS := hid (fun wx (hb : Below w.heap.size w wx) => psame_any f g wx K K2 A A2 n c n2 c2 (ht.below hb) (ht2.below hb) (by omega) (by omega) hokN hokN2)
  have RS := hid (fun wx (hb : Below w.heap.size w wx) => rsame_any f g wx K K2 A A2 n c n2 c2 (ht.below hb) (ht2.below hb) (by omega) (by omega) hokN hokN2)
  have LN := hid (show f.flat.len ≤ 3000 by rw [Fo.len_flat]; omega)
  have hz1 : (f.count : Int) ≤ 3000 := by omega
  have hd1 : (f.depth : Int) ≤ 13 := by omega
  clear hL ht ht2 hfew hfew2 hokL hokS hokN hdep hokL2 hokS2 hokN2 hdep2 hc1 hc2 hK
  go_enter Tryz.func4, Tryz.ntmps4
  go_wp2_with (go_at_call 11; refine HV.out.mono ?_; rintro e w1 ⟨rfl, g1⟩; have B1 := hid g1; clear g1)
  go_at_call 16
  refine (HF.out w1 B1.out).mono ?_
  rintro e w2 ⟨rfl, g2⟩
  have B2 := hid (B1.out.trans (g2.mono B1.out.size))
  clear g2
  go_wp2_with fail
  go_at_call 16
  refine (HF2.out w2 B2.out).mono ?_
  rintro e w3 ⟨rfl, g3⟩
  have B3 := hid (B2.out.trans (g3.mono B2.out.size))
  clear g3
  go_wp2_with (first
    | (go_at_call 15; refine (SF.out w6 _ _ A5 n5 c5 A6 n6 c6 (L5.out.tree.below b6.out) L6.out.tree).mono ?_; rintro e w7 ⟨rfl, b⟩; have B7 := hid (B6.out.trans (b.mono B6.out.size)); have b7 := hid b; clear b)
    | (go_at_call 19; refine (RF.out w5 B5.out).mono ?_; rintro e w6 ⟨A6, n6, c6, xs6, rfl, lo6, b⟩; have B6 := hid (B5.out.trans (b.mono B5.out.size)); have L6 := hid lo6; have b6 := hid b; clear lo6 b)
    | (go_at_call 18; refine (FL.out w4 B4.out).mono ?_; rintro e w5 ⟨A5, n5, c5, xs5, rfl, lo5, b, al⟩; have B5 := hid (B4.out.trans (b.mono B4.out.size)); have L5 := hid lo5; have AL5 := hid al; have b5 := hid b; clear lo5 b al)
    | (go_at_call 17; refine (HC.out w3 B3.out).mono ?_; rintro e w4 ⟨rfl, b⟩; have B4 := hid (B3.out.trans (b.mono B3.out.size)); clear b))
  have NF5 := hid (tr_nf (hi := w5.heap.size) rfl f.flat xs5 L5.out.tr AL5.out ON.out)
  have B57 := hid (b6.out.trans (b7.out.mono b6.out.size))
  have M7 := hid (Mv.mk (lo := w4.heap.size) (hi := w5.heap.size) (w := w7) (wr := w7) b5.out.size B57.out.size (Below.refl _ _) (fun _ _ _ => rfl) (L5.out.ow.below B57.out) (fun x hx => (NF5.out x hx).1.keep fun k _ hk => B57.out.block k hk))
  have T6 := hid (L6.out.tree.below b7.out)
  have hs6 := hid (show w6.heap.size ≤ w7.heap.size from b7.out.size)
  have HXL := hid (show xs5.length = n5 from L5.out.ow.len)
  have hn5 : (n5 : Int) ≤ 3000 := by have := LN.out; have := L5.out.len; omega
  clear L5 L6 AL5 b5 b6 b7
  go_loopw [36] (fun v36 wr => ∃ j : Nat, v36 = .int .i64 (j : Int) ∧ j ≤ n5 ∧ Mv w4.heap.size w5.heap.size A5 n5 c5 xs5 w7 wr) (fun v36 _ => n5 - (intOf v36).toNat)
  case atStart => exact ⟨0, rfl, Nat.zero_le _, M7.out⟩
  case round =>
    obtain ⟨j, rfl, hj, hmv⟩ := hrel
    have MV := hid hmv
    clear hmv
    by_cases hjl : j < n5
    · obtain ⟨bb, o, rfl, hb, hcell⟩ := MV.out.ow.row.at_ hjl
      have hmem : smS.nth xs5 j ∈ xs5 := by
        have h1 : j < xs5.length := by rw [HXL.out]; exact hjl
        rw [Sh.nth_of smS (List.getElem?_eq_getElem h1)]
        exact List.getElem_mem h1
      have HM := hid hmem
      have HNB := hid (NF5.out _ hmem).2
      generalize smS.nth xs5 j = x at *
      obtain ⟨xw, xA, xn, xc, xb, xB, xm, xk⟩ := x
      have hxn : (xn : Int) ≤ 4611686018427387904 := by have := HNB.out; show (xn : Int) ≤ _; simp only at this; omega
      have r1 : wr.rangeAt bb (o + j * 4) (smS.enc ⟨xw, xA, xn, xc, xb, xB, xm, xk⟩) := hcell
      clear hcell hb hmem
      go_wp2_with (first
        | (refine Sh.wp_sv smS (x := ⟨xw, xA, xn, xc, xb, xB, xm, xk⟩) rfl (.tmp 9) (.tmp 39) rfl rfl (by rfl) q2 ?_; intro wv q3 b3 o3 s3; have c1 : wv.cell? ⟨wr.heap.size, 1, none⟩ = some (.slice xA xn xc) := q3.cell (j := 1) rfl; have Q3 := hid q3; have B3x := hid (B2x.out.trans (b3.mono (Nat.le_refl _))); clear q3 b3 o3 s3 q2)
        | (refine Sh.wp_al smS rfl rfl ?_; intro wu q2 b2 s2; have B2x := hid b2; clear b2 s2)
        | (refine Sh.wp_ld smS rfl (.tmp 38) rfl rfl r1 ?_))
      have MV3 := hid (MV.out.below B3x.out)
      have MS3 := hid MV3.out.same
      have HG := hid (show w5.heap.size ≤ wr.heap.size ∧ wr.heap.size < wv.heap.size from ⟨Nat.le_trans MV.out.hs MV.out.bel.size, Q3.out.lt⟩)
      have C1 := hid c1
      clear c1
      generalize wr.heap.size = G at C1 HG ⊢
      go_loopw [43] (fun v43 wi => ∃ i : Nat, v43 = .int .i64 (i : Int) ∧ i ≤ xn ∧ Mv w4.heap.size w5.heap.size (some ⟨bb, o, none⟩) n5 c5 xs5 wv wi) (fun v43 _ => xn - (intOf v43).toNat)
      case atStart => exact ⟨0, rfl, Nat.zero_le _, MS3.out⟩
      case round =>
        obtain ⟨i, rfl, hi, hmi⟩ := hrel
        have MI := hid hmi
        clear hmi
        have c1 : wr.cell? ⟨G, 1, none⟩ = some (.slice xA xn xc) := (World.cell?_of_block (a := ⟨G, 1, none⟩) (MI.out.far _ HG.out.1 HG.out.2)).trans C1.out
        by_cases hil : i < xn
        · obtain ⟨b, e, h1, h2, h3, h4, h5⟩ := MI.out.nf _ HM.out (by show 0 < xn; omega)
          simp only at e
          subst e
          obtain ⟨z, k0⟩ := h5 i hil
          have kf : wr.frozen? ⟨b, i * 2, none⟩ = false := h4 _
          have PT := hid (fun v => MI.out.put h1 h2 h3 (i * 2) v)
          have hi2 : (i : Int) < (xn : Int) := by omega
          clear h1 h2 h3 h4 h5
          go_wp2_with fail
          go_roundw
          case rel => exact ⟨i + 1, by go_num, by omega, PT.out _⟩
          case measure => simp [intOf]; omega
        · obtain rfl : i = xn := by omega
          have ME := hid (MV3.out.trans MI.out)
          go_wp2_with fail
          go_roundw
          case rel => exact ⟨j + 1, by go_num, by omega, ME.out⟩
          case measure => simp [intOf]; omega
    · obtain rfl : j = n5 := by omega
      have Z0 := hid (Below.refl wr.heap.size wr)
      have hlo : w.heap.size ≤ w4.heap.size := B4.out.size
      have BR := hid (B7.out.trans (MV.out.bel.mono hlo))
      have T6R := hid (T6.out.keep fun k hk _ => MV.out.far k hk.1 (Nat.lt_of_lt_of_le hk.2 hs6.out))
      generalize f.count = C1 at *
      generalize f.depth = D1 at *
      generalize chkE f = E1 at *
      generalize decide (f = g) = F1 at *
      go_wp2_with (first
      | (go_at_call 15; refine (RS.out w16 B16.out).mono ?_; rintro e w17 ⟨rfl, b⟩; have B17 := hid (B16.out.trans (b.mono B16.out.size)); clear b)
      | (go_at_call 25; refine (PS.out w15 B15.out).mono ?_; rintro e w16 ⟨rfl, b⟩; have B16 := hid (B15.out.trans (b.mono B15.out.size)); clear b)
      | (go_at_call 24; refine (RD.out w14 B14.out).mono ?_; rintro e w15 ⟨rfl, b⟩; have B15 := hid (B14.out.trans (b.mono B14.out.size)); clear b)
      | (go_at_call 23; refine (DP.out w13 B13.out).mono ?_; rintro e w14 ⟨rfl, b⟩; have B14 := hid (B13.out.trans (b.mono B13.out.size)); clear b)
      | (go_at_call 17; refine (HC.out w12 B12.out).mono ?_; rintro e w13 ⟨rfl, b⟩; have B13 := hid (B12.out.trans (b.mono B12.out.size)); clear b)
      | (go_at_call 22; refine (CN.out w11 B11.out).mono ?_; rintro e w12 ⟨rfl, b⟩; have B12 := hid (B11.out.trans (b.mono B11.out.size)); clear b)
      | (go_at_call 21; refine (RC.out w10 B10.out).mono ?_; rintro e w11 ⟨rfl, b⟩; have B11 := hid (B10.out.trans (b.mono B10.out.size)); clear b)
      | (go_at_call 20; refine (CH.out w9 B9.out).mono ?_; rintro e w10 ⟨rfl, b⟩; have B10 := hid (B9.out.trans (b.mono B9.out.size)); clear b)
      | (go_at_call 15; refine (SF.out w8 _ _ A8 n8 c8 A6 n6 c6 L8.out.tree (T6R.out.below b8.out)).mono ?_; rintro e w9 ⟨rfl, b⟩; have B9 := hid (B8.out.trans (b.mono B8.out.size)); clear b)
      | (go_at_call 19; refine (RF.out wr BR.out).mono ?_; rintro e w8 ⟨A8, n8, c8, xs8, rfl, lo8, b⟩; have B8 := hid (BR.out.trans (b.mono BR.out.size)); have L8 := hid lo8; have b8 := hid b; clear lo8 b))
      go_ret
      exact ⟨rfl, B17.out⟩
theorem tells_any (f g : Fo) (w : World) (K K2 : Nat → Prop) (A A2 : Option Addr) (n c n2 c2 : Nat) (hL : LaidW w) (ht : TrS w K A n f) (ht2 : TrS w K2 A2 n2 g) (hK : ∀ k, K k → k < w.heap.size) (hc1 : f.count ≤ 209715) (hc2 : g.count ≤ 209715) :
    Calls Tryz.prog 4 #[.slice A n c, .slice A2 n2 c2] w fun e w' => e = .returned (.bool true) ∧ Below w.heap.size w w' := by
  cases hfew : (fewH f.len 12 && f.fewE 12) with
  | false => exact tells_few1 f g w K K2 A A2 n c n2 c2 hL ht ht2 hfew
  | true =>
    cases hfew2 : (fewH g.len 12 && g.fewE 12) with
    | false => exact tells_few2 f g w K K2 A A2 n c n2 c2 hL ht ht2 hfew hfew2
    | true =>
      by_cases hm : 3000 < (f.count : Int)
      · exact tells_many f g w K K2 A A2 n c n2 c2 hL ht ht2 hfew hfew2 hc1 hm
      · exact tells_ok f g w K K2 A A2 n c n2 c2 hL ht ht2 hK hfew hfew2 hc1 hc2 hm
theorem tells_row (A : Option Addr) (n c : Nat) (f : Fo) (A2 : Option Addr) (n2 c2 : Nat) (g : Fo) (w : World) (hL : LaidW w) (ht : TrS w (fun b => b < w.heap.size) A n f) (h1 : f.count ≤ 209715) (ht2 : TrS w (fun b => b < w.heap.size) A2 n2 g) (h2 : g.count ≤ 209715) :
    Calls Tryz.prog 4 #[.slice A n c, .slice A2 n2 c2] w fun e w' => e = .returned (.bool true) ∧ Below w.heap.size w w' := tells_any f g w _ _ A A2 n c n2 c2 hL ht ht2 (fun _ h => h) h1 h2
end Go.Proofs.YtkfnkieljcipnaaGreatDoor
