/-
  The walk of ParseFlats, at lists of at most 209,715 statements: it is true; under: the tables hold what the program lays.
-/
import Derived.Test.YtkfnkieljcipnaaGreatDoorZWI
import Derived.Test.YtkfnkieljcipnaaGreatDoorZWN
import Derived.Test.YtkfnkieljcipnaaGreatDoorK8
import Derived.Test.YtkfnkieljcipnaaGreatDoorK7
namespace Go.Proofs.YtkfnkieljcipnaaGreatDoor
open Go Go.RowKit Go.Joins

theorem count_flat (f : Fo) : f.flat.count = f.count := by
  induction f with
  | nil => rfl
  | cons w ns b y n ih1 ih2 => simp only [Fo.flat, Fo.count, Fo.count_app, ih1, ih2]; omega
theorem okN_flat {f : Fo} (h : f.okN) : f.flat.okN := by
  induction f with
  | nil => trivial
  | cons w ns b y n ih1 ih2 => exact ⟨h.1, trivial, okN_app (ih1 h.2.1) (ih2 h.2.2)⟩
/-- no statement has others in it -/
def Fo.noB : Fo → Prop
  | nil => True
  | cons _ _ _ y n => y = nil ∧ n.noB
theorem noB_app {f g : Fo} (h : f.noB) (h2 : g.noB) : (f.app g).noB := by
  induction f with
  | nil => exact h2
  | cons w ns b y n _ ih => exact ⟨h.1, ih h.2⟩
theorem noB_flat (f : Fo) : f.flat.noB := by
  induction f with
  | nil => trivial
  | cons w ns b y n ih1 ih2 => exact ⟨rfl, noB_app ih1 ih2⟩
theorem TrS.up {w w' : World} {A : Option Addr} {n : Nat} {f : Fo} (h : TrS w (fun k => k < w.heap.size) A n f) (hb : Below w.heap.size w w') : TrS w' (fun k => k < w'.heap.size) A n f := (h.below hb).mono fun _ hk _ => Nat.lt_of_lt_of_le hk hb.size
/-- What two calls have made, one appended to the other. -/
theorem two_flat {w9 w10 w11 : World} {b9 n c n2 c2 N C : Nat} {A A2 A' : Option Addr} {f g : Fo} {xs ys : List Sm} (l9 : Lo w9 b9 A n c f xs) (b : Below w9.heap.size w9 w10) (l10 : Lo w10 w9.heap.size A2 n2 c2 g ys) (own : smS.Ow w11 b9 A' N C (xs ++ ys)) (gr : w10.grownBy w11 (Value.ownBlock (.slice A n c))) :
    TrS w11 (fun k => k < w11.heap.size) A' N (f.app g) := by
  refine ⟨xs ++ ys, own.rowP.mono fun _ h _ => h.2.1, ?_⟩
  have hf := ((l9.tr.below b).keep fun k hk hs => gr.block k hs hk.2.2).mono (P' := fun k => k < w11.heap.size) fun _ _ h => h
  have hg := (l10.tr.keep fun k hk hs => gr.block k hs fun e => by have := (own_lt l9.ow k e.symm).2; have := hk.1; omega).mono (P' := fun k => k < w11.heap.size) fun _ _ h => h
  exact hf.app hg

set_option maxHeartbeats 4000000 in
set_option maxRecDepth 100000 in
theorem flats_few1 (f g : Fo) (w : World) (K K2 : Nat → Prop) (A A2 : Option Addr) (n c n2 c2 : Nat) (hL : LaidW w) (ht : TrS w K A n f) (_ : TrS w K2 A2 n2 g) (hfew : (fewH f.len 12 && f.fewE 12) = false) :
    Calls Tryz.prog 5 #[.slice A n c, .slice A2 n2 c2] w fun e w' => e = .returned (.bool true) ∧ Below w.heap.size w w' := by
  have HV := hid (live_any w hL)
  have HF := hid (fun w1 (hb : Below w.heap.size w w1) => by have := rfew_any f w1 K A n c 12 (ht.below hb) (by decide) (by decide); rwa [hfew] at this)
  clear hL ht hfew
  go_enter Tryz.func5, Tryz.ntmps5
  go_wp2_with (go_at_call 11; refine HV.out.mono ?_; rintro e w1 ⟨rfl, g1⟩; have B1 := hid g1; clear g1)
  go_at_call 16
  refine (HF.out w1 B1.out).mono ?_
  rintro e w2 ⟨rfl, g2⟩
  have B2 := hid (B1.out.trans (g2.mono B1.out.size))
  clear g2
  go_wp2_with fail
  go_ret
  exact ⟨rfl, B2.out⟩
set_option maxHeartbeats 4000000 in
set_option maxRecDepth 100000 in
theorem flats_few2 (f g : Fo) (w : World) (K K2 : Nat → Prop) (A A2 : Option Addr) (n c n2 c2 : Nat) (hL : LaidW w) (ht : TrS w K A n f) (ht2 : TrS w K2 A2 n2 g) (hfew : (fewH f.len 12 && f.fewE 12) = true) (hfew2 : (fewH g.len 12 && g.fewE 12) = false) :
    Calls Tryz.prog 5 #[.slice A n c, .slice A2 n2 c2] w fun e w' => e = .returned (.bool true) ∧ Below w.heap.size w w' := by
  have HV := hid (live_any w hL)
  have HF := hid (fun w1 (hb : Below w.heap.size w w1) => by have := rfew_any f w1 K A n c 12 (ht.below hb) (by decide) (by decide); rwa [hfew] at this)
  have HF2 := hid (fun w1 (hb : Below w.heap.size w w1) => by have := rfew_any g w1 K2 A2 n2 c2 12 (ht2.below hb) (by decide) (by decide); rwa [hfew2] at this)
  clear hL ht ht2 hfew hfew2
  go_enter Tryz.func5, Tryz.ntmps5
  go_wp2_with (go_at_call 11; refine HV.out.mono ?_; rintro e w1 ⟨rfl, g1⟩; have B1 := hid g1; clear g1)
  go_at_call 16
  refine (HF.out w1 B1.out).mono ?_
  rintro e w2 ⟨rfl, g2⟩
  have B2 := hid (B1.out.trans (g2.mono B1.out.size))
  clear g2
  go_wp2_with fail
  go_at_call 16
  refine (HF2.out w2 B2.out).mono ?_
  rintro e w3 ⟨rfl, g3⟩
  have B3 := hid (B2.out.trans (g3.mono B2.out.size))
  clear g3
  go_wp2_with fail
  go_ret
  exact ⟨rfl, B3.out⟩
set_option maxHeartbeats 4000000 in
set_option maxRecDepth 100000 in
theorem flats_many (f g : Fo) (w : World) (K K2 : Nat → Prop) (A A2 : Option Addr) (n c n2 c2 : Nat) (hL : LaidW w) (ht : TrS w K A n f) (ht2 : TrS w K2 A2 n2 g) (hfew : (fewH f.len 12 && f.fewE 12) = true) (hfew2 : (fewH g.len 12 && g.fewE 12) = true) (hc1 : f.count ≤ 209715) (hc2 : g.count ≤ 209715) (hm : 2500 < (f.count : Int) + (g.count : Int)) :
    Calls Tryz.prog 5 #[.slice A n c, .slice A2 n2 c2] w fun e w' => e = .returned (.bool true) ∧ Below w.heap.size w w' := by
  have HV := hid (live_any w hL)
  have HF := hid (fun w1 (hb : Below w.heap.size w w1) => by have := rfew_any f w1 K A n c 12 (ht.below hb) (by decide) (by decide); rwa [hfew] at this)
  have HF2 := hid (fun w1 (hb : Below w.heap.size w w1) => by have := rfew_any g w1 K2 A2 n2 c2 12 (ht2.below hb) (by decide) (by decide); rwa [hfew2] at this)
  obtain ⟨hokL, hokS, hokN, hdep⟩ := few_ok hfew
  obtain ⟨hokL2, hokS2, hokN2, hdep2⟩ := few_ok hfew2
  have HC := hid (fun w1 (hb : Below w.heap.size w w1) => rcount_any f w1 K A n c (ht.below hb) (by omega))
  have HC2 := hid (fun w1 (hb : Below w.heap.size w w1) => rcount_any g w1 K2 A2 n2 c2 (ht2.below hb) (by omega))
  have hz1 : (f.count : Int) ≤ 209715 := by omega
  have hz2 : (g.count : Int) ≤ 209715 := by omega
  generalize f.count = C1 at *
  generalize g.count = C2 at *
  clear hL ht ht2 hfew hfew2 hokL hokS hokN hdep hokL2 hokS2 hokN2 hdep2 hc1 hc2
  go_enter Tryz.func5, Tryz.ntmps5
  go_wp2_with (go_at_call 11; refine HV.out.mono ?_; rintro e w1 ⟨rfl, g1⟩; have B1 := hid g1; clear g1)
  go_at_call 16
  refine (HF.out w1 B1.out).mono ?_
  rintro e w2 ⟨rfl, g2⟩
  have B2 := hid (B1.out.trans (g2.mono B1.out.size))
  clear g2
  go_wp2_with fail
  go_at_call 16
  refine (HF2.out w2 B2.out).mono ?_
  rintro e w3 ⟨rfl, g3⟩
  have B3 := hid (B2.out.trans (g3.mono B2.out.size))
  clear g3
  go_wp2_with (first
    | (go_at_call 17; refine (HC2.out w4 B4.out).mono ?_; rintro e w5 ⟨rfl, b⟩; have B5 := hid (B4.out.trans (b.mono B4.out.size)); clear b)
    | (go_at_call 17; refine (HC.out w3 B3.out).mono ?_; rintro e w4 ⟨rfl, b⟩; have B4 := hid (B3.out.trans (b.mono B3.out.size)); clear b))
  go_ret
  exact ⟨rfl, B5.out⟩
set_option maxHeartbeats 4000000 in
set_option maxRecDepth 100000 in
theorem flats_ok (f g : Fo) (w : World) (K K2 : Nat → Prop) (A A2 : Option Addr) (n c n2 c2 : Nat) (hL : LaidW w) (ht : TrS w K A n f) (ht2 : TrS w K2 A2 n2 g) (hK : ∀ k, K k → k < w.heap.size) (hK2 : ∀ k, K2 k → k < w.heap.size) (hfew : (fewH f.len 12 && f.fewE 12) = true) (hfew2 : (fewH g.len 12 && g.fewE 12) = true) (hc1 : f.count ≤ 209715) (hc2 : g.count ≤ 209715) (hm : ¬ 2500 < (f.count : Int) + (g.count : Int)) :
    Calls Tryz.prog 5 #[.slice A n c, .slice A2 n2 c2] w fun e w' => e = .returned (.bool true) ∧ Below w.heap.size w w' := by
  have HV := hid (live_any w hL)
  have HF := hid (fun w1 (hb : Below w.heap.size w w1) => by have := rfew_any f w1 K A n c 12 (ht.below hb) (by decide) (by decide); rwa [hfew] at this)
  have HF2 := hid (fun w1 (hb : Below w.heap.size w w1) => by have := rfew_any g w1 K2 A2 n2 c2 12 (ht2.below hb) (by decide) (by decide); rwa [hfew2] at this)
  obtain ⟨hokL, hokS, hokN, hdep⟩ := few_ok hfew
  obtain ⟨hokL2, hokS2, hokN2, hdep2⟩ := few_ok hfew2
  have HC := hid (fun w1 (hb : Below w.heap.size w w1) => rcount_any f w1 K A n c (ht.below hb) (by omega))
  have HC2 := hid (fun w1 (hb : Below w.heap.size w w1) => rcount_any g w1 K2 A2 n2 c2 (ht2.below hb) (by omega))
  have hfl : f.len ≤ f.count := f.len_le
  have hgl : g.len ≤ g.count := g.len_le
  have hn1 : n ≤ 2500 := by rw [ht.len]; omega
  have hn2 : n2 ≤ 2500 := by rw [ht2.len]; omega
  have TX := hid (fun w1 (hb : Below w.heap.size w w1) => ht.below hb)
  have TY := hid (fun w1 (hb : Below w.heap.size w w1) => ht2.below hb)
  have hfc := Fo.count_app f g
  have hfd := Fo.depth_app f g
  have FA := hid (fun w1 A' n' c' (t : TrS w1 (fun k => k < w1.heap.size) A' n' (f.app g)) => flat_any (f.app g) w1 _ A' n' c' t (fun k hk => hk) (by rw [hfc]; omega) (okS_app hokS hokS2))
  have FL := hid (fun wx (hb : Below w.heap.size w wx) => flat_any f wx K A n c (ht.below hb) (fun k hk => Nat.lt_of_lt_of_le (hK k hk) hb.size) (by omega) hokS)
  have FL2 := hid (fun wx (hb : Below w.heap.size w wx) => flat_any g wx K2 A2 n2 c2 (ht2.below hb) (fun k hk => Nat.lt_of_lt_of_le (hK2 k hk) hb.size) (by omega) hokS2)
  have SA := hid (fun wx K' K3 A' n' c' A3 n3 c3 (t1 : TrS wx K' A' n' (f.app g).flat) (t2 : TrS wx K3 A3 n3 (f.flat.app g.flat)) => by
    have := psame_any (f.app g).flat (f.flat.app g.flat) wx K' K3 A' A3 n' c' n3 c3 t1 t2 (by rw [count_flat, hfc]; omega) (by rw [Fo.count_app, count_flat, count_flat]; omega) (okN_flat (okN_app hokN hokN2)) (okN_app (okN_flat hokN) (okN_flat hokN2))
    rwa [decide_eq_true (Fo.flat_app f g)] at this)
  have CA := hid (fun wx A' n' c' (t : TrS wx (fun k => k < wx.heap.size) A' n' (f.app g)) => count_any (f.app g) wx _ A' n' c' t (by rw [hfc]; omega))
  have DA := hid (fun wx A' n' c' (t : TrS wx (fun k => k < wx.heap.size) A' n' (f.app g)) => depth_any (f.app g) wx _ A' n' c' t (by rw [hfc]; omega))
  have CL := hid (fun wx (hb : Below w.heap.size w wx) => count_any f wx K A n c (ht.below hb) (by omega))
  have CL2 := hid (fun wx (hb : Below w.heap.size w wx) => count_any g wx K2 A2 n2 c2 (ht2.below hb) (by omega))
  have DL := hid (fun wx (hb : Below w.heap.size w wx) => depth_any f wx K A n c (ht.below hb) (by omega))
  have DL2 := hid (fun wx (hb : Below w.heap.size w wx) => depth_any g wx K2 A2 n2 c2 (ht2.below hb) (by omega))
  have NB := hid (noB_flat (f.app g))
  have LN := hid (Fo.len_flat (f.app g))
  have LN2 := hid (show f.flat.len + g.flat.len ≤ 2500 by rw [Fo.len_flat, Fo.len_flat]; omega)
  have hC : ((f.app g).count : Int) = (f.count : Int) + (g.count : Int) := by rw [hfc]; omega
  have hD : ((f.app g).depth : Int) = max (f.depth : Int) (g.depth : Int) := by rw [hfd]; omega
  have hz1 : (f.count : Int) ≤ 2500 := by omega
  have hz2 : (g.count : Int) ≤ 2500 := by omega
  have hd1 : (f.depth : Int) ≤ 13 := by omega
  have hd2 : (g.depth : Int) ≤ 13 := by omega
  clear hL ht ht2 hfew hfew2 hokL hokS hokN hdep hokL2 hokS2 hokN2 hdep2 hc1 hc2 hfl hgl hK hK2 hfc hfd
  go_enter Tryz.func5, Tryz.ntmps5
  go_wp2_with (go_at_call 11; refine HV.out.mono ?_; rintro e w1 ⟨rfl, g1⟩; have B1 := hid g1; clear g1)
  go_at_call 16
  refine (HF.out w1 B1.out).mono ?_
  rintro e w2 ⟨rfl, g2⟩
  have B2 := hid (B1.out.trans (g2.mono B1.out.size))
  clear g2
  go_wp2_with fail
  go_at_call 16
  refine (HF2.out w2 B2.out).mono ?_
  rintro e w3 ⟨rfl, g3⟩
  have B3 := hid (B2.out.trans (g3.mono B2.out.size))
  clear g3
  go_wp2_with (first
    | (go_at_call 17; refine (HC2.out w4 B4.out).mono ?_; rintro e w5 ⟨rfl, b⟩; have B5 := hid (B4.out.trans (b.mono B4.out.size)); clear b)
    | (go_at_call 17; refine (HC.out w3 B3.out).mono ?_; rintro e w4 ⟨rfl, b⟩; have B4 := hid (B3.out.trans (b.mono B3.out.size)); clear b)
    | (have hk0 := L10.out; clear hk0; refine Sh.wp_app smS (base := w8.heap.size) rfl (.tmp 36) (.tmp 38) rfl rfl (L9.out.ow.below b10.out) rfl L10.out.ow.row (by have := LN2.out; have := L9.out.len; have := L10.out.len; omega) (Nat.le_trans b9.out.size b10.out.size) ?_; intro A11 c11 w11 own11 gr11 li11; have T11 := hid (two_flat L9.out b10.out L10.out own11 gr11); have J11 := hid (Below.mono (b10.out.mono b9.out.size |>.trans (Sh.grown_below smS (L9.out.ow.below b10.out) (Nat.le_trans b9.out.size b10.out.size) gr11)) (Nat.le_refl _)); have B11 := hid (B9.out.trans ((b10.out.mono (Nat.le_trans B8.out.size b9.out.size)).trans ((Sh.grown_below smS (L9.out.ow.below b10.out) (Nat.le_trans b9.out.size b10.out.size) gr11).mono B8.out.size))); have HML := hid (show n9 + n10 ≤ 2500 from (by have := LN2.out; have := L9.out.len; have := L10.out.len; omega)); obtain ⟨M, hM⟩ : ∃ M, n9 + n10 = M := ⟨_, rfl⟩; rw [hM] at own11 HML T11 ⊢; clear own11 gr11 li11 hM)
    | (go_at_call 18; refine (FL2.out w9 B9.out).mono ?_; rintro e w10 ⟨A10, n10, c10, xs10, rfl, lo10, b⟩; have L10 := hid lo10; have b10 := hid b; clear lo10 b)
    | (go_at_call 18; refine (FL.out w8 B8.out).mono ?_; rintro e w9 ⟨A9, n9, c9, xs9, rfl, lo9, b⟩; have B9 := hid (B8.out.trans (b.mono B8.out.size)); have L9 := hid lo9; have b9 := hid b; clear lo9 b)
    | (go_at_call 18; refine (FA.out w7 A7 (n + n2) c7 X7.out).mono ?_; rintro e w8 ⟨A8, n8, c8, xs8, rfl, lo8, b⟩; have B8 := hid (B7.out.trans (b.mono B7.out.size)); have L8 := hid lo8; have b8 := hid b; clear lo8 b)
    | (have hk0 := OD.out; clear hk0; refine Sh.wp_app smS rfl (.tmp 30) (.tmp 31) rfl rfl OD.out rfl (YR.out w6 GB.out).size (by omega) GB.out.size ?_; intro A7 c7 w7 own7 gr7 li7; have XX := two_app (XR.out w5 (Below.refl _ _)).2 (YR2.out) GD.out OD.out gr7 own7; have X7 := hid XX.1; have B7 := hid (B5.out.trans (XX.2.mono B5.out.size)); clear own7 gr7 li7 XX)
    | (have hk1 := B5.out; clear hk1; obtain ⟨xs, hx, htx⟩ := TX.out w5 B5.out; obtain ⟨ys, hy, hty⟩ := TY.out w5 B5.out; have XR := hid (fun wx (hb : Below w5.heap.size w5 wx) => And.intro (hx.below hb) (htx.below hb)); have YR := hid (fun wx (hb : Below w5.heap.size w5 wx) => hy.below hb); have YR2 := hid hty; clear hx htx hy hty; refine Sh.wp_app smS (l := []) (base := w5.heap.size) rfl (.const (.slice none 0 0)) (.tmp 29) rfl rfl (Sh.Ow.nil _ _) rfl ((XR.out w5 (Below.refl _ _)).1.size) (by omega) (Nat.le_refl _) ?_; intro A6 c6 w6 own6 gr6 li6; (simp only [Nat.zero_add, List.nil_append] at own6 ⊢); have GD := hid gr6; have OD := hid own6; have GB := hid ((Below.refl w5.heap.size w5).grown gr6 (Nat.le_refl _) (fun k hk => by cases hk)); clear own6 gr6 li6))
  have T8 := hid L8.out.tree
  have R8 := hid L8.out.ow.row
  have TR8 := hid L8.out.tr
  have J8 := hid (b9.out.trans J11.out)
  have J7 := hid (b8.out.trans (J8.out.mono b8.out.size))
  have hn8 : n8 = (f.app g).count := by rw [← LN.out, L8.out.len]
  have HN8 := hid hn8
  have hn8b : (n8 : Int) ≤ 2500 := by rw [hn8]; omega
  have HXL := hid (show xs8.length = n8 from L8.out.ow.len)
  clear L8 L9 L10 b8 b9 b10 J11 hn8
  go_loopw [42] (fun v42 wr => ∃ (j : Nat) (r : Fo), v42 = .int .i64 (j : Int) ∧ j ≤ n8 ∧ r.noB ∧ Tr w8 (fun k => w7.heap.size ≤ k ∧ k < w8.heap.size ∧ some k ≠ Value.ownBlock (.slice A8 n8 c8)) r (xs8.drop j) ∧ Below w11.heap.size w11 wr) (fun v42 _ => n8 - (intOf v42).toNat)
  case atStart => exact ⟨0, _, rfl, Nat.zero_le _, NB.out, by simpa using TR8.out, Below.refl _ _⟩
  case round =>
    obtain ⟨j, r, rfl, hj, hnb, htr, hbel⟩ := hrel
    have Z11 := hid hbel
    by_cases hjl : j < n8
    · obtain ⟨wd, ns, bl, y, nx, rfl, _, _, _, hy, hnx⟩ := htr.step (by rw [HXL.out]; exact hjl)
      obtain ⟨bb, o, rfl, hb, hcell⟩ := (R8.out.below (J8.out.trans (hbel.mono J8.out.size))).at_ hjl
      have hbn : (smS.nth xs8 j).bn = 0 := by rw [hy.len, hnb.1]; rfl
      have HNX := hid (And.intro hnb.2 hnx)
      generalize smS.nth xs8 j = x at *
      obtain ⟨xw, xA, xn, xc, xb, xB, xm, xk⟩ := x
      simp only at hbn
      subst hbn
      have r1 : wr.rangeAt bb (o + j * 4) (smS.enc ⟨xw, xA, xn, xc, xb, xB, 0, xk⟩) := hcell
      clear hcell htr hnx hy hb hbel hnb
      go_wp2_with (first
        | (refine Sh.wp_sv smS (x := ⟨xw, xA, xn, xc, xb, xB, 0, xk⟩) rfl (.tmp 10) (.tmp 45) rfl rfl (by rfl) q2 ?_; intro wv q3 b3 o3 s3; have c3 : wv.cell? ⟨wr.heap.size, 3, none⟩ = some (.slice xB 0 xk) := q3.cell (j := 3) rfl; have B3 := hid (Z11.out.trans ((B2.out.trans (b3.mono (Nat.le_refl _))).mono Z11.out.size)); clear q3 b3 o3 s3 q2)
        | (refine Sh.wp_al smS rfl rfl ?_; intro wu q2 b2 s2; have B2 := hid b2; clear b2 s2)
        | (refine Sh.wp_ld smS rfl (.tmp 44) rfl rfl r1 ?_))
      go_roundw
      case rel => exact ⟨j + 1, nx, by go_num, by omega, HNX.out.1, HNX.out.2, B3.out⟩
      case measure => simp [intOf]; omega
    · obtain rfl : j = n8 := by omega
      clear htr hbel hnb
      have hn8 : (j : Int) = (f.count : Int) + (g.count : Int) := by rw [HN8.out]; exact hC
      generalize (f.app g).count = C3 at *
      generalize (f.app g).depth = D3 at *
      generalize f.count = C1 at *
      generalize g.count = C2 at *
      generalize f.depth = D1 at *
      generalize g.depth = D2 at *
      go_wp2_with (first
      | (go_at_call 22; refine (CL2.out w18 (B11.out.trans (Z18.out.mono B11.out.size))).mono ?_; rintro e w19 ⟨rfl, b⟩; have Z19 := hid (Z18.out.trans (b.mono Z18.out.size)); clear b)
      | (go_at_call 22; refine (CL.out w17 (B11.out.trans (Z17.out.mono B11.out.size))).mono ?_; rintro e w18 ⟨rfl, b⟩; have Z18 := hid (Z17.out.trans (b.mono Z17.out.size)); clear b)
      | (go_at_call 22; refine (CA.out w16 A7 (n + n2) c7 (X7.out.up (J7.out.trans (Z16.out.mono J7.out.size)))).mono ?_; rintro e w17 ⟨rfl, b⟩; have Z17 := hid (Z16.out.trans (b.mono Z16.out.size)); clear b)
      | (go_at_call 23; refine (DL2.out w15 (B11.out.trans (Z15.out.mono B11.out.size))).mono ?_; rintro e w16 ⟨rfl, b⟩; have Z16 := hid (Z15.out.trans (b.mono Z15.out.size)); clear b)
      | (go_at_call 23; refine (DL.out w14 (B11.out.trans (Z14.out.mono B11.out.size))).mono ?_; rintro e w15 ⟨rfl, b⟩; have Z15 := hid (Z14.out.trans (b.mono Z14.out.size)); clear b)
      | (go_at_call 23; refine (DA.out w13 A7 (n + n2) c7 (X7.out.up (J7.out.trans (Z13.out.mono J7.out.size)))).mono ?_; rintro e w14 ⟨rfl, b⟩; have Z14 := hid (Z13.out.trans (b.mono Z13.out.size)); clear b)
      | (go_at_call 22; refine (CA.out w12 A7 (n + n2) c7 (X7.out.up (J7.out.trans (Z12.out.mono J7.out.size)))).mono ?_; rintro e w13 ⟨rfl, b⟩; have Z13 := hid (Z12.out.trans (b.mono Z12.out.size)); clear b)
      | (go_at_call 25; refine (SA.out wr _ _ A8 j c8 A11 M c11 (T8.out.below (J8.out.trans (Z11.out.mono J8.out.size))) (T11.out.below Z11.out)).mono ?_; rintro e w12 ⟨rfl, b⟩; have Z12 := hid (Z11.out.trans (b.mono Z11.out.size)); clear b))
      go_ret
      exact ⟨rfl, B11.out.trans (Z19.out.mono B11.out.size)⟩
theorem flats_any (f g : Fo) (w : World) (K K2 : Nat → Prop) (A A2 : Option Addr) (n c n2 c2 : Nat) (hL : LaidW w) (ht : TrS w K A n f) (ht2 : TrS w K2 A2 n2 g) (hK : ∀ k, K k → k < w.heap.size) (hK2 : ∀ k, K2 k → k < w.heap.size) (hc1 : f.count ≤ 209715) (hc2 : g.count ≤ 209715) :
    Calls Tryz.prog 5 #[.slice A n c, .slice A2 n2 c2] w fun e w' => e = .returned (.bool true) ∧ Below w.heap.size w w' := by
  cases hfew : (fewH f.len 12 && f.fewE 12) with
  | false => exact flats_few1 f g w K K2 A A2 n c n2 c2 hL ht ht2 hfew
  | true =>
    cases hfew2 : (fewH g.len 12 && g.fewE 12) with
    | false => exact flats_few2 f g w K K2 A A2 n c n2 c2 hL ht ht2 hfew hfew2
    | true =>
      by_cases hm : 2500 < (f.count : Int) + (g.count : Int)
      · exact flats_many f g w K K2 A A2 n c n2 c2 hL ht ht2 hfew hfew2 hc1 hc2 hm
      · exact flats_ok f g w K K2 A A2 n c n2 c2 hL ht ht2 hK hK2 hfew hfew2 hc1 hc2 hm
theorem flats_row (A : Option Addr) (n c : Nat) (f : Fo) (A2 : Option Addr) (n2 c2 : Nat) (g : Fo) (w : World) (hL : LaidW w) (ht : TrS w (fun b => b < w.heap.size) A n f) (h1 : f.count ≤ 209715) (ht2 : TrS w (fun b => b < w.heap.size) A2 n2 g) (h2 : g.count ≤ 209715) :
    Calls Tryz.prog 5 #[.slice A n c, .slice A2 n2 c2] w fun e w' => e = .returned (.bool true) ∧ Below w.heap.size w w' := flats_any f g w _ _ A A2 n c n2 c2 hL ht ht2 (fun _ h => h) (fun _ h => h) h1 h2
end Go.Proofs.YtkfnkieljcipnaaGreatDoor
