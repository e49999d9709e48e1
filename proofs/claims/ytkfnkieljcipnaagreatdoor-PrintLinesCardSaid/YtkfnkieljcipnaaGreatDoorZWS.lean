/-
  The walk of PrintLines: it is true; under: the tables hold what the program lays.
-/
import Derived.Test.YtkfnkieljcipnaaGreatDoorZWQ
import Derived.Test.YtkfnkieljcipnaaGreatDoorK8
namespace Go.Proofs.YtkfnkieljcipnaaGreatDoor
open Go Go.RowKit Go.Joins

theorem few_len {f : Fo} (h : (fewH f.len 12 && f.fewE 12) = true) : f.len ≤ 2100 := by
  simp only [Bool.and_eq_true] at h
  have := h.1
  simp only [fewH, Bool.and_eq_true, decide_eq_true_eq] at this
  exact this.2
set_option maxHeartbeats 4000000 in
set_option maxRecDepth 100000 in
theorem lines_few1 (f g : Fo) (w : World) (K K2 : Nat → Prop) (A A2 : Option Addr) (n c n2 c2 : Nat) (hL : LaidW w) (ht : TrS w K A n f) (_ : TrS w K2 A2 n2 g) (hfew : (fewH f.len 12 && f.fewE 12) = false) :
    Calls Tryz.prog 10 #[.slice A n c, .slice A2 n2 c2] w fun e w' => e = .returned (.bool true) ∧ Below w.heap.size w w' := by
  have HV := hid (live16_any w hL)
  have HF := hid (fun w1 (hb : Below w.heap.size w w1) => by have := rfew_any f w1 K A n c 12 (ht.below hb) (by decide) (by decide); rwa [hfew] at this)
  clear hL ht hfew
  go_enter Tryz.func10, Tryz.ntmps10
  go_wp2_with (go_at_call 26; refine HV.out.mono ?_; rintro e w1 ⟨rfl, g1⟩; have B1 := hid g1; clear g1)
  go_at_call 16
  refine (HF.out w1 B1.out).mono ?_
  rintro e w2 ⟨rfl, g2⟩
  have B2 := hid (B1.out.trans (g2.mono B1.out.size))
  clear g2
  go_wp2_with fail
  go_ret
  exact ⟨rfl, B2.out⟩
set_option maxHeartbeats 4000000 in
set_option maxRecDepth 100000 in
theorem lines_few2 (f g : Fo) (w : World) (K K2 : Nat → Prop) (A A2 : Option Addr) (n c n2 c2 : Nat) (hL : LaidW w) (ht : TrS w K A n f) (ht2 : TrS w K2 A2 n2 g) (hfew : (fewH f.len 12 && f.fewE 12) = true) (hfew2 : (fewH g.len 12 && g.fewE 12) = false) :
    Calls Tryz.prog 10 #[.slice A n c, .slice A2 n2 c2] w fun e w' => e = .returned (.bool true) ∧ Below w.heap.size w w' := by
  have HV := hid (live16_any w hL)
  have HF := hid (fun w1 (hb : Below w.heap.size w w1) => by have := rfew_any f w1 K A n c 12 (ht.below hb) (by decide) (by decide); rwa [hfew] at this)
  have HF2 := hid (fun w1 (hb : Below w.heap.size w w1) => by have := rfew_any g w1 K2 A2 n2 c2 12 (ht2.below hb) (by decide) (by decide); rwa [hfew2] at this)
  clear hL ht ht2 hfew hfew2
  go_enter Tryz.func10, Tryz.ntmps10
  go_wp2_with (go_at_call 26; refine HV.out.mono ?_; rintro e w1 ⟨rfl, g1⟩; have B1 := hid g1; clear g1)
  go_at_call 16
  refine (HF.out w1 B1.out).mono ?_
  rintro e w2 ⟨rfl, g2⟩
  have B2 := hid (B1.out.trans (g2.mono B1.out.size))
  clear g2
  go_wp2_with fail
  go_at_call 16
  refine (HF2.out w2 B2.out).mono ?_
  rintro e w3 ⟨rfl, g3⟩
  have B3 := hid (B2.out.trans (g3.mono B2.out.size))
  clear g3
  go_wp2_with fail
  go_ret
  exact ⟨rfl, B3.out⟩
set_option maxHeartbeats 4000000 in
set_option maxRecDepth 100000 in
theorem lines_many (f g : Fo) (w : World) (K K2 : Nat → Prop) (A A2 : Option Addr) (n c n2 c2 : Nat) (hL : LaidW w) (ht : TrS w K A n f) (ht2 : TrS w K2 A2 n2 g) (hfew : (fewH f.len 12 && f.fewE 12) = true) (hfew2 : (fewH g.len 12 && g.fewE 12) = true) (hm : 2500 < wrap64 (IntKind.i64.wrap (f.count : Nat) + IntKind.i64.wrap (g.count : Nat))) :
    Calls Tryz.prog 10 #[.slice A n c, .slice A2 n2 c2] w fun e w' => e = .returned (.bool true) ∧ Below w.heap.size w w' := by
  have HV := hid (live16_any w hL)
  have HF := hid (fun w1 (hb : Below w.heap.size w w1) => by have := rfew_any f w1 K A n c 12 (ht.below hb) (by decide) (by decide); rwa [hfew] at this)
  have HF2 := hid (fun w1 (hb : Below w.heap.size w w1) => by have := rfew_any g w1 K2 A2 n2 c2 12 (ht2.below hb) (by decide) (by decide); rwa [hfew2] at this)
  obtain ⟨hokL, hokS, hokN, hdep⟩ := few_ok hfew
  obtain ⟨hokL2, hokS2, hokN2, hdep2⟩ := few_ok hfew2
  have HC := hid (fun w1 (hb : Below w.heap.size w w1) => rcount2_any f w1 K A n c (ht.below hb) hokL)
  have HC2 := hid (fun w1 (hb : Below w.heap.size w w1) => rcount2_any g w1 K2 A2 n2 c2 (ht2.below hb) hokL2)
  generalize IntKind.i64.wrap ((f.count : Nat) : Int) = m1 at *
  generalize IntKind.i64.wrap ((g.count : Nat) : Int) = m2 at *
  clear hL ht ht2 hfew hfew2 hokL hokS hokN hdep hokL2 hokS2 hokN2 hdep2
  go_enter Tryz.func10, Tryz.ntmps10
  go_wp2_with (go_at_call 26; refine HV.out.mono ?_; rintro e w1 ⟨rfl, g1⟩; have B1 := hid g1; clear g1)
  go_at_call 16
  refine (HF.out w1 B1.out).mono ?_
  rintro e w2 ⟨rfl, g2⟩
  have B2 := hid (B1.out.trans (g2.mono B1.out.size))
  clear g2
  go_wp2_with fail
  go_at_call 16
  refine (HF2.out w2 B2.out).mono ?_
  rintro e w3 ⟨rfl, g3⟩
  have B3 := hid (B2.out.trans (g3.mono B2.out.size))
  clear g3
  go_wp2_with (first
    | (go_at_call 17; refine (HC2.out w4 B4.out).mono ?_; rintro e w5 ⟨rfl, b⟩; have B5 := hid (B4.out.trans (b.mono B4.out.size)); clear b)
    | (go_at_call 17; refine (HC.out w3 B3.out).mono ?_; rintro e w4 ⟨rfl, b⟩; have B4 := hid (B3.out.trans (b.mono B3.out.size)); clear b))
  go_ret
  exact ⟨rfl, B5.out⟩
set_option maxHeartbeats 4000000 in
set_option maxRecDepth 100000 in
theorem lines_e1 (f g : Fo) (w : World) (K K2 : Nat → Prop) (A A2 : Option Addr) (n c n2 c2 : Nat) (hL : LaidW w) (ht : TrS w K A n f) (ht2 : TrS w K2 A2 n2 g) (hK : ∀ k, K k → k < w.heap.size) (hK2 : ∀ k, K2 k → k < w.heap.size) (hfew : (fewH f.len 12 && f.fewE 12) = true) (hfew2 : (fewH g.len 12 && g.fewE 12) = true) (hm : ¬ 2500 < wrap64 (IntKind.i64.wrap (f.count : Nat) + IntKind.i64.wrap (g.count : Nat))) (h3 : prE (f.app g) ≠ 0) (h1 : prE f ≠ 0) :
    Calls Tryz.prog 10 #[.slice A n c, .slice A2 n2 c2] w fun e w' => e = .returned (.bool true) ∧ Below w.heap.size w w' := by
  have HV := hid (live16_any w hL)
  have HF := hid (fun w1 (hb : Below w.heap.size w w1) => by have := rfew_any f w1 K A n c 12 (ht.below hb) (by decide) (by decide); rwa [hfew] at this)
  have HF2 := hid (fun w1 (hb : Below w.heap.size w w1) => by have := rfew_any g w1 K2 A2 n2 c2 12 (ht2.below hb) (by decide) (by decide); rwa [hfew2] at this)
  obtain ⟨hokL, hokS, hokN, hdep⟩ := few_ok hfew
  obtain ⟨hokL2, hokS2, hokN2, hdep2⟩ := few_ok hfew2
  have HC := hid (fun w1 (hb : Below w.heap.size w w1) => rcount2_any f w1 K A n c (ht.below hb) hokL)
  have HC2 := hid (fun w1 (hb : Below w.heap.size w w1) => rcount2_any g w1 K2 A2 n2 c2 (ht2.below hb) hokL2)
  have HP := hid (fun w1 (hb : Below w.heap.size w w1) => print_any f w1 K A n c (hL.below hb) (ht.below hb) (fun k hk => Nat.lt_of_lt_of_le (hK k hk) hb.size) (chk2_at (ht.below hb) hokS hokL hdep))
  have HP2 := hid (fun w1 (hb : Below w.heap.size w w1) => print_any g w1 K2 A2 n2 c2 (hL.below hb) (ht2.below hb) (fun k hk => Nat.lt_of_lt_of_le (hK2 k hk) hb.size) (chk2_at (ht2.below hb) hokS2 hokL2 hdep2))
  have hfl := (few_len hfew)
  have hgl := (few_len hfew2)
  have HP3 := hid (fun w1 A' n' c' (hb : Below w.heap.size w w1) (t : TrS w1 (fun k => k < w1.heap.size) A' n' (f.app g)) => print_any (f.app g) w1 _ A' n' c' (hL.below hb) t (fun k hk => hk)
    (fun w2 hb2 => check2_any (f.app g) w2 _ A' n' c' (t.below hb2) (okS_app hokS hokS2) ⟨by rw [Fo.len_app]; omega, okB_app hokL.2 hokL2.2⟩ (by rw [Fo.depth_app]; omega)))
  have hn1 : n ≤ 2100 := by rw [ht.len]; exact hfl
  have hn2 : n2 ≤ 2100 := by rw [ht2.len]; exact hgl
  have TX := hid (fun w1 (hb : Below w.heap.size w w1) => ht.below hb)
  have TY := hid (fun w1 (hb : Below w.heap.size w w1) => ht2.below hb)
  rw [prT_no h3] at HP3
  generalize IntKind.i64.wrap ((f.count : Nat) : Int) = m1 at *
  generalize IntKind.i64.wrap ((g.count : Nat) : Int) = m2 at *
  generalize prE (f.app g) = e3 at *
  generalize prE g = e2 at *
  generalize prE f = e1 at *
  have k3 : ((e3 : Int) != 0) = true := by simp; exact h3
  have k3' : ((e3 : Int) == 0) = false := by simp; exact h3
  have k1 : ((e1 : Int) != 0) = true := by simp; exact h1
  have k1' : ((e1 : Int) == 0) = false := by simp; exact h1
  clear hL ht ht2 hfew hfew2 hokL hokS hokN hdep hokL2 hokS2 hokN2 hdep2 hfl hgl hK hK2
  go_enter Tryz.func10, Tryz.ntmps10
  go_wp2_with (go_at_call 26; refine HV.out.mono ?_; rintro e w1 ⟨rfl, g1⟩; have B1 := hid g1; clear g1)
  go_at_call 16
  refine (HF.out w1 B1.out).mono ?_
  rintro e w2 ⟨rfl, g2⟩
  have B2 := hid (B1.out.trans (g2.mono B1.out.size))
  clear g2
  go_wp2_with fail
  go_at_call 16
  refine (HF2.out w2 B2.out).mono ?_
  rintro e w3 ⟨rfl, g3⟩
  have B3 := hid (B2.out.trans (g3.mono B2.out.size))
  clear g3
  go_wp2_with (first
    | (go_at_call 17; refine (HC2.out w4 B4.out).mono ?_; rintro e w5 ⟨rfl, b⟩; have B5 := hid (B4.out.trans (b.mono B4.out.size)); clear b)
    | (go_at_call 17; refine (HC.out w3 B3.out).mono ?_; rintro e w4 ⟨rfl, b⟩; have B4 := hid (B3.out.trans (b.mono B3.out.size)); clear b)
    | (go_at_call 27; refine (HP3.out w9 A9 (n + n2) c9 B9.out X9.out).mono ?_; rintro e w10 ⟨rfl, b⟩; have B10 := hid (B9.out.trans (b.mono B9.out.size)); clear b)
    | (have hk0 := OD.out; clear hk0; refine Sh.wp_app smS rfl (.tmp 48) (.tmp 49) rfl rfl OD.out rfl (YR.out w8 GB.out).size (by omega) GB.out.size ?_; intro A9 c9 w9 own7 gr7 li7; have XX := two_app (XR.out w7 (Below.refl _ _)).2 (YR2.out) GD.out OD.out gr7 own7; have X9 := hid XX.1; have B9 := hid (B7.out.trans (XX.2.mono B7.out.size)); clear own7 gr7 li7 XX)
    | (refine Sh.wp_app smS (l := []) (base := w7.heap.size) rfl (.const (.slice none 0 0)) (.tmp 47) rfl rfl (Sh.Ow.nil _ _) rfl ((XR.out w7 (Below.refl _ _)).1.size) (by omega) (Nat.le_refl _) ?_; intro A8 c8 w8 own6 gr6 li6; (simp only [Nat.zero_add, List.nil_append] at own6 ⊢); have GD := hid gr6; have OD := hid own6; have GB := hid ((Below.refl w7.heap.size w7).grown gr6 (Nat.le_refl _) (fun k hk => by cases hk)); clear own6 gr6 li6)
    | (go_at_call 27; refine (HP2.out w6 B6.out).mono ?_; rintro e w7 ⟨rfl, b⟩; have B7 := hid (B6.out.trans (b.mono B6.out.size)); clear b; obtain ⟨xs, hx, htx⟩ := TX.out w7 B7.out; obtain ⟨ys, hy, hty⟩ := TY.out w7 B7.out; have XR := hid (fun wx (hb : Below w7.heap.size w7 wx) => And.intro (hx.below hb) (htx.below hb)); have YR := hid (fun wx (hb : Below w7.heap.size w7 wx) => hy.below hb); have YR2 := hid hty; clear hx htx hy hty)
    | (go_at_call 27; refine (HP.out w5 B5.out).mono ?_; rintro e w6 ⟨rfl, b⟩; have B6 := hid (B5.out.trans (b.mono B5.out.size)); clear b))
  go_ret
  exact ⟨rfl, B10.out⟩
set_option maxHeartbeats 4000000 in
set_option maxRecDepth 100000 in
theorem lines_e2 (f g : Fo) (w : World) (K K2 : Nat → Prop) (A A2 : Option Addr) (n c n2 c2 : Nat) (hL : LaidW w) (ht : TrS w K A n f) (ht2 : TrS w K2 A2 n2 g) (hK : ∀ k, K k → k < w.heap.size) (hK2 : ∀ k, K2 k → k < w.heap.size) (hfew : (fewH f.len 12 && f.fewE 12) = true) (hfew2 : (fewH g.len 12 && g.fewE 12) = true) (hm : ¬ 2500 < wrap64 (IntKind.i64.wrap (f.count : Nat) + IntKind.i64.wrap (g.count : Nat))) (h3 : prE (f.app g) ≠ 0) (h1 : prE f = 0) (h2 : prE g ≠ 0) :
    Calls Tryz.prog 10 #[.slice A n c, .slice A2 n2 c2] w fun e w' => e = .returned (.bool true) ∧ Below w.heap.size w w' := by
  have HV := hid (live16_any w hL)
  have HF := hid (fun w1 (hb : Below w.heap.size w w1) => by have := rfew_any f w1 K A n c 12 (ht.below hb) (by decide) (by decide); rwa [hfew] at this)
  have HF2 := hid (fun w1 (hb : Below w.heap.size w w1) => by have := rfew_any g w1 K2 A2 n2 c2 12 (ht2.below hb) (by decide) (by decide); rwa [hfew2] at this)
  obtain ⟨hokL, hokS, hokN, hdep⟩ := few_ok hfew
  obtain ⟨hokL2, hokS2, hokN2, hdep2⟩ := few_ok hfew2
  have HC := hid (fun w1 (hb : Below w.heap.size w w1) => rcount2_any f w1 K A n c (ht.below hb) hokL)
  have HC2 := hid (fun w1 (hb : Below w.heap.size w w1) => rcount2_any g w1 K2 A2 n2 c2 (ht2.below hb) hokL2)
  have HP := hid (fun w1 (hb : Below w.heap.size w w1) => print_any f w1 K A n c (hL.below hb) (ht.below hb) (fun k hk => Nat.lt_of_lt_of_le (hK k hk) hb.size) (chk2_at (ht.below hb) hokS hokL hdep))
  have HP2 := hid (fun w1 (hb : Below w.heap.size w w1) => print_any g w1 K2 A2 n2 c2 (hL.below hb) (ht2.below hb) (fun k hk => Nat.lt_of_lt_of_le (hK2 k hk) hb.size) (chk2_at (ht2.below hb) hokS2 hokL2 hdep2))
  have hfl := (few_len hfew)
  have hgl := (few_len hfew2)
  have HP3 := hid (fun w1 A' n' c' (hb : Below w.heap.size w w1) (t : TrS w1 (fun k => k < w1.heap.size) A' n' (f.app g)) => print_any (f.app g) w1 _ A' n' c' (hL.below hb) t (fun k hk => hk)
    (fun w2 hb2 => check2_any (f.app g) w2 _ A' n' c' (t.below hb2) (okS_app hokS hokS2) ⟨by rw [Fo.len_app]; omega, okB_app hokL.2 hokL2.2⟩ (by rw [Fo.depth_app]; omega)))
  have hn1 : n ≤ 2100 := by rw [ht.len]; exact hfl
  have hn2 : n2 ≤ 2100 := by rw [ht2.len]; exact hgl
  have TX := hid (fun w1 (hb : Below w.heap.size w w1) => ht.below hb)
  have TY := hid (fun w1 (hb : Below w.heap.size w w1) => ht2.below hb)
  rw [prT_no h3] at HP3
  generalize IntKind.i64.wrap ((f.count : Nat) : Int) = m1 at *
  generalize IntKind.i64.wrap ((g.count : Nat) : Int) = m2 at *
  generalize prE (f.app g) = e3 at *
  generalize prE g = e2 at *
  generalize prE f = e1 at *
  have k3 : ((e3 : Int) != 0) = true := by simp; exact h3
  have k3' : ((e3 : Int) == 0) = false := by simp; exact h3
  subst h1
  have k2 : ((e2 : Int) != 0) = true := by simp; exact h2
  have k2' : ((e2 : Int) == 0) = false := by simp; exact h2
  clear hL ht ht2 hfew hfew2 hokL hokS hokN hdep hokL2 hokS2 hokN2 hdep2 hfl hgl hK hK2
  go_enter Tryz.func10, Tryz.ntmps10
  go_wp2_with (go_at_call 26; refine HV.out.mono ?_; rintro e w1 ⟨rfl, g1⟩; have B1 := hid g1; clear g1)
  go_at_call 16
  refine (HF.out w1 B1.out).mono ?_
  rintro e w2 ⟨rfl, g2⟩
  have B2 := hid (B1.out.trans (g2.mono B1.out.size))
  clear g2
  go_wp2_with fail
  go_at_call 16
  refine (HF2.out w2 B2.out).mono ?_
  rintro e w3 ⟨rfl, g3⟩
  have B3 := hid (B2.out.trans (g3.mono B2.out.size))
  clear g3
  go_wp2_with (first
    | (go_at_call 17; refine (HC2.out w4 B4.out).mono ?_; rintro e w5 ⟨rfl, b⟩; have B5 := hid (B4.out.trans (b.mono B4.out.size)); clear b)
    | (go_at_call 17; refine (HC.out w3 B3.out).mono ?_; rintro e w4 ⟨rfl, b⟩; have B4 := hid (B3.out.trans (b.mono B3.out.size)); clear b)
    | (go_at_call 27; refine (HP3.out w9 A9 (n + n2) c9 B9.out X9.out).mono ?_; rintro e w10 ⟨rfl, b⟩; have B10 := hid (B9.out.trans (b.mono B9.out.size)); clear b)
    | (have hk0 := OD.out; clear hk0; refine Sh.wp_app smS rfl (.tmp 48) (.tmp 49) rfl rfl OD.out rfl (YR.out w8 GB.out).size (by omega) GB.out.size ?_; intro A9 c9 w9 own7 gr7 li7; have XX := two_app (XR.out w7 (Below.refl _ _)).2 (YR2.out) GD.out OD.out gr7 own7; have X9 := hid XX.1; have B9 := hid (B7.out.trans (XX.2.mono B7.out.size)); clear own7 gr7 li7 XX)
    | (refine Sh.wp_app smS (l := []) (base := w7.heap.size) rfl (.const (.slice none 0 0)) (.tmp 47) rfl rfl (Sh.Ow.nil _ _) rfl ((XR.out w7 (Below.refl _ _)).1.size) (by omega) (Nat.le_refl _) ?_; intro A8 c8 w8 own6 gr6 li6; (simp only [Nat.zero_add, List.nil_append] at own6 ⊢); have GD := hid gr6; have OD := hid own6; have GB := hid ((Below.refl w7.heap.size w7).grown gr6 (Nat.le_refl _) (fun k hk => by cases hk)); clear own6 gr6 li6)
    | (go_at_call 27; refine (HP2.out w6 B6.out).mono ?_; rintro e w7 ⟨rfl, b⟩; have B7 := hid (B6.out.trans (b.mono B6.out.size)); clear b; obtain ⟨xs, hx, htx⟩ := TX.out w7 B7.out; obtain ⟨ys, hy, hty⟩ := TY.out w7 B7.out; have XR := hid (fun wx (hb : Below w7.heap.size w7 wx) => And.intro (hx.below hb) (htx.below hb)); have YR := hid (fun wx (hb : Below w7.heap.size w7 wx) => hy.below hb); have YR2 := hid hty; clear hx htx hy hty)
    | (go_at_call 27; refine (HP.out w5 B5.out).mono ?_; rintro e w6 ⟨rfl, b⟩; have B6 := hid (B5.out.trans (b.mono B5.out.size)); clear b))
  go_ret
  exact ⟨rfl, B10.out⟩
set_option maxHeartbeats 4000000 in
set_option maxRecDepth 100000 in
theorem lines_e3 (f g : Fo) (w : World) (K K2 : Nat → Prop) (A A2 : Option Addr) (n c n2 c2 : Nat) (hL : LaidW w) (ht : TrS w K A n f) (ht2 : TrS w K2 A2 n2 g) (hK : ∀ k, K k → k < w.heap.size) (hK2 : ∀ k, K2 k → k < w.heap.size) (hfew : (fewH f.len 12 && f.fewE 12) = true) (hfew2 : (fewH g.len 12 && g.fewE 12) = true) (hm : ¬ 2500 < wrap64 (IntKind.i64.wrap (f.count : Nat) + IntKind.i64.wrap (g.count : Nat))) (h3 : prE (f.app g) ≠ 0) (h1 : prE f = 0) (h2 : prE g = 0) :
    Calls Tryz.prog 10 #[.slice A n c, .slice A2 n2 c2] w fun e w' => e = .returned (.bool true) ∧ Below w.heap.size w w' := by
  have HV := hid (live16_any w hL)
  have HF := hid (fun w1 (hb : Below w.heap.size w w1) => by have := rfew_any f w1 K A n c 12 (ht.below hb) (by decide) (by decide); rwa [hfew] at this)
  have HF2 := hid (fun w1 (hb : Below w.heap.size w w1) => by have := rfew_any g w1 K2 A2 n2 c2 12 (ht2.below hb) (by decide) (by decide); rwa [hfew2] at this)
  obtain ⟨hokL, hokS, hokN, hdep⟩ := few_ok hfew
  obtain ⟨hokL2, hokS2, hokN2, hdep2⟩ := few_ok hfew2
  have HC := hid (fun w1 (hb : Below w.heap.size w w1) => rcount2_any f w1 K A n c (ht.below hb) hokL)
  have HC2 := hid (fun w1 (hb : Below w.heap.size w w1) => rcount2_any g w1 K2 A2 n2 c2 (ht2.below hb) hokL2)
  have HP := hid (fun w1 (hb : Below w.heap.size w w1) => print_any f w1 K A n c (hL.below hb) (ht.below hb) (fun k hk => Nat.lt_of_lt_of_le (hK k hk) hb.size) (chk2_at (ht.below hb) hokS hokL hdep))
  have HP2 := hid (fun w1 (hb : Below w.heap.size w w1) => print_any g w1 K2 A2 n2 c2 (hL.below hb) (ht2.below hb) (fun k hk => Nat.lt_of_lt_of_le (hK2 k hk) hb.size) (chk2_at (ht2.below hb) hokS2 hokL2 hdep2))
  have hfl := (few_len hfew)
  have hgl := (few_len hfew2)
  have HP3 := hid (fun w1 A' n' c' (hb : Below w.heap.size w w1) (t : TrS w1 (fun k => k < w1.heap.size) A' n' (f.app g)) => print_any (f.app g) w1 _ A' n' c' (hL.below hb) t (fun k hk => hk)
    (fun w2 hb2 => check2_any (f.app g) w2 _ A' n' c' (t.below hb2) (okS_app hokS hokS2) ⟨by rw [Fo.len_app]; omega, okB_app hokL.2 hokL2.2⟩ (by rw [Fo.depth_app]; omega)))
  have hn1 : n ≤ 2100 := by rw [ht.len]; exact hfl
  have hn2 : n2 ≤ 2100 := by rw [ht2.len]; exact hgl
  have TX := hid (fun w1 (hb : Below w.heap.size w w1) => ht.below hb)
  have TY := hid (fun w1 (hb : Below w.heap.size w w1) => ht2.below hb)
  rw [prT_no h3] at HP3
  generalize IntKind.i64.wrap ((f.count : Nat) : Int) = m1 at *
  generalize IntKind.i64.wrap ((g.count : Nat) : Int) = m2 at *
  generalize prE (f.app g) = e3 at *
  generalize prE g = e2 at *
  generalize prE f = e1 at *
  have k3 : ((e3 : Int) != 0) = true := by simp; exact h3
  have k3' : ((e3 : Int) == 0) = false := by simp; exact h3
  subst h1
  subst h2
  clear hL ht ht2 hfew hfew2 hokL hokS hokN hdep hokL2 hokS2 hokN2 hdep2 hfl hgl hK hK2
  go_enter Tryz.func10, Tryz.ntmps10
  go_wp2_with (go_at_call 26; refine HV.out.mono ?_; rintro e w1 ⟨rfl, g1⟩; have B1 := hid g1; clear g1)
  go_at_call 16
  refine (HF.out w1 B1.out).mono ?_
  rintro e w2 ⟨rfl, g2⟩
  have B2 := hid (B1.out.trans (g2.mono B1.out.size))
  clear g2
  go_wp2_with fail
  go_at_call 16
  refine (HF2.out w2 B2.out).mono ?_
  rintro e w3 ⟨rfl, g3⟩
  have B3 := hid (B2.out.trans (g3.mono B2.out.size))
  clear g3
  go_wp2_with (first
    | (go_at_call 17; refine (HC2.out w4 B4.out).mono ?_; rintro e w5 ⟨rfl, b⟩; have B5 := hid (B4.out.trans (b.mono B4.out.size)); clear b)
    | (go_at_call 17; refine (HC.out w3 B3.out).mono ?_; rintro e w4 ⟨rfl, b⟩; have B4 := hid (B3.out.trans (b.mono B3.out.size)); clear b)
    | (go_at_call 27; refine (HP3.out w9 A9 (n + n2) c9 B9.out X9.out).mono ?_; rintro e w10 ⟨rfl, b⟩; have B10 := hid (B9.out.trans (b.mono B9.out.size)); clear b)
    | (have hk0 := OD.out; clear hk0; refine Sh.wp_app smS rfl (.tmp 48) (.tmp 49) rfl rfl OD.out rfl (YR.out w8 GB.out).size (by omega) GB.out.size ?_; intro A9 c9 w9 own7 gr7 li7; have XX := two_app (XR.out w7 (Below.refl _ _)).2 (YR2.out) GD.out OD.out gr7 own7; have X9 := hid XX.1; have B9 := hid (B7.out.trans (XX.2.mono B7.out.size)); clear own7 gr7 li7 XX)
    | (refine Sh.wp_app smS (l := []) (base := w7.heap.size) rfl (.const (.slice none 0 0)) (.tmp 47) rfl rfl (Sh.Ow.nil _ _) rfl ((XR.out w7 (Below.refl _ _)).1.size) (by omega) (Nat.le_refl _) ?_; intro A8 c8 w8 own6 gr6 li6; (simp only [Nat.zero_add, List.nil_append] at own6 ⊢); have GD := hid gr6; have OD := hid own6; have GB := hid ((Below.refl w7.heap.size w7).grown gr6 (Nat.le_refl _) (fun k hk => by cases hk)); clear own6 gr6 li6)
    | (go_at_call 27; refine (HP2.out w6 B6.out).mono ?_; rintro e w7 ⟨rfl, b⟩; have B7 := hid (B6.out.trans (b.mono B6.out.size)); clear b; obtain ⟨xs, hx, htx⟩ := TX.out w7 B7.out; obtain ⟨ys, hy, hty⟩ := TY.out w7 B7.out; have XR := hid (fun wx (hb : Below w7.heap.size w7 wx) => And.intro (hx.below hb) (htx.below hb)); have YR := hid (fun wx (hb : Below w7.heap.size w7 wx) => hy.below hb); have YR2 := hid hty; clear hx htx hy hty)
    | (go_at_call 27; refine (HP.out w5 B5.out).mono ?_; rintro e w6 ⟨rfl, b⟩; have B6 := hid (B5.out.trans (b.mono B5.out.size)); clear b))
  go_ret
  exact ⟨rfl, B10.out⟩
end Go.Proofs.YtkfnkieljcipnaaGreatDoor
