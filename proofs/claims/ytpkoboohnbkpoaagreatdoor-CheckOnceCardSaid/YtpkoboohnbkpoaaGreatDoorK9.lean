/-
  WE: Contract of a printer's list: statements that may be, behind what is there; under: the tables hold what the program lays, texts of at most 2^40 bytes.
  QC: The contract of the document's own Same, at every two forests of at most 2^62 statements, each of at most 2^62 numbers.
  QE: The walk of ParseDeep: it is true; under: the tables hold what the program lays (LaidW).
  QH: What a text is parsed as that has another one behind it, with a line's end between; what Parse and Cut tell, in one form. Plain, but for the last two, which are under: the tables hold what the program lays (LaidW).
  WF: Contracts of print.Print (given what Check tells), print.Tidy, print.Is at every text; how long a text is that is printed; under: the tables hold what the program lays.
  SC: Contract of the document's own Few.
  WN: The contract of parse.room and parse.Check at forests of any size, each level of which has at most a million statements; how deep and how large such are that Few lets pass. Texts of at most a million bytes a word.
  WO: Contract of the document's own Count at forests of any size, each level of which has at most a million statements: what is told is the count modulo 2^64.
  MB: The contract of the document's own Word (palletref14.Word), and of its letter and digit: as lex's.
-/
import Derived.Test.YtpkoboohnbkpoaaGreatDoorK8
import Derived.Test.YtpkoboohnbkpoaaGreatDoorK6
import Derived.Test.YtpkoboohnbkpoaaGreatDoorK7
import Derived.IntWalk
import Derived.Test.YtpkoboohnbkpoaaGreatDoorK2
/-! WE -/
namespace Go.Proofs.YtpkoboohnbkpoaaGreatDoor
open Go Go.RowKit Go.Joins

def PListSaid (f : Fo) : Prop := ∀ (w : World) (B b : Nat) (l : List UInt8) (K : Nat → Prop) (A : Option Addr) (n c : Nat) (sp : List UInt8) (k : Int), PB w B b l → LwB B w → TrS w K A n f → (∀ j, K j → j < B) → f.okA k → f.count ≤ 1000000 → l.length + (f.text sp).length + sp.length ≤ 1099511627000 →
  Calls Tryz.prog 83 #[.pointer (some ⟨b, 0, none⟩), .slice A n c, .string (bA sp)] w fun e w' => e = .returned (.tuple #[]) ∧ PB w' B b (l ++ f.text sp) ∧ PMov B b w w'
theorem mov2 {w w1 w2 : World} {B b : Nat} (h : PMov B b w w1) (hB : B ≤ w1.heap.size) (hb : b < w1.heap.size) (h2 : Below w1.heap.size w1 w2) : PMov B b w w2 := h.trans (.of hB hb h2)
set_option maxHeartbeats 4000000 in
set_option maxRecDepth 100000 in
theorem plist_step (f : Fo) (hf : f.Bodies PListSaid) : PListSaid f := by
  intro w B b l K A n c sp k hp hL ht hK hok hc hlen
  have HLN := hid (show f.len = n from ht.len.symm)
  obtain ⟨ys, hx, htr⟩ := ht
  have HX := hid hx
  have HLW := hid hL
  have HK := hid hK
  have HLE := hid hlen
  have HC := hid hc
  have HS0 := hid (And.intro hf (And.intro htr (And.intro hok hp)))
  have hn2 : (n : Int) ≤ 1000000 := by have := f.len_le; have := HLN.out; omega
  clear hp hL hx htr hf hok hK hc hlen
  go_enter Tryz.func83, Tryz.ntmps83
  go_wp2
  go_loopw [10] (fun v10 wr => ∃ (i : Nat) (r : Fo) (m : List UInt8), v10 = .int .i64 (i : Int) ∧ i ≤ n ∧ r.Bodies PListSaid ∧ Tr wr K r (ys.drop i) ∧ r.okA k ∧ PB wr B b m ∧ m ++ r.text sp = l ++ f.text sp ∧ r.count ≤ f.count ∧ PMov B b w wr) (fun v10 _ => n - (intOf v10).toNat)
  case atStart => exact ⟨0, f, l, rfl, Nat.zero_le _, HS0.out.1, by simpa using HS0.out.2.1, HS0.out.2.2.1, HS0.out.2.2.2, rfl, Nat.le_refl _, PMov.refl _ _ _⟩
  case round =>
    obtain ⟨i, r, m, rfl, hi, hbo, htr, hok, hpb, hmr, hrc, hmv⟩ := hrel
    by_cases hlt : i < n
    · obtain ⟨wd, ns, bl, y, nx, rfl, e1, e2, hns, hy, hnx⟩ := htr.step (by rw [HX.out.1]; exact hlt)
      obtain ⟨bb, o, rfl, hb, hcell⟩ := (HX.out.lowB HK.out hmv.bel).size.at_ hlt
      generalize smS.nth ys i = x at *
      obtain ⟨xw, xA, xn, xc, xb, xB, xm, xk⟩ := x
      simp only at e1 e2 hns hy
      subst e1 e2
      have r1 : wr.rangeAt bb (o + i * 4) (smS.enc ⟨xw, xA, xn, xc, xb, xB, xm, xk⟩) := hcell
      obtain ⟨h1, h2, h3, h4⟩ := hok
      have hfit := fit_of h1
      have P0 := hid hpb
      have HMV := hid hmv
      have M0 := hid (PMov.refl B b wr)
      have HY := hid hbo.1
      have HNX := hid (And.intro hbo.2 (And.intro hnx (And.intro h4 h3)))
      have HNS := hid hns
      have HYT := hid hy
      have HMR := hid hmr
      have HRC := hid hrc
      have HF := hid hfit
      have HTL := hid (show m.length + ((Fo.cons xw ns xb y nx).text sp).length + sp.length ≤ 1099511627000 by have := HLE.out; have e := congrArg List.length hmr; simp only [List.length_append] at e; omega)
      clear hcell hbo htr hpb hmr hrc hmv hns hy hnx hb h1 h2 h3 h4 hfit HS0
      cases xb
      · go_wp2_with (first
        | (go_at_call 117; refine (wstr_b (w := w5) _ [10] rfl P5.out (by have := HTL.out; simp only [Fo.text, List.length_append, List.length_cons, List.length_nil] at this ⊢; omega)).mono ?_; rintro e w6 ⟨⟨k6, rfl⟩, p6, m6⟩; have P6 := hid p6; have M6 := hid (M5.out.trans m6); have F6 := hid (F5.out.mov m6).1; have V6 := hid (V5.out.free_mov F5.out m6); have c2 : w6.cell? ⟨wr.heap.size, 2, none⟩ = some (.bool false) := V6.out.cell (j := 2) rfl; clear p6 m6)
        | (go_at_call 118; refine (line_any ⟨xw, xA, xn, xc, false, xB, xm, xk⟩ ns w4 B b _ K P4.out (HLW.out.go (HMV.out.bel.trans M4.out.bel)) (HNS.out.lowB HK.out M4.out.bel) HK.out (far_of HF.out.2.2.1) (by have := HF.out.2.1; omega) (by have := HTL.out; simp only [Fo.text, List.length_append, List.length_cons] at this ⊢; omega)).mono ?_; rintro e w5 ⟨rfl, p5, m5⟩; have P5 := hid p5; have M5 := hid (M4.out.trans m5); have F5 := hid (F4.out.mov m5).1; have V5 := hid (V4.out.free_mov F4.out m5); clear p5 m5)
        | (go_at_call 117; refine (wstr_b (w := w3) _ sp rfl P3.out (by have := HTL.out; simp only [Fo.text, List.length_append, List.length_cons] at this; omega)).mono ?_; rintro e w4 ⟨⟨k4, rfl⟩, p4, m4⟩; have P4 := hid p4; have M4 := hid (M3.out.trans m4); have F4 := hid (F3.out.mov m4).1; have V4 := hid (V3.out.free_mov F3.out m4); have r4 := V4.out.1; clear p4 m4)
        | (refine Sh.wp_sv smS (x := ⟨xw, xA, xn, xc, false, xB, xm, xk⟩) rfl (.tmp 7) (.tmp 13) rfl rfl (by rfl) q2 ?_; intro w3 q3 b3 o3 s3; have h3 : Below wr.heap.size wr w3 := B2.out.trans b3; have n3 := PMov.of P0.out.leB P0.out.lt h3; have P3 := hid (P0.out.below h3); have M3 := hid (M0.out.trans n3); have F3 := hid (free_new P0.out h3 (s3.out.trans S2.out)); have V3 := hid q3; clear q3 b3 o3 s3 q2 h3 n3)
        | (refine Sh.wp_al smS rfl rfl ?_; intro w2 q2 b2 s2; have B2 := hid b2; have S2 := s2; clear b2 s2)
        | (refine Sh.wp_ld smS rfl (.tmp 7) rfl rfl r4 ?_)
        | (refine Sh.wp_ld smS rfl (.tmp 12) rfl rfl r1 ?_))
        go_roundw
        case rel => exact ⟨i + 1, nx, _, by go_num, by omega, HNX.out.1, HNX.out.2.1.lowB HK.out M6.out.bel, HNX.out.2.2.1, P6.out, by rw [← HMR.out]; simp [Fo.text], by have := HRC.out; simp only [Fo.count] at this; omega, HMV.out.trans M6.out⟩
        case measure => simp [intOf]; omega
      · obtain ⟨z, hz⟩ : ∃ z : Nat, (bA sp).size = z := ⟨_, rfl⟩
        have n1 : ¬ (9223372036854775807 : Int) < (z : Int) + 2 := by rw [bA_size] at hz; have := HTL.out; omega
        go_wp2_with (first
        | (go_at_call 117; refine (wstr_b (w := w7) _ (sp ++ [125, 10]) (str_app _ _) P7.out (by have := HTL.out; simp only [Fo.text, if_true, List.length_append, List.length_cons, List.length_nil] at this ⊢; omega)).mono ?_; rintro e w8 ⟨⟨k8, rfl⟩, p8, m8⟩; have P8 := hid p8; have M8 := hid (M7.out.trans m8); clear p8 m8)
        | (go_at_call 83; refine (HY.out w6 B b _ K xB xm xk (sp ++ [32, 32]) (k - 1) P6.out (HLW.out.go (HMV.out.bel.trans M6.out.bel)) (HYT.out.lowB HK.out M6.out.bel) HK.out HNX.out.2.2.2 (by have := HRC.out; have := HC.out; simp only [Fo.count] at *; omega) (by have := HTL.out; simp only [Fo.text, if_true, List.length_append, List.length_cons, List.length_nil] at this ⊢; omega)).mono ?_; rintro e w7 ⟨rfl, p7, m7⟩; have P7 := hid p7; have M7 := hid (M6.out.trans m7); clear p7 m7)
        | (go_at_call 117; refine (wstr_b (w := w5) _ [10] rfl P5.out (by have := HTL.out; simp only [Fo.text, List.length_append, List.length_cons, List.length_nil] at this ⊢; omega)).mono ?_; rintro e w6 ⟨⟨k6, rfl⟩, p6, m6⟩; have P6 := hid p6; have M6 := hid (M5.out.trans m6); have F6 := hid (F5.out.mov m6).1; have V6 := hid (V5.out.free_mov F5.out m6); have c2 : w6.cell? ⟨wr.heap.size, 2, none⟩ = some (.bool true) := V6.out.cell (j := 2) rfl; have c3 : w6.cell? ⟨wr.heap.size, 3, none⟩ = some (.slice xB xm xk) := V6.out.cell (j := 3) rfl; clear p6 m6)
        | (go_at_call 118; refine (line_any ⟨xw, xA, xn, xc, true, xB, xm, xk⟩ ns w4 B b _ K P4.out (HLW.out.go (HMV.out.bel.trans M4.out.bel)) (HNS.out.lowB HK.out M4.out.bel) HK.out (far_of HF.out.2.2.1) (by have := HF.out.2.1; omega) (by have := HTL.out; simp only [Fo.text, List.length_append, List.length_cons] at this ⊢; omega)).mono ?_; rintro e w5 ⟨rfl, p5, m5⟩; have P5 := hid p5; have M5 := hid (M4.out.trans m5); have F5 := hid (F4.out.mov m5).1; have V5 := hid (V4.out.free_mov F4.out m5); clear p5 m5)
        | (go_at_call 117; refine (wstr_b (w := w3) _ sp rfl P3.out (by have := HTL.out; simp only [Fo.text, List.length_append, List.length_cons] at this; omega)).mono ?_; rintro e w4 ⟨⟨k4, rfl⟩, p4, m4⟩; have P4 := hid p4; have M4 := hid (M3.out.trans m4); have F4 := hid (F3.out.mov m4).1; have V4 := hid (V3.out.free_mov F3.out m4); have r4 := V4.out.1; clear p4 m4)
        | (refine Sh.wp_sv smS (x := ⟨xw, xA, xn, xc, true, xB, xm, xk⟩) rfl (.tmp 7) (.tmp 13) rfl rfl (by rfl) q2 ?_; intro w3 q3 b3 o3 s3; have h3 : Below wr.heap.size wr w3 := B2.out.trans b3; have n3 := PMov.of P0.out.leB P0.out.lt h3; have P3 := hid (P0.out.below h3); have M3 := hid (M0.out.trans n3); have F3 := hid (free_new P0.out h3 (s3.out.trans S2.out)); have V3 := hid q3; clear q3 b3 o3 s3 q2 h3 n3)
        | (refine Sh.wp_al smS rfl rfl ?_; intro w2 q2 b2 s2; have B2 := hid b2; have S2 := s2; clear b2 s2)
        | (refine Sh.wp_ld smS rfl (.tmp 7) rfl rfl r4 ?_)
        | (refine Sh.wp_ld smS rfl (.tmp 12) rfl rfl r1 ?_))
        go_roundw
        case rel => exact ⟨i + 1, nx, _, by go_num, by omega, HNX.out.1, HNX.out.2.1.lowB HK.out M8.out.bel, HNX.out.2.2.1, P8.out, by rw [← HMR.out]; simp [Fo.text], by have := HRC.out; simp only [Fo.count] at this; omega, HMV.out.trans M8.out⟩
        case measure => simp [intOf]; omega
    · obtain rfl : i = n := by omega
      have hr := htr.done (by rw [HX.out.1]; exact Nat.le_refl _)
      subst hr
      have HV := hid (show m = l ++ f.text sp by simpa [Fo.text] using hmr)
      have P0 := hid hpb
      have M0 := hid hmv
      clear hbo htr hpb hmv hmr
      go_wp2
      go_end0
      exact ⟨rfl, by rw [← HV.out]; exact P0.out, M0.out⟩
theorem plist_any (f : Fo) : PListSaid f := (Fo.ind plist_step f).1
end Go.Proofs.YtpkoboohnbkpoaaGreatDoor

/-! QC -/
namespace Go.Proofs.YtpkoboohnbkpoaaGreatDoor
open Go Go.RowKit Go.Joins

theorem foN : Tryz.prog.underlying 57 = some (.struct (Tryz.prog.fieldsOf 57)) := by kernel_rfl
theorem siN : Tryz.prog.stoodInHeld 57 = false := by kernel_rfl
theorem egN : Tryz.prog.eqGuardType Tryz.prog.depth 57 = false := by kernel_rfl
def nmV (x : Int × Bool) : Value := .agg #[.int .i64 x.1, .bool x.2]
theorem eqInN (x y : Int × Bool) (w : World) : (Op.equalIn 10000 57 (nmV x) (nmV y)).run Tryz.prog w = .ok (decide (x = y)) w := by
  obtain ⟨x1, x2⟩ := x
  obtain ⟨y1, y2⟩ := y
  unfold nmV
  rw [run_equalIn_agg w 9999 57 _ _ foN siN]
  simp [go_sem]
  by_cases h1 : x1 = y1 <;> by_cases h2 : x2 = y2 <;> simp [h1, h2]
theorem eqN (x y : Int × Bool) (w : World) : (binOp .eql 57 (nmV x) (nmV y)).run Tryz.prog w = .ok (.bool (decide (x = y))) w := by
  have := eqInN x y w
  unfold nmV at this ⊢
  rw [run_eql_struct, this]; rfl
theorem neN (x y : Int × Bool) (w : World) : (binOp .neq 57 (nmV x) (nmV y)).run Tryz.prog w = .ok (.bool (!decide (x = y))) w := by
  have := eqInN x y w
  unfold nmV at this ⊢
  rw [run_neq_struct, this]; rfl
theorem guN (op : BinOp) (a b : Operand) (x y : Int × Bool) (w : World) : (eqGuard op 57 a b (nmV x) (nmV y)).run Tryz.prog w = .ok () w := run_eqGuard_agg w op 57 a b _ _ egN

theorem ext_nthN {a b : List (Int × Bool)} (hl : a.length = b.length) (h : ∀ j, j < a.length → nmS.nth a j = nmS.nth b j) : a = b := by
  apply List.ext_getElem hl
  intro j h1 h2
  have := h j h1
  rwa [nmS.nth_of (List.getElem?_eq_getElem h1), nmS.nth_of (List.getElem?_eq_getElem h2)] at this

/-- the statements' numbers are few -/
def Fo.okN : Fo → Prop
  | nil => True
  | cons _ ns _ y n => ns.length ≤ 4611686018427387904 ∧ y.okN ∧ n.okN
def SameSaid (g : Nat) (f : Fo) : Prop := ∀ (h : Fo) (w : World) (K K2 : Nat → Prop) (A A2 : Option Addr) (n c n2 c2 : Nat), TrS w K A n f → TrS w K2 A2 n2 h → f.count ≤ 4611686018427387904 → h.count ≤ 4611686018427387904 → f.okN → h.okN →
  Calls Tryz.prog g #[.slice A n c, .slice A2 n2 c2] w fun e w' => e = .returned (.bool (decide (f = h))) ∧ Below w.heap.size w w'

/-- What is known when element i of both is looked at. -/
structure SmI (w wr : World) (K K2 : Nat → Prop) (xs ys : List Sm) (f h : Fo) (g i : Nat) (r q : Fo) : Prop where
  eq : decide (f = h) = decide (r = q)
  bo : r.Bodies (SameSaid g)
  ta : Tr w K r (xs.drop i)
  tb : Tr w K2 q (ys.drop i)
  ca : r.count ≤ 4611686018427387904
  cb : q.count ≤ 4611686018427387904
  oa : r.okN
  ob : q.okN
  bl : Below w.heap.size w wr

set_option maxHeartbeats 4000000 in
set_option maxRecDepth 100000 in
theorem rsame_step (f : Fo) (hf : f.Bodies (SameSaid 15)) : SameSaid 15 f := by
  intro h w K K2 A A2 n c n2 c2 ht ht2 hc hc2 ho ho2
  obtain ⟨xs, hx, htr⟩ := ht
  obtain ⟨ys, hy, htr2⟩ := ht2
  have HX := hid hx
  have HY := hid hy
  have L1 : f.len = n := by rw [← htr.len, hx.1]
  have L2 : h.len = n2 := by rw [← htr2.len, hy.1]
  have hn : (n : Int) ≤ 4611686018427387904 := by have := f.len_le; omega
  have hn2 : (n2 : Int) ≤ 4611686018427387904 := by have := h.len_le; omega
  have S0 := hid (SmI.mk (w := w) (wr := w) (K := K) (K2 := K2) (xs := xs) (ys := ys) (i := 0) rfl hf (by simpa using htr) (by simpa using htr2) hc hc2 ho ho2 (Below.refl _ _))
  obtain ⟨R, hR⟩ : ∃ R, decide (f = h) = R := ⟨_, rfl⟩
  rw [hR]
  have HR := hid hR
  clear hR
  by_cases hnn : n = n2
  · subst hnn
    clear hx hy hf htr htr2 hc hc2 ho ho2 L1 L2
    go_enter Tryz.func15, Tryz.ntmps15
    go_wp2
    go_loopw [16] (fun v16 wr => ∃ (i : Nat) (r q : Fo), v16 = .int .i64 (i : Nat) ∧ i ≤ n ∧ SmI w wr K K2 xs ys f h 15 i r q) (fun v16 _ => n - (intOf v16).toNat)
    case atStart => exact ⟨0, f, h, rfl, Nat.zero_le _, S0.out⟩
    case round =>
      obtain ⟨i, r, q, rfl, hi, hs⟩ := hrel
      by_cases hlt : i < n
      · obtain ⟨wd, ns, bl, y, nx, rfl, e1, e2, hns, hyb, hnx⟩ := hs.ta.step (by rw [HX.out.1]; exact hlt)
        obtain ⟨wd2, ns2, bl2, y2, nx2, rfl, k1, k2, hns2, hyb2, hnx2⟩ := hs.tb.step (by rw [HY.out.1]; exact hlt)
        obtain ⟨b, o, rfl, hb, hcell⟩ := (HX.out.size.below hs.bl).at_ hlt
        obtain ⟨b2, o2, rfl, hb2, hcell2⟩ := (HY.out.size.below hs.bl).at_ hlt
        generalize smS.nth xs i = x at *
        generalize smS.nth ys i = x2 at *
        obtain ⟨xw, xA, xn, xc, xb, xB, xm, xk⟩ := x
        obtain ⟨zw, zA, zn, zc, zb, zB, zm, zk⟩ := x2
        simp only at e1 e2 k1 k2 hns hns2 hyb hyb2
        subst e1 e2 k1 k2
        have r1 : wr.rangeAt b (o + i * 4) (smS.enc ⟨xw, xA, xn, xc, xb, xB, xm, xk⟩) := hcell
        have r2 : wr.rangeAt b2 (o2 + i * 4) (smS.enc ⟨zw, zA, zn, zc, zb, zB, zm, zk⟩) := hcell2
        have HS := hid hs
        have NS := hid (And.intro hns hns2)
        have YB := hid (And.intro hyb hyb2)
        have NX := hid (And.intro hnx hnx2)
        have BW := hid hs.bl
        have hsw := sg_is xw zw
        have hdec := hid (fun (hne : ¬ (xw = zw ∧ ns = ns2 ∧ xb = zb ∧ y = y2)) => show R = false by
          rw [← HR.out, hs.eq, decide_eq_false_iff_not]
          intro e
          injection e with e1 e2 e3 e4 e5
          exact hne ⟨e1, e2, e3, e4⟩)
        have i1 : (i : Int) < (n : Int) := by omega
        have hb2 := Nat.lt_of_lt_of_le hb2 hs.bl.size
        have HYS := hid hs.bo.1
        have CY := hid (show y.count ≤ 4611686018427387904 ∧ y2.count ≤ 4611686018427387904 ∧ y.okN ∧ y2.okN from ⟨by have := hs.ca; simp only [Fo.count] at this; omega, by have := hs.cb; simp only [Fo.count] at this; omega, hs.oa.2.1, hs.ob.2.1⟩)
        have hxn : (xn : Int) ≤ 4611686018427387904 := by have := hs.oa.1; have := hns.1; omega
        clear hs hns hns2 hyb hyb2 hnx hnx2 hcell hcell2 hb S0 HX HY
        by_cases hw : xw = zw
        · subst hw
          clear hsw
          have hnl : ns.length = xn ∧ ns2.length = zn := ⟨NS.out.1.1, NS.out.2.1⟩
          by_cases hnn : xn = zn
          · subst hnn
            by_cases hbb : xb = zb
            · subst hbb
              generalize hR2 : decide (y = y2) = R2 at *
              cases R2 with
              | false =>
                have HD := hid (hdec.out (fun h => by have h4 := h.2.2.2; rw [decide_eq_false_iff_not] at hR2; exact hR2 h4))
                clear hdec HS NS NX hnl
                go_upto_region 8 with (first
                  | (refine Sh.wp_sv smS (x := ⟨xw, zA, xn, zc, xb, zB, zm, zk⟩) rfl (.tmp 7) (.tmp 26) rfl rfl (by rfl) q4 ?_; intro w5 q5 b5 o5 s5; have v5 := hid ((V4.out.below b5 (by have := L4.out; omega))); have c0 := v5.out.cell (j := 0) rfl; have c1 := v5.out.cell (j := 1) rfl; have c2 := v5.out.cell (j := 2) rfl; have c3 := v5.out.cell (j := 3) rfl; have d0 := q5.cell (j := 0) rfl; have d1 := q5.cell (j := 1) rfl; have d2 := q5.cell (j := 2) rfl; have d3 := q5.cell (j := 3) rfl; have Q5 := hid q5; have B5 := hid (B4.out.trans (b5.mono (by have := L4.out; omega))); clear q5 b5 o5 s5)
                  | (refine Sh.wp_al smS rfl rfl ?_; intro w4 q4 b4 s4; have L4 := hid (V3.out.lt); have V4 := hid (V3.out.keep b4); have B4 := hid (B3.out.trans (b4.mono B3.out.size)); clear b4 s4)
                  | (refine Sh.wp_ld smS rfl (.tmp 25) rfl rfl r2' ?_)
                  | (refine Sh.wp_sv smS (x := ⟨xw, xA, xn, xc, xb, xB, xm, xk⟩) rfl (.tmp 6) (.tmp 22) rfl rfl (by rfl) q2 ?_; intro w3 q3 b3 o3 s3; have V3 := hid q3; have B3 := hid (B2.out.trans (b3.mono (Nat.le_refl _))); have r2' := range_keep r2 hb2 (B2.out.trans (b3.mono (Nat.le_refl _))); clear q3 b3 o3 s3)
                  | (refine Sh.wp_al smS rfl rfl ?_; intro w2 q2 b2 s2; have B2 := hid b2; clear b2 s2)
                  | (refine Sh.wp_ld smS rfl (.tmp 21) rfl rfl r1 ?_))
                go_wp2_with (first
                  | (go_at_call 15; have h9 := HYS.out y2 w5 K K2 xB zB xm xk zm zk (YB.out.1.below (BW.out.trans (B5.out.mono BW.out.size))) (YB.out.2.below (BW.out.trans (B5.out.mono BW.out.size))) CY.out.1 CY.out.2.1 CY.out.2.2.1 CY.out.2.2.2; rw [hR2] at h9; (with_reducible refine h9.mono ?_); rintro e w6 ⟨rfl, b6⟩; have B6 := hid b6; clear b6))
                go_ret
                exact ⟨ret_bool HD.out.symm, BW.out.trans ((B5.out.trans (B6.out.mono B5.out.size)).mono BW.out.size)⟩
              | true =>
                have hyy := hid (of_decide_eq_true hR2)
                have HNL := hid hnl
                clear hnl
                go_upto_region 8 with (first
                  | (refine Sh.wp_sv smS (x := ⟨xw, zA, xn, zc, xb, zB, zm, zk⟩) rfl (.tmp 7) (.tmp 26) rfl rfl (by rfl) q4 ?_; intro w5 q5 b5 o5 s5; have v5 := hid ((V4.out.below b5 (by have := L4.out; omega))); have c0 := v5.out.cell (j := 0) rfl; have c1 := v5.out.cell (j := 1) rfl; have c2 := v5.out.cell (j := 2) rfl; have c3 := v5.out.cell (j := 3) rfl; have d0 := q5.cell (j := 0) rfl; have d1 := q5.cell (j := 1) rfl; have d2 := q5.cell (j := 2) rfl; have d3 := q5.cell (j := 3) rfl; have Q5 := hid q5; have B5 := hid (B4.out.trans (b5.mono (by have := L4.out; omega))); clear q5 b5 o5 s5)
                  | (refine Sh.wp_al smS rfl rfl ?_; intro w4 q4 b4 s4; have L4 := hid (V3.out.lt); have V4 := hid (V3.out.keep b4); have B4 := hid (B3.out.trans (b4.mono B3.out.size)); clear b4 s4)
                  | (refine Sh.wp_ld smS rfl (.tmp 25) rfl rfl r2' ?_)
                  | (refine Sh.wp_sv smS (x := ⟨xw, xA, xn, xc, xb, xB, xm, xk⟩) rfl (.tmp 6) (.tmp 22) rfl rfl (by rfl) q2 ?_; intro w3 q3 b3 o3 s3; have V3 := hid q3; have B3 := hid (B2.out.trans (b3.mono (Nat.le_refl _))); have r2' := range_keep r2 hb2 (B2.out.trans (b3.mono (Nat.le_refl _))); clear q3 b3 o3 s3)
                  | (refine Sh.wp_al smS rfl rfl ?_; intro w2 q2 b2 s2; have B2 := hid b2; clear b2 s2)
                  | (refine Sh.wp_ld smS rfl (.tmp 21) rfl rfl r1 ?_))
                go_upto_region 10 with (first
                  | (go_at_call 15; have h9 := HYS.out y2 w5 K K2 xB zB xm xk zm zk (YB.out.1.below (BW.out.trans (B5.out.mono BW.out.size))) (YB.out.2.below (BW.out.trans (B5.out.mono BW.out.size))) CY.out.1 CY.out.2.1 CY.out.2.2.1 CY.out.2.2.2; rw [hR2] at h9; (with_reducible refine h9.mono ?_); rintro e w6 ⟨rfl, b6⟩; have B6 := hid b6; clear b6))
                obtain ⟨w0, hw0⟩ : ∃ w0, w0 = wr := ⟨_, rfl⟩
                subst hw0
                have V1 := hid (v5.out.keep B6.out)
                have V2 := hid (Q5.out.keep B6.out)
                have BW6 := hid (BW.out.trans ((B5.out.trans (B6.out.mono B5.out.size)).mono BW.out.size))
                have VL := hid (And.intro V1.out.lt V2.out.lt)
                have c1 := V1.out.cell (j := 1) rfl
                clear c0 c2 c3 d0 d1 d2 d3 v5 Q5
                go_wp2_with fail
                go_loopw [59] (fun t wi => ∃ k : Nat, t = .int .i64 (k : Int) ∧ k ≤ xn ∧ (∀ j, j < k → nmS.nth ns j = nmS.nth ns2 j) ∧ Below w6.heap.size w6 wi) (fun t _ => xn - (intOf t).toNat)
                case atStart => exact ⟨0, rfl, Nat.zero_le _, fun j hj => absurd hj (by omega), Below.refl _ _⟩
                case round =>
                  obtain ⟨k, rfl, hk, hin, hbi⟩ := hrel
                  have HI := hid hin
                  have BI := hid hbi
                  clear hin hbi
                  by_cases hlk : k < xn
                  · have BWI := hid (BW6.out.trans (BI.out.mono BW6.out.size))
                    obtain ⟨p1, o3, hA1, _, z1⟩ := (NS.out.1.size.below BWI.out).at_ hlk
                    obtain ⟨p2, o4, hA2, _, z2⟩ := (NS.out.2.size.below BWI.out).at_ hlk
                    have hne := hid (show decide (nmS.nth ns k = nmS.nth ns2 k) = false → R = false from fun h => hdec.out (fun e => by rw [e.2.1] at h; simp at h))
                    have hyes := hid (show decide (nmS.nth ns k = nmS.nth ns2 k) = true → ∀ j, j < k + 1 → nmS.nth ns j = nmS.nth ns2 j from fun h j hj => by
                      by_cases e : j = k
                      · subst e; exact of_decide_eq_true h
                      · exact HI.out j (by omega))
                    have q1 := fun w => neN (nmS.nth ns k) (nmS.nth ns2 k) w
                    have q2 := fun p q w => guN .neq p q (nmS.nth ns k) (nmS.nth ns2 k) w
                    have c1 : wr.cell? ⟨w0.heap.size, 1, none⟩ = some (.slice (some ⟨p1, o3, none⟩) xn xc) := hA1 ▸ (V1.out.keep BI.out).cell (j := 1) rfl
                    have d1 : wr.cell? ⟨w3.heap.size, 1, none⟩ = some (.slice (some ⟨p2, o4, none⟩) xn zc) := hA2 ▸ (V2.out.keep BI.out).cell (j := 1) rfl
                    have x0 : wr.cell? ⟨p1, o3 + k * 2, none⟩ = some (.int .i64 (nmS.nth ns k).1) := z1 0 _ rfl
                    have x1 : wr.cell? ⟨p1, o3 + k * 2 + 1, none⟩ = some (.bool (nmS.nth ns k).2) := z1 1 _ rfl
                    have y0 : wr.cell? ⟨p2, o4 + k * 2, none⟩ = some (.int .i64 (nmS.nth ns2 k).1) := z2 0 _ rfl
                    have y1 : wr.cell? ⟨p2, o4 + k * 2 + 1, none⟩ = some (.bool (nmS.nth ns2 k).2) := z2 1 _ rfl
                    unfold nmV at q1 q2
                    clear z1 z2 hA1 hA2
                    generalize decide (nmS.nth ns k = nmS.nth ns2 k) = R3 at *
                    generalize nmS.nth ns k = a1 at *
                    generalize nmS.nth ns2 k = a2 at *
                    obtain ⟨a1, t1⟩ := a1
                    obtain ⟨a2, t2⟩ := a2
                    have i2 : (k : Int) < (xn : Int) := by omega
                    go_wp2_with fail
                    go_quiet (fail)
                    have HW := hid (bel_drewN BI.out nq)
                    generalize wr.drewN nq = w9 at *
                    clear q1 q2 x0 x1 y0 y1 c1 d1
                    cases R3
                    · have HD := hid (hne.out rfl)
                      clear hne hyes hdec
                      go_wp2
                      go_ret
                      exact ⟨ret_bool HD.out.symm, BW6.out.trans (HW.out.mono BW6.out.size)⟩
                    · have HY2 := hid (hyes.out rfl)
                      clear hne hyes hdec
                      go_wp2
                      exact ⟨⟨k + 1, by go_num, by omega, HY2.out, HW.out⟩, by simp [intOf]; omega⟩
                  · have hns : ns = ns2 := ext_nthN (by rw [HNL.out.1, HNL.out.2]) (fun j hj => HI.out j (by rw [HNL.out.1] at hj; omega))
                    have HSN := hid (show SmI w wr K K2 xs ys f h 15 (i + 1) nx nx2 from
                      ⟨by rw [HS.out.eq, hns, hyy.out]; simp, HS.out.bo.2, NX.out.1, NX.out.2, by have := HS.out.ca; simp only [Fo.count] at this; omega, by have := HS.out.cb; simp only [Fo.count] at this; omega, HS.out.oa.2.2, HS.out.ob.2.2, BW6.out.trans (BI.out.mono BW6.out.size)⟩)
                    clear hns hdec
                    go_wp2
                    exact ⟨⟨i + 1, nx, nx2, by go_num, by omega, HSN.out⟩, by simp [intOf]; omega⟩
            · have hbb2 : (xb == zb) = false := by simpa using hbb
              have HNL := hid hnl
              clear hnl YB
              have HD := hid (hdec.out (fun h => hbb h.2.2.1))
              clear hdec HS NS NX
              go_upto_region 8 with (first
                | (refine Sh.wp_sv smS (x := ⟨xw, zA, xn, zc, zb, zB, zm, zk⟩) rfl (.tmp 7) (.tmp 26) rfl rfl (by rfl) q4 ?_; intro w5 q5 b5 o5 s5; have v5 := hid ((V4.out.below b5 (by have := L4.out; omega))); have c0 := v5.out.cell (j := 0) rfl; have c1 := v5.out.cell (j := 1) rfl; have c2 := v5.out.cell (j := 2) rfl; have c3 := v5.out.cell (j := 3) rfl; have d0 := q5.cell (j := 0) rfl; have d1 := q5.cell (j := 1) rfl; have d2 := q5.cell (j := 2) rfl; have d3 := q5.cell (j := 3) rfl; have Q5 := hid q5; have B5 := hid (B4.out.trans (b5.mono (by have := L4.out; omega))); clear q5 b5 o5 s5)
                | (refine Sh.wp_al smS rfl rfl ?_; intro w4 q4 b4 s4; have L4 := hid (V3.out.lt); have V4 := hid (V3.out.keep b4); have B4 := hid (B3.out.trans (b4.mono B3.out.size)); clear b4 s4)
                | (refine Sh.wp_ld smS rfl (.tmp 25) rfl rfl r2' ?_)
                | (refine Sh.wp_sv smS (x := ⟨xw, xA, xn, xc, xb, xB, xm, xk⟩) rfl (.tmp 6) (.tmp 22) rfl rfl (by rfl) q2 ?_; intro w3 q3 b3 o3 s3; have V3 := hid q3; have B3 := hid (B2.out.trans (b3.mono (Nat.le_refl _))); have r2' := range_keep r2 hb2 (B2.out.trans (b3.mono (Nat.le_refl _))); clear q3 b3 o3 s3)
                | (refine Sh.wp_al smS rfl rfl ?_; intro w2 q2 b2 s2; have B2 := hid b2; clear b2 s2)
                | (refine Sh.wp_ld smS rfl (.tmp 21) rfl rfl r1 ?_))
              go_wp2_with fail
              go_ret
              exact ⟨ret_bool HD.out.symm, BW.out.trans (B5.out.mono BW.out.size)⟩
          · have hnn2 : ((xn : Int) == (zn : Int)) = false := beq_eq_false_iff_ne.2 (by omega)
            have hnn3 : ¬ (xn : Int) = (zn : Int) := by omega
            have HNL := hid hnl
            clear hnl YB
            have HD := hid (hdec.out (fun h => hnn (by rw [← HNL.out.1, ← HNL.out.2, h.2.1])))
            clear hdec HS NS NX
            go_upto_region 8 with (first
              | (refine Sh.wp_sv smS (x := ⟨xw, zA, zn, zc, zb, zB, zm, zk⟩) rfl (.tmp 7) (.tmp 26) rfl rfl (by rfl) q4 ?_; intro w5 q5 b5 o5 s5; have v5 := hid ((V4.out.below b5 (by have := L4.out; omega))); have c0 := v5.out.cell (j := 0) rfl; have c1 := v5.out.cell (j := 1) rfl; have c2 := v5.out.cell (j := 2) rfl; have c3 := v5.out.cell (j := 3) rfl; have d0 := q5.cell (j := 0) rfl; have d1 := q5.cell (j := 1) rfl; have d2 := q5.cell (j := 2) rfl; have d3 := q5.cell (j := 3) rfl; have Q5 := hid q5; have B5 := hid (B4.out.trans (b5.mono (by have := L4.out; omega))); clear q5 b5 o5 s5)
              | (refine Sh.wp_al smS rfl rfl ?_; intro w4 q4 b4 s4; have L4 := hid (V3.out.lt); have V4 := hid (V3.out.keep b4); have B4 := hid (B3.out.trans (b4.mono B3.out.size)); clear b4 s4)
              | (refine Sh.wp_ld smS rfl (.tmp 25) rfl rfl r2' ?_)
              | (refine Sh.wp_sv smS (x := ⟨xw, xA, xn, xc, xb, xB, xm, xk⟩) rfl (.tmp 6) (.tmp 22) rfl rfl (by rfl) q2 ?_; intro w3 q3 b3 o3 s3; have V3 := hid q3; have B3 := hid (B2.out.trans (b3.mono (Nat.le_refl _))); have r2' := range_keep r2 hb2 (B2.out.trans (b3.mono (Nat.le_refl _))); clear q3 b3 o3 s3)
              | (refine Sh.wp_al smS rfl rfl ?_; intro w2 q2 b2 s2; have B2 := hid b2; clear b2 s2)
              | (refine Sh.wp_ld smS rfl (.tmp 21) rfl rfl r1 ?_))
            go_wp2_with fail
            go_ret
            exact ⟨ret_bool HD.out.symm, BW.out.trans (B5.out.mono BW.out.size)⟩
        · rw [decide_eq_false hw] at hsw
          have hsw : ((strB xw).toList == (strB zw).toList) = false := by
            rw [← hsw]; congr 1; rw [ByteArray.toList_eq]; rfl
          clear YB
          generalize hz1 : strB xw = z1 at *
          generalize hz2 : strB zw = z2 at *
          subst hz1 hz2
          have HD := hid (hdec.out (fun h => hw h.1))
          clear hdec HS NS NX
          go_upto_region 8 with (first
            | (refine Sh.wp_sv smS (x := ⟨zw, zA, zn, zc, zb, zB, zm, zk⟩) rfl (.tmp 7) (.tmp 26) rfl rfl (by rfl) q4 ?_; intro w5 q5 b5 o5 s5; have v5 := hid ((V4.out.below b5 (by have := L4.out; omega))); have c0 := v5.out.cell (j := 0) rfl; have c1 := v5.out.cell (j := 1) rfl; have c2 := v5.out.cell (j := 2) rfl; have c3 := v5.out.cell (j := 3) rfl; have d0 := q5.cell (j := 0) rfl; have d1 := q5.cell (j := 1) rfl; have d2 := q5.cell (j := 2) rfl; have d3 := q5.cell (j := 3) rfl; have Q5 := hid q5; have B5 := hid (B4.out.trans (b5.mono (by have := L4.out; omega))); clear q5 b5 o5 s5)
            | (refine Sh.wp_al smS rfl rfl ?_; intro w4 q4 b4 s4; have L4 := hid (V3.out.lt); have V4 := hid (V3.out.keep b4); have B4 := hid (B3.out.trans (b4.mono B3.out.size)); clear b4 s4)
            | (refine Sh.wp_ld smS rfl (.tmp 25) rfl rfl r2' ?_)
            | (refine Sh.wp_sv smS (x := ⟨xw, xA, xn, xc, xb, xB, xm, xk⟩) rfl (.tmp 6) (.tmp 22) rfl rfl (by rfl) q2 ?_; intro w3 q3 b3 o3 s3; have V3 := hid q3; have B3 := hid (B2.out.trans (b3.mono (Nat.le_refl _))); have r2' := range_keep r2 hb2 (B2.out.trans (b3.mono (Nat.le_refl _))); clear q3 b3 o3 s3)
            | (refine Sh.wp_al smS rfl rfl ?_; intro w2 q2 b2 s2; have B2 := hid b2; clear b2 s2)
            | (refine Sh.wp_ld smS rfl (.tmp 21) rfl rfl r1 ?_))
          go_wp2_with fail
          go_ret
          exact ⟨ret_bool HD.out.symm, BW.out.trans (B5.out.mono BW.out.size)⟩
      · obtain rfl : i = n := by omega
        have hr := hs.ta.done (by rw [HX.out.1]; exact Nat.le_refl _)
        have hq := hs.tb.done (by rw [HY.out.1]; exact Nat.le_refl _)
        have HD := hid (show R = true by rw [← HR.out, hs.eq, hr, hq]; rfl)
        have BW := hid hs.bl
        clear hs hr hq
        go_wp2
        go_ret
        exact ⟨ret_bool HD.out.symm, BW.out⟩
  · have HD := hid (show R = false by
      rw [← HR.out, decide_eq_false_iff_not]
      rintro rfl
      exact hnn (by rw [← L1, ← L2]))
    have hne : ((n : Int) == (n2 : Int)) = false := beq_eq_false_iff_ne.2 (by omega)
    clear hx hy hf htr htr2 hc hc2 ho ho2 L1 L2
    go_enter Tryz.func15, Tryz.ntmps15
    go_wp2
    go_ret
    exact ⟨ret_bool HD.out.symm, Below.refl _ _⟩
theorem rsame_any (f : Fo) : SameSaid 15 f := (Fo.ind rsame_step f).1
end Go.Proofs.YtpkoboohnbkpoaaGreatDoor

/-! QE -/
namespace Go.Proofs.YtpkoboohnbkpoaaGreatDoor
open Go Go.RowKit Go.Joins

theorem foP : Tryz.prog.underlying 26 = some (.struct (Tryz.prog.fieldsOf 26)) := by kernel_rfl
theorem siP : Tryz.prog.stoodInHeld 26 = false := by kernel_rfl
theorem egP : Tryz.prog.eqGuardType Tryz.prog.depth 26 = false := by kernel_rfl
theorem eqInP (x y : Pl) (w : World) : (Op.equalIn 10000 26 (plV x) (plV y)).run Tryz.prog w = .ok (decide (x = y)) w := by
  obtain ⟨x1, x2⟩ := x
  obtain ⟨y1, y2⟩ := y
  unfold plV
  rw [run_equalIn_agg w 9999 26 _ _ foP siP]
  simp [go_sem]
  by_cases h1 : x1 = y1 <;> by_cases h2 : x2 = y2 <;> simp [h1, h2] <;> omega
theorem eqP (x y : Pl) (w : World) : (binOp .eql 26 (plV x) (plV y)).run Tryz.prog w = .ok (.bool (decide (x = y))) w := by
  have := eqInP x y w
  unfold plV at this ⊢
  rw [run_eql_struct, this]; rfl
theorem neP (x y : Pl) (w : World) : (binOp .neq 26 (plV x) (plV y)).run Tryz.prog w = .ok (.bool (!decide (x = y))) w := by
  have := eqInP x y w
  unfold plV at this ⊢
  rw [run_neq_struct, this]; rfl
theorem guP (op : BinOp) (a b : Operand) (x y : Pl) (w : World) : (eqGuard op 26 a b (plV x) (plV y)).run Tryz.prog w = .ok () w := run_eqGuard_agg w op 26 a b _ _ egP

def repD (x : List UInt8) : Nat → List UInt8
  | 0 => []
  | n + 1 => repD x n ++ x
def txtD (n : Nat) : List UInt8 := (repD [97, 123] n ++ [98, 59]) ++ repD [125] n
def txtN (k : Nat) : List UInt8 := ([119] ++ repD [32, 49] k) ++ [59]
def firstN : Fo → Nat
  | .nil => 0
  | .cons _ ns _ _ _ => ns.length
def chkD (n : Nat) : Bool := match parN 40 (txtD n) with
  | .ok f => decide (n ≤ 5) && (f.depth == n + 1 && f.count == n + 1)
  | .bad p e => decide (6 ≤ n) && (p == ⟨1, 12⟩ && e == 6)
def chkN (k : Nat) : Bool := match parN 40 (txtN k) with
  | .ok f => decide (k ≤ 8) && (f.len == 1 && firstN f == k)
  | .bad p e => decide (9 ≤ k) && (p == ⟨1, 19⟩ && e == 7)
theorem chkD_all : ∀ n, n < 9 → chkD n = true ∧ (txtD n).length ≤ 40 := by decide +kernel
theorem chkN_all : ∀ k, k < 12 → chkN k = true ∧ (txtN k).length ≤ 40 := by decide +kernel
theorem deep_ok {n : Nat} (hn : n < 9) (h : n ≤ 5) : ∃ f, parF (txtD n) = .ok f ∧ f.depth = n + 1 ∧ f.count = n + 1 := by
  obtain ⟨h1, h2⟩ := chkD_all n hn
  rw [parN_eq 40 _ h2]
  unfold chkD at h1
  generalize parN 40 (txtD n) = x at *
  match x with
  | .ok f => simp at h1; exact ⟨f, rfl, h1.2.1, h1.2.2⟩
  | .bad p e => simp at h1; omega
theorem deep_no {n : Nat} (hn : n < 9) (h : ¬ n ≤ 5) : parF (txtD n) = .bad ⟨1, 12⟩ 6 := by
  obtain ⟨h1, h2⟩ := chkD_all n hn
  rw [parN_eq 40 _ h2]
  unfold chkD at h1
  generalize parN 40 (txtD n) = x at *
  match x with
  | .ok f => simp at h1; omega
  | .bad p e => simp at h1; rw [h1.2.1, h1.2.2]
theorem nums_ok {k : Nat} (hk : k < 12) (h : k ≤ 8) : ∃ f, parF (txtN k) = .ok f ∧ f.len = 1 ∧ firstN f = k := by
  obtain ⟨h1, h2⟩ := chkN_all k hk
  rw [parN_eq 40 _ h2]
  unfold chkN at h1
  generalize parN 40 (txtN k) = x at *
  match x with
  | .ok f => simp at h1; exact ⟨f, rfl, h1.2.1, h1.2.2⟩
  | .bad p e => simp at h1; omega
theorem nums_no {k : Nat} (hk : k < 12) (h : ¬ k ≤ 8) : parF (txtN k) = .bad ⟨1, 19⟩ 7 := by
  obtain ⟨h1, h2⟩ := chkN_all k hk
  rw [parN_eq 40 _ h2]
  unfold chkN at h1
  generalize parN 40 (txtN k) = x at *
  match x with
  | .ok f => simp at h1; omega
  | .bad p e => simp at h1; rw [h1.2.1, h1.2.2]
end Go.Proofs.YtpkoboohnbkpoaaGreatDoor

/-! QH -/
namespace Go.Proofs.YtpkoboohnbkpoaaGreatDoor
open Go Go.RowKit Go.Joins

theorem cut_any_place {l : List UInt8} (h : (cutL l false firstP).2 = none) (q : Pl) : (cutL l false q).2 = none ∧ (cutL l false q).1.map (·.1) = toksF l := by
  have h1 := tks_free l false q firstP
  simp only [tks, Prod.mk.injEq] at h1
  refine ⟨?_, h1.1⟩
  have h2 := h1.2
  rw [h] at h2
  simpa using h2
theorem nth_left {a b : List Pl} {i : Nat} (h : i < a.length) : plS.nth (a ++ b) i = plS.nth a i := by
  unfold Sh.nth
  rw [List.getD_eq_getElem?_getD, List.getD_eq_getElem?_getD, List.getElem?_append_left h]
theorem par_bad {l m : List UInt8} {p : Pl} {e : Nat} (hl : l.length ≤ 20000) (hm : m.length ≤ 20000) (h : parF l = .bad p e) (he : e ≠ 3) (hc : (cutL m false firstP).2 = none) : parF (l ++ 10 :: m) = .bad p e := by
  have hj := cut_join m l.length l false firstP (Nat.le_refl _)
  have hlen : ¬ 65536 < (l ++ 10 :: m).length := by simp; omega
  unfold parF at h ⊢
  rw [if_neg (by omega)] at h
  rw [if_neg hlen]
  cases hx : (cutL l false firstP).2 with
  | some pf =>
    rw [hj.1 _ hx, hx]
    rw [hx] at h
    exact h
  | none =>
    obtain ⟨q, hq⟩ := hj.2 hx
    obtain ⟨h1, h2⟩ := cut_any_place hc q
    rw [hx] at h
    have ht : toksF (l ++ 10 :: m) = toksF l ++ toksF m := by unfold toksF; rw [hq, List.map_append, h2]; rfl
    have hp : placesF (l ++ 10 :: m) = placesF l ++ (cutL m false q).1.map (·.2) := by unfold placesF; rw [hq, List.map_append]
    rw [hq, h1]
    simp only at h ⊢
    cases ha : allF (toksF l) with
    | ok f m2 r => rw [ha] at h; cases h
    | bad er r =>
      rw [ha] at h
      simp only at h
      injection h with hpl her
      subst her
      obtain ⟨h3, h4⟩ := all_bad (us := toksF m) ha he
      have hsh := allF_short (toksF l)
      rw [ha] at hsh
      obtain ⟨pp, hpp⟩ := hsh
      have hr : 0 < r.length := by cases r with | nil => exact absurd rfl h3 | cons _ _ => simp
      have hll := congrArg List.length hpp
      rw [List.length_append] at hll
      have hpl2 : (placesF l).length = (toksF l).length := by unfold placesF toksF; rw [List.length_map, List.length_map]
      rw [ht, h4, hp, ← hpl]
      simp only
      congr 1
      have e1 : (toksF l ++ toksF m).length - (r ++ toksF m).length = (toksF l).length - r.length := by simp only [List.length_append]; omega
      rw [e1, List.append_assoc, nth_left (by omega), nth_left (by omega)]
theorem par_ok {l m : List UInt8} {f g : Fo} (hl : l.length ≤ 20000) (hm : m.length ≤ 20000) (h : parF l = .ok f) (h2 : parF m = .ok g) (hc : f.count + g.count ≤ 2000) : parF (l ++ 10 :: m) = .ok (f.app g) := by
  have hj := cut_join m l.length l false firstP (Nat.le_refl _)
  have hlen : ¬ 65536 < (l ++ 10 :: m).length := by simp; omega
  unfold parF at h h2 ⊢
  rw [if_neg (by omega)] at h h2
  rw [if_neg hlen]
  cases hx : (cutL l false firstP).2 with
  | some pf => rw [hx] at h; cases h
  | none =>
    cases hy : (cutL m false firstP).2 with
    | some pf => rw [hy] at h2; cases h2
    | none =>
      obtain ⟨q, hq⟩ := hj.2 hx
      obtain ⟨h3, h4⟩ := cut_any_place hy q
      rw [hx] at h
      rw [hy] at h2
      have ht : toksF (l ++ 10 :: m) = toksF l ++ toksF m := by unfold toksF; rw [hq, List.map_append, h4]; rfl
      rw [hq, h3, ht]
      simp only at h h2 ⊢
      cases ha : allF (toksF l) with
      | bad er r => rw [ha] at h; cases h
      | ok f2 m2 r =>
        cases hb : allF (toksF m) with
        | bad er r => rw [hb] at h2; cases h2
        | ok g2 k2 r2 =>
          rw [ha] at h
          rw [hb] at h2
          cases h
          cases h2
          rw [all_join ha hb hc]
theorem par_count {l : List UInt8} {f : Fo} (h : parF l = .ok f) : f.count ≤ 2000 := by
  unfold parF at h
  split at h
  · cases h
  split at h
  · cases h
  cases ha : allF (toksF l) with
  | bad er r => rw [ha] at h; cases h
  | ok f2 m2 r =>
    rw [ha] at h
    cases h
    obtain ⟨_, h1, h2⟩ := all_ok ha
    omega

/-! ### The numbers of statements that are parsed -/
def OkR : Res → Prop
  | .ok f _ _ => f.okN
  | .bad _ _ => True
theorem okN_app {f g : Fo} (h : f.okN) (h2 : g.okN) : (f.app g).okN := by
  induction f with
  | nil => exact h2
  | cons w ns b y n _ ih => exact ⟨h.1, h.2.1, ih h.2.2⟩
theorem end_okN {L : Nat → Nat → List Tk → Res} (hL : ∀ d m ts, OkR (L d m ts)) (wd : List UInt8) (ns : List (Int × Bool)) (hn : ns.length ≤ 8) (d m : Nat) (ts : List Tk) : OkR (endF L wd ns d m ts) := by
  unfold endF
  match ts with
  | [] => trivial
  | s :: r2 =>
    simp only
    split
    · trivial
    split
    · exact ⟨by omega, trivial, trivial⟩
    split
    · split
      · trivial
      · have hb : OkR (blkF L (d + 1) m r2) := by
          unfold blkF
          have := hL (d + 1) m r2
          generalize L (d + 1) m r2 = X at *
          match X with
          | .bad e r => trivial
          | .ok f m r =>
            match r with
            | [] => trivial
            | c :: r3 =>
              simp only
              split
              · exact this
              · trivial
        generalize blkF L (d + 1) m r2 = X at *
        match X with
        | .bad e r => trivial
        | .ok f m r => exact ⟨by omega, hb, trivial⟩
    · trivial
theorem lst_okN : ∀ (n d m : Nat) (ts : List Tk), OkR (lstF n d m ts)
  | 0, _, _, _ => trivial
  | n + 1, d, m, [] => trivial
  | n + 1, d, m, t :: r => by
    by_cases h1 : t.kind = 1
    · rw [lst_word n d m t r h1]
      have hs : OkR (stmX (lstF n) d m t r) := by
        unfold stmX
        split
        · trivial
        · unfold stmF
          split
          · rename_i hf
            exact end_okN (lst_okN n) _ _ (by unfold numsF; rw [List.length_map]; simpa [fewN] using hf) _ _ _
          · trivial
      generalize stmX (lstF n) d m t r = X at *
      match X with
      | .bad e r => trivial
      | .ok x m2 r2 =>
        simp only
        have := lst_okN n d m2 r2
        generalize lstF n d m2 r2 = Y at *
        match Y with
        | .bad e r => trivial
        | .ok f m r => exact okN_app hs this
    · rw [lstF, if_neg h1]; trivial
theorem par_okN {l : List UInt8} {f : Fo} (h : parF l = .ok f) : f.okN := by
  unfold parF at h
  split at h
  · cases h
  split at h
  · cases h
  cases ha : allF (toksF l) with
  | bad er r => rw [ha] at h; cases h
  | ok f2 m2 r =>
    rw [ha] at h
    cases h
    have := lst_okN (toksF l).length 1 0 (toksF l)
    rw [show lstF (toksF l).length 1 0 (toksF l) = lst 1 0 (toksF l) from rfl, (all_ok ha).1] at this
    exact this

/-- What Parse tells, in one form. -/
def Told (x : PRes) (w : World) (e : Ending) (w' : World) : Prop := Below w.heap.size w w' ∧ ∃ A n c p er F, e = .returned (.tuple #[.slice A n c, plV p, .int .i64 (er : Nat)]) ∧ TrS w' (fun k => w.heap.size ≤ k ∧ k < w'.heap.size) A n F ∧
  ((er = 0 ∧ x = .ok F) ∨ (er ≠ 0 ∧ x = .bad p er))
theorem parse_told (s : ByteArray) (w : World) (hL : LaidW w) (hs : s.size ≤ 9223372036854775807) : Calls Tryz.prog 13 #[.string s] w (Told (parF s.data.toList) w) := by
  refine (parse_any s w hL hs).mono ?_
  rintro e w' ⟨hb, h⟩
  refine ⟨hb, ?_⟩
  generalize parF s.data.toList = x at *
  match x with
  | .ok f => obtain ⟨A, n, c, rfl, ht⟩ := h; exact ⟨A, n, c, ⟨0, 0⟩, 0, f, rfl, ht, .inl ⟨rfl, rfl⟩⟩
  | .bad p er => obtain ⟨h1, rfl⟩ := h; exact ⟨none, 0, 0, p, er, .nil, rfl, TrS.nil, .inr ⟨by omega, rfl⟩⟩
end Go.Proofs.YtpkoboohnbkpoaaGreatDoor

/-! WF -/
namespace Go.Proofs.YtpkoboohnbkpoaaGreatDoor
open Go Go.RowKit Go.Joins

theorem numX_len (n : Int) (time : Bool) (h : -1000000000000000000 < n ∧ n < 1000000000000000000) : (numX n time).length ≤ 22 := by
  have key : ∀ m : Int, m.natAbs < 1000000000000000000 → (Lib.itoa m).length ≤ 19 := by
    intro m hm
    obtain ⟨ds, _, _, _, d4, d5⟩ := itoa_form m
    have d6 := nDigits_le 18 m.natAbs hm (by omega)
    rcases d5 with ⟨_, d5⟩ | ⟨_, d5⟩
    · rw [d5, List.length_cons]; omega
    · rw [d5]; omega
  unfold numX
  split
  · have h2 : (unitOf n).1.length ≤ 2 := by
      unfold unitOf
      repeat' split
      all_goals decide
    have h3 : (n.tdiv (unitOf n).2).natAbs ≤ n.natAbs := by
      rw [Int.natAbs_tdiv]; exact Nat.div_le_self _ _
    have h4 := key (n.tdiv (unitOf n).2) (by omega)
    rw [List.length_append]; omega
  · have h4 := key n (by omega)
    omega
theorem numsL_len : ∀ ns : List (Int × Bool), (∀ x ∈ ns, -1000000000000000000 < x.1 ∧ x.1 < 1000000000000000000) → (numsL ns).length ≤ 23 * ns.length
  | [], _ => by simp [numsL]
  | x :: ns, h => by
    have h1 := numsL_len ns (fun y hy => h y (List.mem_cons_of_mem _ hy))
    have h2 := numX_len x.1 x.2 (h x (List.mem_cons_self ..))
    rw [numsL_cons]
    simp only [List.length_append, List.length_cons]
    omega
theorem line_len {wd : List UInt8} {ns : List (Int × Bool)} {bl : Bool} {k : Nat} (h : fitB wd ns bl k = true) : (lineF wd ns bl).length ≤ 202 := by
  obtain ⟨h1, h2, h3, _⟩ := fit_of h
  have h4 := numsL_len ns (far_of h3)
  have h5 : wd.length ≤ 16 := by
    match wd, h1 with
    | c :: r, h1 =>
      simp only [wordB, Bool.and_eq_true, decide_eq_true_eq] at h1
      simp only [List.length_cons]; omega
  have h6 : (tailL bl).length ≤ 2 := by cases bl <;> decide
  unfold lineF
  simp only [List.length_append]
  omega
theorem text_len : ∀ (f : Fo) (k : Int) (sp : List UInt8), f.okA k → 1 ≤ k → (sp.length : Int) + 2 * k ≤ 12 → (f.text sp).length ≤ 260 * f.count
  | .nil, _, _, _, _, _ => by simp [Fo.text]
  | .cons wd ns bl y n, k, sp, h, hk, hs => by
    obtain ⟨h1, h2, h3, h4⟩ := h
    have hl := line_len h1
    have hn := text_len n k sp h4 hk hs
    cases bl with
    | false =>
      simp only [Fo.text, Fo.count, List.length_append, List.length_cons, if_false, List.length_nil, Bool.false_eq_true]
      omega
    | true =>
      have := h2 rfl
      have hy := text_len y (k - 1) (sp ++ [32, 32]) h3 (by omega) (by simp only [List.length_append, List.length_cons, List.length_nil]; omega)
      simp only [Fo.text, Fo.count, List.length_append, List.length_cons, if_true, List.length_nil]
      omega

theorem prZ (w : World) : (zeroValue 126).run Tryz.prog w = .ok (.agg #[.pointer none, .slice none 0 0]) w := by kernel_rfl
theorem wp_alp {w : World} {ops : Array Oper} {rest : List Oper} {o : Oper} {a : Act} {Q : Exit → Act → World → Prop} (hg : o.guard = none) (ho : o.op = .alloc 126)
    (h : ∀ w', PB w' w.heap.size w.heap.size [] → Below w.heap.size w w' → Hid (w'.heap.size = w.heap.size + 1) → wpList Tryz.prog ops Q rest (a.put o.dst (.pointer (some ⟨w.heap.size, 0, none⟩))) w') : wpList Tryz.prog ops Q (o :: rest) a w := by
  refine wpList_plain hg fun K hK => ?_
  unfold Oper.wp execOp
  simp only [ho, Sem.run_bind, Instr.alloc, prZ, newVar, newRow, run_newObj_alloc, Sem.run_pure, Result.andThen_ok]
  exact hK _ _ (h _ (pb_new w) ((Below.refl _ _).alloc (Nat.le_refl _) _) (hid (by simp)))

/-- What Print tells: the error, the text. -/
def prE (f : Fo) : Nat := if chkE f = 0 then (if 65536 < (f.text []).length then 6 else 0) else 1
def prT (f : Fo) : List UInt8 := if prE f = 0 then f.text [] else []
def ChkAt (f : Fo) (v : Value) (w : World) : Prop := ∀ w1, Below w.heap.size w w1 → Calls Tryz.prog 40 #[v] w1 fun e w' => e = .returned (.int .i64 (chkE f : Nat)) ∧ Below w1.heap.size w1 w'
theorem chk_01 (f : Fo) : chkE f = 0 ∨ chkE f = 1 := by unfold chkE; split <;> simp
set_option maxHeartbeats 1000000 in
set_option maxRecDepth 100000 in
theorem print_any (f : Fo) (w : World) (K : Nat → Prop) (A : Option Addr) (n c : Nat) (hL : LaidW w) (ht : TrS w K A n f) (hK : ∀ k, K k → k < w.heap.size) (hc : ChkAt f (.slice A n c) w) :
    Calls Tryz.prog 36 #[.slice A n c] w fun e w' => e = .returned (.tuple #[.string (bA (prT f)), .int .i64 (prE f : Nat)]) ∧ Below w.heap.size w w' := by
  have HC := hid hc
  have HT := hid ht
  have HL := hid hL
  have HK := hid hK
  clear hc ht hL hK
  rcases chk_01 f with h0 | h1
  · obtain ⟨hok, hcount⟩ := chk_ok h0
    have htl := text_len f 6 [] hok (by omega) (by simp)
    have HC := hid (by have := HC.out w (Below.refl _ _); rwa [h0] at this)
    have HP := hid (fun w1 w2 (b1 : Below w.heap.size w w1) (b2 : Below w1.heap.size w1 w2) (hp : PB w2 w1.heap.size w1.heap.size []) => plist_any f w2 w1.heap.size w1.heap.size [] K A n c [] 6 hp
      (fun w3 b3 => HL.out.below (b1.trans ((b2.trans b3).mono b1.size))) (HT.out.keep fun j hj _ => (b1.trans (b2.mono b1.size)).block j (HK.out j hj)) (fun j hj => Nat.lt_of_lt_of_le (HK.out j hj) b1.size) hok (by omega) (by simp only [List.length_nil]; omega))
    simp only [List.nil_append] at HP
    by_cases hlen : 65536 < (f.text []).length
    · have hE : prE f = 6 := by unfold prE; rw [if_pos h0, if_pos hlen]
      have hT : prT f = [] := by unfold prT; rw [hE]; rfl
      rw [hE, hT]
      have hlen' : (65536 : Int) < ((f.text []).length : Int) := by omega
      clear hE hT hlen htl hok hcount h0
      generalize hq : f.text [] = q at *
      clear hq
      obtain ⟨z, hz⟩ : ∃ z : Nat, q.length = z := ⟨_, rfl⟩
      rw [hz] at hlen'
      go_enter Tryz.func36, Tryz.ntmps36
      go_wp2_with (first
        | (go_at_call 84; refine (plen_any P3.out).mono ?_; rintro e w4 ⟨rfl, rfl⟩; rw [hz])
        | (go_at_call 83; refine (HP.out w1 w2 B1.out B2.out P2.out).mono ?_; rintro e w3 ⟨rfl, p3, m3⟩; have P3 := hid p3; have B3 := hid (B1.out.trans ((B2.out.trans m3.bel).mono B1.out.size)); clear p3 m3)
        | (refine wp_alp rfl rfl ?_; intro w2 p2 b2 s2; have P2 := hid p2; have B2 := hid b2; clear p2 b2 s2)
        | (go_at_call 40; refine HC.out.mono ?_; rintro e w1 ⟨rfl, b1⟩; have B1 := hid b1; clear b1))
      go_ret2
      exact ⟨rfl, B3.out⟩
    · have hE : prE f = 0 := by unfold prE; rw [if_pos h0, if_neg hlen]
      have hT : prT f = f.text [] := by unfold prT; rw [hE]; rfl
      rw [hE, hT]
      have hlen' : ¬ (65536 : Int) < ((f.text []).length : Int) := by omega
      clear hE hT hlen htl hok hcount h0
      generalize hq : f.text [] = q at *
      clear hq
      obtain ⟨z, hz⟩ : ∃ z : Nat, q.length = z := ⟨_, rfl⟩
      rw [hz] at hlen'
      go_enter Tryz.func36, Tryz.ntmps36
      go_wp2_with (first
        | (go_at_call 85; refine (pstr_any P3.out).mono ?_; rintro e w5 ⟨rfl, b5⟩; have B5 := hid (B3.out.trans (b5.mono B1.out.size)); clear b5)
        | (go_at_call 84; refine (plen_any P3.out).mono ?_; rintro e w4 ⟨rfl, rfl⟩; rw [hz])
        | (go_at_call 83; refine (HP.out w1 w2 B1.out B2.out P2.out).mono ?_; rintro e w3 ⟨rfl, p3, m3⟩; have P3 := hid p3; have B3 := hid (B1.out.trans ((B2.out.trans m3.bel).mono B1.out.size)); clear p3 m3)
        | (refine wp_alp rfl rfl ?_; intro w2 p2 b2 s2; have P2 := hid p2; have B2 := hid b2; clear p2 b2 s2)
        | (go_at_call 40; refine HC.out.mono ?_; rintro e w1 ⟨rfl, b1⟩; have B1 := hid b1; clear b1))
      go_ret2
      exact ⟨rfl, B5.out⟩
  · have hne : ¬ chkE f = 0 := by omega
    have hE : prE f = 1 := by unfold prE; rw [if_neg hne]
    have hT : prT f = [] := by unfold prT; rw [hE]; rfl
    have HC := hid (by have := HC.out w (Below.refl _ _); rwa [h1] at this)
    rw [hE, hT]
    clear hE hT hne h1
    go_enter Tryz.func36, Tryz.ntmps36
    go_wp2_with (first
      | (go_at_call 40; refine HC.out.mono ?_; rintro e w1 ⟨rfl, b1⟩; have B1 := hid b1; clear b1))
    go_ret2
    exact ⟨rfl, B1.out⟩
end Go.Proofs.YtpkoboohnbkpoaaGreatDoor

/-! SC -/
namespace Go.Proofs.YtpkoboohnbkpoaaGreatDoor
open Go Go.RowKit Go.Joins

def fewH (n : Nat) (d : Int) : Bool := !(decide (d = 0) && decide (0 < n)) && decide (n ≤ 2100)
def Fo.fewE : Fo → Int → Bool
  | nil, _ => true
  | cons wd ns _ y n, d => (decide (wd.length ≤ 100) && (decide (ns.length ≤ 100) && (fewH y.len (d - 1) && y.fewE (d - 1)))) && n.fewE d
def FewSaid (f : Fo) : Prop := ∀ (w : World) (K : Nat → Prop) (A : Option Addr) (n c : Nat) (d : Int), TrS w K A n f → 0 ≤ d → d ≤ 1000 →
  Calls Tryz.prog 49 #[.slice A n c, .int .i64 d] w fun e w' => e = .returned (.bool (fewH f.len d && f.fewE d)) ∧ Below w.heap.size w w'
set_option maxHeartbeats 2000000 in
set_option maxRecDepth 100000 in
theorem rfew_step (f : Fo) (hf : f.Bodies FewSaid) : FewSaid f := by
  intro w K A n c d ht hd0 hd1
  have hl : f.len = n := ht.len.symm
  rw [hl]
  obtain ⟨xs, hx, htr⟩ := ht
  by_cases ha : d = 0 ∧ 0 < n
  · obtain ⟨rfl, h0⟩ := ha
    have hn : (0 : Int) < n := by omega
    have hv : (fewH n 0 && f.fewE 0) = false := by simp [fewH]; omega
    rw [hv]
    clear hv hx htr hf hl
    go_enter Tryz.func49, Tryz.ntmps49
    go_wp2
    go_ret
    exact ⟨rfl, Below.refl _ _⟩
  by_cases hb : 2100 < n
  · have hn : (2100 : Int) < n := by omega
    have he : (d == 0) = false := by simp; omega
    have hv : (fewH n d && f.fewE d) = false := by simp [fewH]; omega
    rw [hv]
    clear hv hx htr hf hl ha
    go_enter Tryz.func49, Tryz.ntmps49
    go_wp2
    go_ret
    exact ⟨rfl, Below.refl _ _⟩
  have hv : fewH n d = true := by simp [fewH]; omega
  rw [hv, Bool.true_and]
  have HX := hid hx
  obtain ⟨R, hR⟩ : ∃ R, f.fewE d = R := ⟨_, rfl⟩
  rw [hR]
  have HS0 := hid (And.intro hf (And.intro htr hR))
  have hn2 : (n : Int) ≤ 2100 := by omega
  by_cases hz : d = 0
  · obtain rfl : n = 0 := by omega
    subst hz
    have hr : f = .nil := Tr.done (i := 0) (xs := xs) (by simpa using htr) (by rw [hx.1]; exact Nat.le_refl _)
    have HR := hid (show true = R by rw [← hR, hr]; rfl)
    clear hv hx htr hf hl ha hb hR hr
    go_enter Tryz.func49, Tryz.ntmps49
    go_wp2
    go_loopw [21] (fun v21 wr => v21 = .int .i64 0 ∧ Below w.heap.size w wr) (fun _ _ => 0)
    case atStart => exact ⟨rfl, Below.refl _ _⟩
    case round =>
      obtain ⟨rfl, hbel⟩ := hrel
      go_wp2
      go_ret
      exact ⟨by rw [← HR.out]; rfl, hbel⟩
  have he : (d == 0) = false := by simp; omega
  have hd2 : 1 ≤ d := by omega
  clear hv hx htr hf hl ha hb hR
  go_enter Tryz.func49, Tryz.ntmps49
  go_wp2
  go_loopw [21] (fun v21 wr => ∃ (i : Nat) (r : Fo), v21 = .int .i64 (i : Int) ∧ i ≤ n ∧ r.fewE d = R ∧ r.Bodies FewSaid ∧ Tr w K r (xs.drop i) ∧ Below w.heap.size w wr) (fun v21 _ => n - (intOf v21).toNat)
  case atStart => exact ⟨0, f, rfl, Nat.zero_le _, HS0.out.2.2, HS0.out.1, by simpa using HS0.out.2.1, Below.refl _ _⟩
  case round =>
    obtain ⟨i, r, rfl, hi, hrv, hbo, htr, hbel⟩ := hrel
    have BW := hid hbel
    by_cases hlt : i < n
    · obtain ⟨wd, ns, bl, y, nx, rfl, e1, e2, hns, hy, hnx⟩ := htr.step (by rw [HX.out.1]; exact hlt)
      obtain ⟨b, o, rfl, hb, hcell⟩ := (HX.out.size.below hbel).at_ hlt
      generalize smS.nth xs i = x at *
      obtain ⟨xw, xA, xn, xc, xb, xB, xm, xk⟩ := x
      simp only at e1 e2 hns hy
      subst e1 e2
      have r1 : wr.rangeAt b (o + i * 4) (smS.enc ⟨xw, xA, xn, xc, xb, xB, xm, xk⟩) := hcell
      have hnn : ns.length = xn := hns.1
      rw [Fo.fewE, hnn] at hrv
      have HRV := hid hrv
      have HY := hid hbo.1
      have YT := hid hy
      have NX := hid (And.intro hbo.2 hnx)
      clear hcell hbel hbo htr hns hy hnx hb hnn hrv
      go_upto_region 6 with (first
        | (refine Sh.wp_sv smS (x := ⟨xw, xA, xn, xc, xb, xB, xm, xk⟩) rfl (.tmp 6) (.tmp 24) rfl rfl (by rfl) q2 ?_; intro w3 q3 b3 o3 s3; have B3 := hid (BW.out.trans ((B2.out.trans (b3.mono (Nat.le_refl _))).mono BW.out.size)); have V3 := hid q3; clear q3 b3 o3 s3)
        | (refine Sh.wp_al smS rfl rfl ?_; intro w2 q2 b2 s2; have B2 := hid b2; clear b2 s2)
        | (refine Sh.wp_ld smS rfl (.tmp 23) rfl rfl r1 ?_))
      have c0 : w3.cell? ⟨wr.heap.size, 0, none⟩ = some (.string (strB xw)) := V3.out.cell (j := 0) rfl
      have c1 : w3.cell? ⟨wr.heap.size, 1, none⟩ = some (.slice xA xn xc) := V3.out.cell (j := 1) rfl
      have c3 : w3.cell? ⟨wr.heap.size, 3, none⟩ = some (.slice xB xm xk) := V3.out.cell (j := 3) rfl
      have hsz : (strB xw).size = xw.length := rfl
      by_cases h1 : 100 < xw.length
      · have HV := hid (show false = R by rw [← HRV.out, decide_eq_false (by omega)]; rfl)
        have g1 : (100 : Int) < (strB xw).size := by omega
        clear hsz h1 r1
        go_wp2
        go_ret
        exact ⟨by rw [← HV.out]; rfl, B3.out⟩
      · have g1 : ¬ (100 : Int) < (strB xw).size := by omega
        by_cases h2 : 100 < xn
        · have HV := hid (show false = R by rw [← HRV.out, decide_eq_false (p := xn ≤ 100) (by omega)]; simp)
          have g2 : (100 : Int) < xn := by omega
          clear hsz h1 h2 r1
          go_wp2
          go_ret
          exact ⟨by rw [← HV.out]; rfl, B3.out⟩
        · have g2 : ¬ (100 : Int) < xn := by omega
          have HC := hid (by have := HY.out w3 K xB xm xk (d - 1) (YT.out.below B3.out) (by omega) (by omega); exact this)
          obtain ⟨q, hq⟩ : ∃ q, (fewH y.len (d - 1) && y.fewE (d - 1)) = q := ⟨_, rfl⟩
          rw [hq] at HC
          have HV := hid (show (q && nx.fewE d) = R by rw [← HRV.out, hq, decide_eq_true (p := xw.length ≤ 100) (by omega), decide_eq_true (p := xn ≤ 100) (by omega)]; simp)
          clear hsz h1 h2 r1 hq
          cases q with
          | false =>
            go_wp2_with (first
              | (go_at_call 49; (with_reducible refine HC.out.mono ?_); rintro e w4 ⟨rfl, b4⟩; have B4 := hid (B3.out.trans (b4.mono B3.out.size)); clear b4))
            go_ret
            exact ⟨by rw [← HV.out]; rfl, B4.out⟩
          | true =>
            go_wp2_with (first
              | (go_at_call 49; (with_reducible refine HC.out.mono ?_); rintro e w4 ⟨rfl, b4⟩; have B4 := hid (B3.out.trans (b4.mono B3.out.size)); clear b4))
            go_roundw
            case rel => exact ⟨i + 1, nx, rfl, by omega, by rw [← HV.out]; rfl, NX.out.1, NX.out.2, B4.out⟩
            case measure => simp [intOf]; omega
    · obtain rfl : i = n := by omega
      have hr := htr.done (by rw [HX.out.1]; exact Nat.le_refl _)
      subst hr
      have HV := hid (show true = R from hrv)
      clear hrv hbo htr hbel
      go_wp2
      go_ret
      exact ⟨by rw [← HV.out]; rfl, BW.out⟩
theorem rfew_any (f : Fo) : FewSaid f := (Fo.ind rfew_step f).1
end Go.Proofs.YtpkoboohnbkpoaaGreatDoor

/-! WN -/
namespace Go.Proofs.YtpkoboohnbkpoaaGreatDoor
open Go Go.RowKit Go.Joins

/-- no level has more than a million statements -/
def Fo.okB : Fo → Prop
  | nil => True
  | cons _ _ _ y n => (y.len ≤ 1000000 ∧ y.okB) ∧ n.okB
def Fo.okL (f : Fo) : Prop := f.len ≤ 1000000 ∧ f.okB
theorem okB_app {f g : Fo} (h : f.okB) (h2 : g.okB) : (f.app g).okB := by
  induction f with
  | nil => exact h2
  | cons w ns b y n _ ih => exact ⟨h.1, ih h.2⟩
theorem okS_app {f g : Fo} (h : f.okS) (h2 : g.okS) : (f.app g).okS := by
  induction f with
  | nil => exact h2
  | cons w ns b y n _ ih => exact ⟨h.1, h.2.1, h.2.2.1, ih h.2.2.2⟩
theorem few_parts : ∀ (f : Fo) (d : Int), 0 ≤ d → f.len = 0 ∨ 0 < d → f.fewE d = true → f.okB ∧ f.okS ∧ f.okN ∧ (f.depth : Int) ≤ d + 1
  | .nil, d, h0, _, _ => ⟨trivial, trivial, trivial, by simp [Fo.depth]; omega⟩
  | .cons wd ns bl y n, d, h0, hd, h => by
    have hd : 0 < d := by rcases hd with h | h; simp [Fo.len] at h; exact h
    simp only [Fo.fewE, Bool.and_eq_true, decide_eq_true_eq] at h
    obtain ⟨⟨h1, h2, h3, h4⟩, h5⟩ := h
    have hy : y.len ≤ 2100 ∧ (y.len = 0 ∨ 0 < d - 1) := by
      simp only [fewH, Bool.and_eq_true, decide_eq_true_eq, Bool.not_eq_true', Bool.and_eq_false_iff, decide_eq_false_iff_not] at h3
      omega
    obtain ⟨a1, a2, a3, a4⟩ := few_parts y (d - 1) (by omega) hy.2 h4
    obtain ⟨b1, b2, b3, b4⟩ := few_parts n d h0 (.inr hd) h5
    refine ⟨⟨⟨by omega, a1⟩, b1⟩, ⟨by omega, by omega, a2, b2⟩, ⟨by omega, a3, b3⟩, ?_⟩
    simp only [Fo.depth]
    cases bl <;> simp <;> omega
theorem few_ok {f : Fo} (h : (fewH f.len 12 && f.fewE 12) = true) : f.okL ∧ f.okS ∧ f.okN ∧ f.depth ≤ 13 := by
  simp only [Bool.and_eq_true] at h
  have h1 : f.len ≤ 2100 := by
    have := h.1
    simp only [fewH, Bool.and_eq_true, decide_eq_true_eq] at this
    exact this.2
  obtain ⟨a1, a2, a3, a4⟩ := few_parts f 12 (by decide) (.inr (by decide)) h.2
  exact ⟨⟨by omega, a1⟩, a2, a3, by omega⟩
theorem roomF_ge : ∀ (f : Fo) (m d : Int), (f.len = 0 → -1 ≤ m) → -1 ≤ f.roomF m d := by
  intro f
  induction f with
  | nil => intro m d h; simp only [Fo.roomF]; exact h rfl
  | cons wd ns bl y n ih1 ih2 =>
    intro m d _
    rw [Fo.roomF]
    split
    · omega
    · rename_i h0
      have hm : ¬ m < 0 := fun h => h0 (.inl h)
      refine ih2 _ d fun _ => ih1 _ _ fun hy => by omega

def Room2Said (f : Fo) : Prop := ∀ (w : World) (K : Nat → Prop) (A : Option Addr) (n c : Nat) (many deep : Int), TrS w K A n f → f.okS → f.okL → 0 ≤ many → many ≤ 2305843009213693952 → -2305843009213693952 ≤ deep - f.depth → deep ≤ 2305843009213693952 →
  Calls Tryz.prog 86 #[.slice A n c, .int .i64 many, .int .i64 deep] w fun e w' => e = .returned (.int .i64 (f.roomF (many - f.len) deep)) ∧ Below w.heap.size w w'
set_option maxHeartbeats 2000000 in
set_option maxRecDepth 100000 in
theorem room2_step (f : Fo) (hf : f.Bodies Room2Said) : Room2Said f := by
  intro w K A n c many deep ht hok hc hm1 hm2 hd1 hd2
  have HL := hid (show f.len = n from ht.len.symm)
  obtain ⟨xs, hx, htr⟩ := ht
  have HX := hid hx
  have HC := hid hc
  have HS0 := hid (And.intro hf (And.intro htr hok))
  have hn : (n : Int) ≤ 1000000 := by have := HC.out.1; have := HL.out; omega
  obtain ⟨R, hR⟩ : ∃ R, f.roomF (many - f.len) deep = R := ⟨_, rfl⟩
  rw [hR]
  have HR := hid (show f.roomF (many - n) deep = R by rw [← HL.out]; exact hR)
  have HD := hid hd1
  have hdl : -2305843009213693952 ≤ deep := by have := f.depth; omega
  clear hx hc hf htr hR hok hd1
  go_enter Tryz.func86, Tryz.ntmps86
  go_wp2
  go_loopw [1, 15] (fun v1 v15 wr => ∃ (i : Nat) (m : Int) (r : Fo), v1 = .int .i64 m ∧ v15 = .int .i64 (i : Int) ∧ i ≤ n ∧ r.roomF m deep = R ∧ -1000000 ≤ m ∧ m ≤ 2305843009213693952 ∧ r.okB ∧ r.depth ≤ f.depth ∧ r.Bodies Room2Said ∧ Tr w K r (xs.drop i) ∧ r.okS ∧ Below w.heap.size w wr) (fun _ v15 _ => n - (intOf v15).toNat)
  case atStart => exact ⟨0, many - n, f, rfl, rfl, Nat.zero_le _, HR.out, by omega, by omega, HC.out.2, Nat.le_refl _, HS0.out.1, by simpa using HS0.out.2.1, HS0.out.2.2, Below.refl _ _⟩
  case round =>
    obtain ⟨i, m, r, rfl, rfl, hi, hrm, hml, hmu, hrc, hrd, hbo, htr, hok, hbel⟩ := hrel
    have BW := hid hbel
    by_cases hlt : i < n
    · obtain ⟨wd, ns, bl, y, nx, rfl, e1, e2, hns, hy, hnx⟩ := htr.step (by rw [HX.out.1]; exact hlt)
      obtain ⟨b, o, rfl, hb, hcell⟩ := (HX.out.size.below hbel).at_ hlt
      generalize smS.nth xs i = x at *
      obtain ⟨xw, xA, xn, xc, xb, xB, xm, xk⟩ := x
      simp only at e1 e2 hns hy
      subst e1 e2
      have r1 : wr.rangeAt b (o + i * 4) (smS.enc ⟨xw, xA, xn, xc, xb, xB, xm, xk⟩) := hcell
      have HF := hid (fun w3 (b3 : Below w.heap.size w w3) => show Calls Tryz.prog 119 #[.agg #[.string (strB xw), .slice xA xn xc, .bool xb, .slice xB xm xk]] w3 fun e w' => e = .returned (.bool (fitB xw ns xb xm)) ∧ Below w3.heap.size w3 w' from
        fits_any ⟨xw, xA, xn, xc, xb, xB, xm, xk⟩ ns w3 (hns.below b3).size (by have := hns.1; have := hok.2.1; simp only; omega) hok.1 (by have := hy.len; have := hrc.1.1; simp only; omega))
      have hyl : y.len = xm := hy.len.symm
      have YL := hid hyl
      have HY := hid hbo.1
      have YT := hid hy
      have HQ := hid (show y.okS ∧ y.okL ∧ -2305843009213693952 ≤ deep - 1 - (y.depth : Int) from ⟨hok.2.2.1, hrc.1, by have := HD.out; simp only [Fo.depth] at hrd; omega⟩)
      have NX := hid (show nx.okB ∧ nx.depth ≤ f.depth ∧ nx.Bodies Room2Said ∧ Tr w K nx (xs.drop (i + 1)) ∧ nx.okS from ⟨hrc.2, by simp only [Fo.depth] at hrd; omega, hbo.2, hnx, hok.2.2.2⟩)
      rw [Fo.roomF, hyl] at hrm
      have HRM := hid hrm
      have LOW := hid (fun (h : ¬ m < 0) => roomF_ge y (m - xm) (deep - 1) (fun hy => by rw [hyl] at hy; omega))
      have TOP := hid (roomF_top y (m - xm) (deep - 1))
      clear hcell hbel hrm hrc hrd hbo htr hok hns hy hnx hb hyl
      by_cases hneg : m < 0
      · have HV := hid (show -1 = R by rw [← HRM.out, if_pos (.inl hneg)])
        clear hml hmu
        go_upto_region 5 with (first
          | (refine Sh.wp_sv smS (x := ⟨xw, xA, xn, xc, xb, xB, xm, xk⟩) rfl (.tmp 8) (.tmp 18) rfl rfl (by rfl) q2 ?_; intro w3 q3 b3 o3 s3; have c0 : w3.cell? ⟨wr.heap.size, 0, none⟩ = some (.string (strB xw)) := q3.cell (j := 0) rfl; have c1 : w3.cell? ⟨wr.heap.size, 1, none⟩ = some (.slice xA xn xc) := q3.cell (j := 1) rfl; have c2 : w3.cell? ⟨wr.heap.size, 2, none⟩ = some (.bool xb) := q3.cell (j := 2) rfl; have c3 : w3.cell? ⟨wr.heap.size, 3, none⟩ = some (.slice xB xm xk) := q3.cell (j := 3) rfl; have V3 := hid q3; have B3 := hid (BW.out.trans ((B2.out.trans (b3.mono (Nat.le_refl _))).mono BW.out.size)); clear q3 b3 o3 s3)
          | (refine Sh.wp_al smS rfl rfl ?_; intro w2 q2 b2 s2; have B2 := hid b2; clear b2 s2)
          | (refine Sh.wp_ld smS rfl (.tmp 17) rfl rfl r1 ?_))
        go_wp2_with fail
        go_ret
        exact ⟨ret_int HV.out, B3.out⟩
      obtain ⟨fb, hfb⟩ : ∃ fb, fitB xw ns xb xm = fb := ⟨_, rfl⟩
      rw [hfb] at HF
      have HFB := hid hfb
      clear hfb
      cases fb with
      | false =>
        have HV := hid (show -1 = R by rw [← HRM.out, if_pos (.inr (.inl HFB.out))])
        go_upto_region 5 with (first
          | (refine Sh.wp_sv smS (x := ⟨xw, xA, xn, xc, xb, xB, xm, xk⟩) rfl (.tmp 8) (.tmp 18) rfl rfl (by rfl) q2 ?_; intro w3 q3 b3 o3 s3; have c0 : w3.cell? ⟨wr.heap.size, 0, none⟩ = some (.string (strB xw)) := q3.cell (j := 0) rfl; have c1 : w3.cell? ⟨wr.heap.size, 1, none⟩ = some (.slice xA xn xc) := q3.cell (j := 1) rfl; have c2 : w3.cell? ⟨wr.heap.size, 2, none⟩ = some (.bool xb) := q3.cell (j := 2) rfl; have c3 : w3.cell? ⟨wr.heap.size, 3, none⟩ = some (.slice xB xm xk) := q3.cell (j := 3) rfl; have V3 := hid q3; have B3 := hid (BW.out.trans ((B2.out.trans (b3.mono (Nat.le_refl _))).mono BW.out.size)); clear q3 b3 o3 s3)
          | (refine Sh.wp_al smS rfl rfl ?_; intro w2 q2 b2 s2; have B2 := hid b2; clear b2 s2)
          | (refine Sh.wp_ld smS rfl (.tmp 17) rfl rfl r1 ?_))
        go_wp2_with (first
          | (go_at_call 119; have h9 := HF.out w3 B3.out; (with_reducible refine h9.mono ?_); rintro e w4 ⟨rfl, b4⟩; have V4 := V3.out.keep b4; have c2 : w4.cell? ⟨wr.heap.size, 2, none⟩ = some (.bool xb) := V4.cell (j := 2) rfl; have c3 : w4.cell? ⟨wr.heap.size, 3, none⟩ = some (.slice xB xm xk) := V4.cell (j := 3) rfl; have B4 := hid (B3.out.trans (b4.mono B3.out.size)); clear b4 V4))
        go_ret
        exact ⟨ret_int HV.out, B4.out⟩
      | true =>
        cases xb with
        | true =>
          by_cases hd : deep = 1
          · have HV := hid (show -1 = R by rw [← HRM.out, if_pos (.inr (.inr ⟨rfl, hd⟩))])
            subst hd
            go_upto_region 5 with (first
              | (refine Sh.wp_sv smS (x := ⟨xw, xA, xn, xc, true, xB, xm, xk⟩) rfl (.tmp 8) (.tmp 18) rfl rfl (by rfl) q2 ?_; intro w3 q3 b3 o3 s3; have c0 : w3.cell? ⟨wr.heap.size, 0, none⟩ = some (.string (strB xw)) := q3.cell (j := 0) rfl; have c1 : w3.cell? ⟨wr.heap.size, 1, none⟩ = some (.slice xA xn xc) := q3.cell (j := 1) rfl; have c2 : w3.cell? ⟨wr.heap.size, 2, none⟩ = some (.bool true) := q3.cell (j := 2) rfl; have c3 : w3.cell? ⟨wr.heap.size, 3, none⟩ = some (.slice xB xm xk) := q3.cell (j := 3) rfl; have V3 := hid q3; have B3 := hid (BW.out.trans ((B2.out.trans (b3.mono (Nat.le_refl _))).mono BW.out.size)); clear q3 b3 o3 s3)
              | (refine Sh.wp_al smS rfl rfl ?_; intro w2 q2 b2 s2; have B2 := hid b2; clear b2 s2)
              | (refine Sh.wp_ld smS rfl (.tmp 17) rfl rfl r1 ?_))
            go_wp2_with (first
              | (go_at_call 119; have h9 := HF.out w3 B3.out; (with_reducible refine h9.mono ?_); rintro e w4 ⟨rfl, b4⟩; have V4 := V3.out.keep b4; have c2 : w4.cell? ⟨wr.heap.size, 2, none⟩ = some (.bool true) := V4.cell (j := 2) rfl; have c3 : w4.cell? ⟨wr.heap.size, 3, none⟩ = some (.slice xB xm xk) := V4.cell (j := 3) rfl; have B4 := hid (B3.out.trans (b4.mono B3.out.size)); clear b4 V4))
            go_ret
            exact ⟨ret_int HV.out, B4.out⟩
          · have hd' : (deep == 1) = false := beq_eq_false_iff_ne.2 hd
            have HV := hid (show nx.roomF (y.roomF (m - xm) (deep - 1)) deep = R by rw [← HRM.out, if_neg (by rintro (h | h | h) <;> first | exact hneg h | (rw [HFB.out] at h; cases h; done) | exact hd h.2)])
            go_upto_region 5 with (first
              | (refine Sh.wp_sv smS (x := ⟨xw, xA, xn, xc, true, xB, xm, xk⟩) rfl (.tmp 8) (.tmp 18) rfl rfl (by rfl) q2 ?_; intro w3 q3 b3 o3 s3; have c0 : w3.cell? ⟨wr.heap.size, 0, none⟩ = some (.string (strB xw)) := q3.cell (j := 0) rfl; have c1 : w3.cell? ⟨wr.heap.size, 1, none⟩ = some (.slice xA xn xc) := q3.cell (j := 1) rfl; have c2 : w3.cell? ⟨wr.heap.size, 2, none⟩ = some (.bool true) := q3.cell (j := 2) rfl; have c3 : w3.cell? ⟨wr.heap.size, 3, none⟩ = some (.slice xB xm xk) := q3.cell (j := 3) rfl; have V3 := hid q3; have B3 := hid (BW.out.trans ((B2.out.trans (b3.mono (Nat.le_refl _))).mono BW.out.size)); clear q3 b3 o3 s3)
              | (refine Sh.wp_al smS rfl rfl ?_; intro w2 q2 b2 s2; have B2 := hid b2; clear b2 s2)
              | (refine Sh.wp_ld smS rfl (.tmp 17) rfl rfl r1 ?_))
            go_wp2_with (first
              | (go_at_call 86; have h9 := HY.out w4 K xB xm xk m (deep - 1) (YT.out.below B4.out) HQ.out.1 HQ.out.2.1 (by omega) (by omega) (by have := HQ.out.2.2; omega) (by omega); (with_reducible refine h9.mono ?_); rintro e w5 ⟨rfl, b5⟩; have B5 := hid (B4.out.trans (b5.mono B4.out.size)); clear b5)
              | (go_at_call 119; have h9 := HF.out w3 B3.out; (with_reducible refine h9.mono ?_); rintro e w4 ⟨rfl, b4⟩; have V4 := V3.out.keep b4; have c2 : w4.cell? ⟨wr.heap.size, 2, none⟩ = some (.bool true) := V4.cell (j := 2) rfl; have c3 : w4.cell? ⟨wr.heap.size, 3, none⟩ = some (.slice xB xm xk) := V4.cell (j := 3) rfl; have B4 := hid (B3.out.trans (b4.mono B3.out.size)); clear b4 V4))
            go_roundw
            case rel => exact ⟨i + 1, y.roomF (m - y.len) (deep - 1), nx, rfl, by go_num, by omega, by rw [YL.out]; exact HV.out, by rw [YL.out]; have := LOW.out hneg; omega, by rw [YL.out]; have := TOP.out; omega, NX.out.1, NX.out.2.1, NX.out.2.2.1, NX.out.2.2.2.1, NX.out.2.2.2.2, B5.out⟩
            case measure => simp [intOf]; omega
        | false =>
          have HV := hid (show nx.roomF (y.roomF (m - xm) (deep - 1)) deep = R by rw [← HRM.out, if_neg (by rintro (h | h | h) <;> first | exact hneg h | (rw [HFB.out] at h; cases h; done) | exact absurd h.1 (by decide))])
          go_upto_region 5 with (first
            | (refine Sh.wp_sv smS (x := ⟨xw, xA, xn, xc, false, xB, xm, xk⟩) rfl (.tmp 8) (.tmp 18) rfl rfl (by rfl) q2 ?_; intro w3 q3 b3 o3 s3; have c0 : w3.cell? ⟨wr.heap.size, 0, none⟩ = some (.string (strB xw)) := q3.cell (j := 0) rfl; have c1 : w3.cell? ⟨wr.heap.size, 1, none⟩ = some (.slice xA xn xc) := q3.cell (j := 1) rfl; have c2 : w3.cell? ⟨wr.heap.size, 2, none⟩ = some (.bool false) := q3.cell (j := 2) rfl; have c3 : w3.cell? ⟨wr.heap.size, 3, none⟩ = some (.slice xB xm xk) := q3.cell (j := 3) rfl; have V3 := hid q3; have B3 := hid (BW.out.trans ((B2.out.trans (b3.mono (Nat.le_refl _))).mono BW.out.size)); clear q3 b3 o3 s3)
            | (refine Sh.wp_al smS rfl rfl ?_; intro w2 q2 b2 s2; have B2 := hid b2; clear b2 s2)
            | (refine Sh.wp_ld smS rfl (.tmp 17) rfl rfl r1 ?_))
          go_wp2_with (first
            | (go_at_call 86; have h9 := HY.out w4 K xB xm xk m (deep - 1) (YT.out.below B4.out) HQ.out.1 HQ.out.2.1 (by omega) (by omega) (by have := HQ.out.2.2; omega) (by omega); (with_reducible refine h9.mono ?_); rintro e w5 ⟨rfl, b5⟩; have B5 := hid (B4.out.trans (b5.mono B4.out.size)); clear b5)
            | (go_at_call 119; have h9 := HF.out w3 B3.out; (with_reducible refine h9.mono ?_); rintro e w4 ⟨rfl, b4⟩; have V4 := V3.out.keep b4; have c2 : w4.cell? ⟨wr.heap.size, 2, none⟩ = some (.bool false) := V4.cell (j := 2) rfl; have c3 : w4.cell? ⟨wr.heap.size, 3, none⟩ = some (.slice xB xm xk) := V4.cell (j := 3) rfl; have B4 := hid (B3.out.trans (b4.mono B3.out.size)); clear b4 V4))
          go_roundw
          case rel => exact ⟨i + 1, y.roomF (m - y.len) (deep - 1), nx, rfl, by go_num, by omega, by rw [YL.out]; exact HV.out, by rw [YL.out]; have := LOW.out hneg; omega, by rw [YL.out]; have := TOP.out; omega, NX.out.1, NX.out.2.1, NX.out.2.2.1, NX.out.2.2.2.1, NX.out.2.2.2.2, B5.out⟩
          case measure => simp [intOf]; omega
    · obtain rfl : i = n := by omega
      have hr := htr.done (by rw [HX.out.1]; exact Nat.le_refl _)
      subst hr
      have HV := hid (show m = R from hrm)
      clear hrm hbo htr hbel
      go_wp2
      go_ret
      exact ⟨ret_int HV.out, BW.out⟩
theorem room2_any (f : Fo) : Room2Said f := (Fo.ind room2_step f).1
set_option maxRecDepth 100000 in
theorem check2_any (f : Fo) (w : World) (K : Nat → Prop) (A : Option Addr) (n c : Nat) (ht : TrS w K A n f) (hok : f.okS) (hc : f.okL) (hd : f.depth ≤ 1000000) :
    Calls Tryz.prog 40 #[.slice A n c] w fun e w' => e = .returned (.int .i64 (chkE f : Nat)) ∧ Below w.heap.size w w' := by
  have HR := hid (room2_any f w K A n c 2000 6 ht hok hc (by omega) (by omega) (by omega) (by omega))
  clear ht hok hc
  unfold chkE
  generalize f.roomF (2000 - f.len) 6 = R at *
  by_cases hR : R < 0
  · rw [if_pos hR]
    go_enter Tryz.func40, Tryz.ntmps40
    go_wp2_with (first
      | (go_at_call 86; refine HR.out.mono ?_; rintro e w1 ⟨rfl, b1⟩; have B1 := hid b1; clear b1))
    go_ret
    exact ⟨rfl, B1.out⟩
  · rw [if_neg hR]
    go_enter Tryz.func40, Tryz.ntmps40
    go_wp2_with (first
      | (go_at_call 86; refine HR.out.mono ?_; rintro e w1 ⟨rfl, b1⟩; have B1 := hid b1; clear b1))
    go_ret
    exact ⟨rfl, B1.out⟩
end Go.Proofs.YtpkoboohnbkpoaaGreatDoor

/-! WO -/
namespace Go.Proofs.YtpkoboohnbkpoaaGreatDoor
open Go Go.RowKit Go.Joins

def Count2Said (f : Fo) : Prop := ∀ (w : World) (K : Nat → Prop) (A : Option Addr) (n c : Nat), TrS w K A n f → f.okL → Calls Tryz.prog 50 #[.slice A n c] w fun e w' => e = .returned (.int .i64 (IntKind.i64.wrap (f.count : Nat))) ∧ Below w.heap.size w w'
set_option maxRecDepth 100000 in
theorem wrap_add2 (a b : Nat) : IntKind.i64.wrap (IntKind.i64.wrap (a : Nat) + IntKind.i64.wrap (b : Nat)) = IntKind.i64.wrap ((a + b : Nat) : Int) := by
  simp only [IntKind.wrap_i64]
  omega
set_option maxRecDepth 100000 in
theorem rcount2_step (f : Fo) (hf : f.Bodies (Count2Said)) : Count2Said f := by
  intro w K A n c ht hc
  obtain ⟨xs, hx, htr⟩ := ht
  have HX := hid hx
  have HL := hid (show f.len = n by rw [← htr.len, hx.1])
  have HC := hid hc
  have HB := hid hf
  have HT := hid htr
  have hn : (n : Int) ≤ 1000000 := by have := HC.out.1; have := HL.out; omega
  clear hx hc hf htr
  go_enter Tryz.func50, Tryz.ntmps50
  go_wp2
  go_loopw [3, 10] (fun v3 v10 wr => ∃ (i m : Nat) (r : Fo), v3 = .int .i64 (IntKind.i64.wrap (m : Nat)) ∧ v10 = .int .i64 (i : Nat) ∧ i ≤ n ∧ m + r.nest = f.count ∧ r.okB ∧ r.Bodies (Count2Said) ∧ Tr w K r (xs.drop i) ∧ Below w.heap.size w wr) (fun _ v10 _ => n - (intOf v10).toNat)
  case atStart => exact ⟨0, n, f, by rw [IntWalk.i64_in _ (by omega)], rfl, Nat.zero_le _, by rw [f.count_nest, HL.out], HC.out.2, HB.out, by simpa using HT.out, Below.refl _ _⟩
  case round =>
    obtain ⟨i, m, r, rfl, rfl, hi, hm, hob, hbo, htr, hbel⟩ := hrel
    have HO := hid hob
    clear hob
    have BW := hid hbel
    have HM := hid hm
    by_cases hlt : i < n
    · obtain ⟨wd, ns, bl, y, nx, rfl, _, _, _, hy, hnx⟩ := htr.step (by rw [HX.out.1]; exact hlt)
      obtain ⟨b, o, rfl, hb, hcell⟩ := (HX.out.size.below hbel).at_ hlt
      generalize hxe : smS.nth xs i = x at *
      clear hxe
      have r1 : wr.rangeAt b (o + i * 4) (smS.enc x) := hcell
      have HY := hid hbo.1
      have HN := hid (And.intro hbo.2 hnx)
      have HYT := hid hy
      clear hcell hbel hm hbo htr hy hnx hb
      go_wp2_with (first
        | (go_at_call 50; have h9 := HY.out w3 K x.bA x.bn x.bc (HYT.out.below B3.out) HO.out.1; (with_reducible refine h9.mono ?_); rintro e w4 ⟨rfl, b4⟩; have B4 := hid (B3.out.trans (b4.mono B3.out.size)); clear b4)
        | (refine Sh.wp_sv smS (x := x) rfl (.tmp 5) (.tmp 13) rfl rfl (by rfl) q2 ?_; intro w3 q3 b3 o3 s3; have c3 : w3.cell? ⟨wr.heap.size, 3, none⟩ = some (.slice x.bA x.bn x.bc) := q3.cell (j := 3) rfl; have B3 := hid (BW.out.trans ((B2.out.trans (b3.mono (Nat.le_refl _))).mono BW.out.size)); clear q3 b3 o3 s3)
        | (refine Sh.wp_al smS rfl rfl ?_; intro w2 q2 b2 s2; have B2 := hid b2; clear b2 s2)
        | (refine Sh.wp_ld smS rfl (.tmp 12) rfl rfl r1 ?_))
      go_roundw
      case rel => exact ⟨i + 1, m + y.count, nx, congrArg (Value.int .i64) (by have := wrap_add2 m y.count; simpa only [IntWalk.i64_left] using this), by go_num, by omega, by have := HM.out; simp only [Fo.nest] at this; omega, HO.out.2, HN.out.1, HN.out.2, B4.out⟩
      case measure => simp [intOf]; omega
    · obtain rfl : i = n := by omega
      have hr := htr.done (by rw [HX.out.1]; exact Nat.le_refl _)
      subst hr
      have hm2 : m = f.count := by simpa [Fo.nest] using hm
      clear hm hbo htr hbel
      have HM2 := hid hm2
      clear hm2
      go_wp2
      go_ret
      exact ⟨by rw [← HM2.out]; rfl, BW.out⟩
theorem rcount2_any (f : Fo) : Count2Said f := (Fo.ind rcount2_step f).1
end Go.Proofs.YtpkoboohnbkpoaaGreatDoor

/-! MB -/
namespace Go.Proofs.YtpkoboohnbkpoaaGreatDoor
open Go Go.RowKit

theorem rletter_any (r : Nat) (w : World) : Calls Tryz.prog 94 #[.int .i32 r] w fun e w' => e = .returned (.bool (decide (97 ≤ r) && decide (r ≤ 122))) ∧ w' = w := by
  go_enter Tryz.func94, Tryz.ntmps94
  go_wp2
  all_goals (go_ret; exact ⟨ret_bool (by rw [Bool.eq_iff_iff]; simp; try omega), rfl⟩)
theorem rdigit_any (r : Nat) (w : World) : Calls Tryz.prog 95 #[.int .i32 r] w fun e w' => e = .returned (.bool (decide (48 ≤ r) && decide (r ≤ 57))) ∧ w' = w := by
  go_enter Tryz.func95, Tryz.ntmps95
  go_wp2
  all_goals (go_ret; exact ⟨ret_bool (by rw [Bool.eq_iff_iff]; simp; try omega), rfl⟩)
set_option maxRecDepth 100000 in
theorem rword_any (s : ByteArray) (w : World) (hs : s.size ≤ 4611686018427387904) : Calls Tryz.prog 141 #[.string s] w (WordPost s w) := by
  go_enter Tryz.func141, Tryz.ntmps141
  go_wp2
  go_loopw [] (fun wr => ∃ pos : Nat, wr = w.iter s pos ∧ pos ≤ s.size ∧ wordP (s.data.toList.take pos) = true) (fun wr => s.size - wr.iterPos w.heap.size)
  case atStart => exact ⟨0, rfl, Nat.zero_le _, rfl⟩
  case round =>
    obtain ⟨pos, rfl, hp, hw⟩ := hrel
    by_cases hlt : pos < s.size
    · obtain ⟨c, r, hd, ht⟩ := drop_cons (l := s.data.toList) (k := pos) (by simpa using hlt)
      have h1 := let_rune c r
      have h2 := dig_rune c r
      have h3 := ld_width (c := c) r
      have h4 := dec_top (c :: r)
      have hne := ne_size s.data.toList pos (by simpa using hp)
      have hsn := wordP_snoc (s.data.toList.take pos) c
      rw [← ht, hw, hne, Bool.true_and] at hsn
      have hnx : ∀ ty, (Instr.next (.pointer (some ⟨w.heap.size, 0, none⟩)) true ty).run Tryz.prog (w.iter s pos) = _ := fun ty => run_next_any w s pos ty hlt
      rw [dec_of, hd] at hnx
      generalize (dec (c :: r)).1 = x at *
      generalize (dec (c :: r)).2 = n at *
      have HL : ∀ w, Calls Tryz.prog 94 #[.int .i32 x] w fun e w' => e = .returned (.bool (letB c)) ∧ w' = w := fun w => by have := rletter_any x w; rwa [h1] at this
      have HD : ∀ w, Calls Tryz.prog 95 #[.int .i32 x] w fun e w' => e = .returned (.bool (digB c)) ∧ w' = w := fun w => by have := rdigit_any x w; rwa [h2] at this
      have HL := hid HL
      have HD := hid HD
      have HS := hid hsn
      have HT := hid (show wordP (s.data.toList.take (pos + 1)) = false → wordB s.data.toList = false from fun h => by rw [wordB_eq, wordP_take _ h]; simp)
      have HN := hid (show letB c = true ∨ digB c = true → n = 1 from fun h => h3 (by unfold ldB; rcases h with h | h <;> simp [h]))
      clear h1 h2 h3 hne hsn hd ht hw
      by_cases hl : letB c = true
      · have hn := HN.out (.inl hl)
        subst hn
        rw [hl] at HL HS
        have hok : Hid (wordP (s.data.toList.take (pos + 1)) = true) := hid (by rw [HS.out]; simp)
        clear HN HT HD HS
        go_wp2_with (first | (go_at_call 94; refine (HL.out _).mono ?_; rintro e w' ⟨rfl, rfl⟩))
        go_roundw
        case rel => exact ⟨pos + 1, rfl, by omega, hok.out⟩
        case measure => simp; omega
      · have hl : letB c = false := by simpa using hl
        rw [hl] at HL HS
        by_cases h0 : (pos : Int) = 0
        · have hok : Hid (wordB s.data.toList = false) := hid (HT.out (by rw [HS.out]; simp [h0]))
          obtain rfl : pos = 0 := by omega
          clear HN HT HD HS
          go_wp2_with (first | (go_at_call 94; refine (HL.out _).mono ?_; rintro e w' ⟨rfl, rfl⟩))
          go_ret
          exact ⟨ret_bool hok.out.symm, below_iter _ _ _⟩
        · by_cases hdg : digB c = true
          · have hn := HN.out (.inr hdg)
            subst hn
            rw [hdg] at HD HS
            have hok : Hid (wordP (s.data.toList.take (pos + 1)) = true) := hid (by rw [HS.out, decide_eq_false h0]; rfl)
            clear HN HT HS
            go_wp2_with (first | (go_at_call 94; refine (HL.out _).mono ?_; rintro e w' ⟨rfl, rfl⟩) | (go_at_call 95; refine (HD.out _).mono ?_; rintro e w' ⟨rfl, rfl⟩))
            go_roundw
            case rel => exact ⟨pos + 1, rfl, by omega, hok.out⟩
            case measure => simp; omega
          · have hdg : digB c = false := by simpa using hdg
            rw [hdg] at HD HS
            have hok : Hid (wordB s.data.toList = false) := hid (HT.out (by rw [HS.out]; simp))
            clear HN HT HS
            go_wp2_with (first | (go_at_call 94; refine (HL.out _).mono ?_; rintro e w' ⟨rfl, rfl⟩) | (go_at_call 95; refine (HD.out _).mono ?_; rintro e w' ⟨rfl, rfl⟩))
            go_ret
            exact ⟨ret_bool hok.out.symm, below_iter _ _ _⟩
    · have hnx : ∀ ty, (Instr.next (.pointer (some ⟨w.heap.size, 0, none⟩)) true ty).run Tryz.prog (w.iter s pos) = _ := fun ty => run_next_end w s pos ty hlt
      have HE : Hid (wordB s.data.toList = (decide (s.data.toList ≠ []) && decide (s.size ≤ 16))) := hid (by
        rw [List.take_of_length_le (by simp; omega)] at hw
        rw [wordB_eq, hw, Bool.true_and]
        rfl)
      clear hw
      have he : decide (s.data.toList ≠ []) = decide (1 ≤ s.size) := by
        have h1 : s.data.toList.length = s.size := rfl
        generalize s.data.toList = l at *
        cases l with
        | nil => simp at h1; simp [← h1]
        | cons c r => simp at h1; simp [← h1]
      have HE : Hid (wordB s.data.toList = (decide (1 ≤ s.size) && decide (s.size ≤ 16))) := hid (by rw [HE.out, he])
      clear he
      by_cases h1 : 1 ≤ s.size
      · have h1' : (1 : Int) ≤ s.size := by omega
        go_wp2
        go_ret
        exact ⟨ret_bool (by rw [HE.out, decide_eq_true h1, Bool.true_and]; exact decide_eq_decide.2 (by omega)), below_iter _ _ _⟩
      · have h1' : ¬ (1 : Int) ≤ s.size := by omega
        go_wp2
        go_ret
        exact ⟨ret_bool (by rw [HE.out, decide_eq_false h1]; rfl), below_iter _ _ _⟩
end Go.Proofs.YtpkoboohnbkpoaaGreatDoor
