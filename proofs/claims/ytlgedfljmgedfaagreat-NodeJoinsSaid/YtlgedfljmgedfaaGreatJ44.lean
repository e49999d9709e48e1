/-
  Texts JB, JC, JE of this seat, as far as they are used.
-/
import Derived.Test.YtlgedfljmgedfaaGreatJ43
namespace Go.Proofs.YtlgedfljmgedfaaGreat
open Go Go.RowKit
open M10 (hid Md encm mv mz Oth range_keep there_keep range_other there_other setCells_oth setCells_size there_set Ty enct tv tz Fr encf fv fz)
open O6 (Oc enco ov oz)
open T9 (sv)
/-! ### Words for the walk -/
theorem and50 (t : Int) : 0 ≤ bits .and .i64 t 1125899906842623 ∧ bits .and .i64 t 1125899906842623 ≤ 1125899906842623 := by
  have e : bits .and .i64 t 1125899906842623 = IntKind.i64.wrap (((BitVec.ofInt 64 t).toNat &&& 1125899906842623 : Nat) : Int) := by
    simp only [bits, BitVec.toNat_and]; rfl
  have a : (BitVec.ofInt 64 t).toNat &&& 1125899906842623 ≤ 1125899906842623 := Nat.and_le_right
  rw [e, IntKind.wrap_i64]
  omega
def ofF (f : Fr) : F8.Fr := ⟨f.k, f.f, f.s, f.m⟩
def bsF (f : Fr) : List Nat := F8.sealedF (ofF f)
theorem bsF_oct {f : Fr} (h : M10.OkF f) : F8.Oct (bsF f) := (F8.bare_oct (ofF f) h).app (F8.tail24_oct _)
theorem rdF_is {f : Fr} (h : M10.OkF f) (hm : f.m < 65536) : rdF (bsF f) = f ∧ rdE (bsF f) = 0 := by
  have := F8.rd_sealed (ofF f) h hm
  unfold rdF rdE bsF
  rw [this]
  exact ⟨rfl, rfl⟩
theorem writeF_ok (f : Fr) (w : World) (h : M10.OkF f) (hm : f.m < 65536) : Calls Tryz.prog 24 #[fv f] w fun e w' => ∃ A n c, e = .returned (.tuple #[.slice A n c, .int .i64 0]) ∧ (OwnR w' w.heap.size 5 1 A n c (F8.bv (bsF f)) ∧ n ≤ c ∧ n ≤ 1000) ∧ Below w.heap.size w w' := by
  refine (F8.write_ok (ofF f) w h hm).mono ?_
  rintro e w' ⟨A, n, c, rfl, ho, hb⟩
  have hn : n = (F8.sealedF (ofF f)).length := by have := ho.1; simp [F8.bv] at this; exact this.symm
  have h9 := F8.sealedF_len (ofF f)
  have hg := F8.gn_slot f.s h.2.2.2
  have h9 : n = 9 + F8.gn f.s := hn.trans h9
  exact ⟨A, n, c, rfl, ⟨ho, F8.Own.cap ho, by omega⟩, hb⟩
theorem writeF_some (f : Fr) (w : World) (hm : f.m < 65536) : Calls Tryz.prog 24 #[fv f] w fun e w' => ∃ A n c E, e = .returned (.tuple #[.slice A n c, .int .i64 E]) ∧ Below w.heap.size w w' := by
  by_cases h : M10.OkF f
  · exact (writeF_ok f w h hm).mono fun _ _ ⟨A, n, c, h1, _, h3⟩ => ⟨A, n, c, 0, h1, h3⟩
  · exact (F8.write_bad (ofF f) w h).mono fun _ _ ⟨A, n, c, h1, _, h3⟩ => ⟨A, n, c, 1, h1, h3⟩
theorem writeF_bad (f : Fr) (w : World) (h : ¬ M10.OkF f) : Calls Tryz.prog 24 #[fv f] w fun e w' => ∃ A n c, e = .returned (.tuple #[.slice A n c, .int .i64 1]) ∧ Below w.heap.size w w' :=
  (F8.write_bad (ofF f) w h).mono fun _ _ ⟨A, n, c, h1, _, h3⟩ => ⟨A, n, c, h1, h3⟩
/-- Woken for the first time. -/
def wk0 (id : Int) (o : Oc) : Nd := lisN (newN id o) 0
theorem wk0_ok {m : Md} {id : Int} {o : Oc} (h : nodeOk m (newN id o)) : NdOk m (wk0 id o) := (new_ok' h).lis (Int.le_refl 0) (by omega)
theorem wake_new (m : Md) (id : Int) (o : Oc) (w : World) (h : nodeOk m (newN id o)) : Calls Tryz.prog 10 #[mv m, nv (newN id o) none 0 0, .int .i64 0] w fun e w' => ∃ A c B d, e = .returned (.tuple #[nv (wk0 id o) A 0 c, .slice B 2 d, .int .i64 0]) ∧ Below w.heap.size w w' := by
  have k := new_ok' h
  have e0 : wakE m (newN id o) 0 = 0 := by
    unfold wakE
    rw [if_pos (show (newN id o).ph = 0 from rfl)]
    obtain ⟨k0, k1⟩ := lisK_in (x := newN id o) k.hm k.i0 k.i1
    have hp := (ps_in k.ho k0 k1).2
    unfold timeE lisN
    simp only
    exact if_pos (by omega)
  have hb : timeB 0 = true ∧ nodeOk m (newN id o) := ⟨by decide, h⟩
  refine (wakeF_any (newN id o) m none 0 0 0 0 w (T9.Row.nil _ _ _) (Nat.zero_le _) (by omega) (by show (0 : Int) ≤ 0; omega) (by show 0 < 65536; omega)).mono ?_
  rintro e w' ⟨A, n, c, B, k', d, rfl, hl, hq, hr, ha, bel⟩
  have eN : outN (timeB 0 = true ∧ nodeOk m (newN id o)) (newN id o) (wakN (newN id o) 0) (wakE m (newN id o) 0) = wk0 id o := by unfold outN; rw [if_pos hb, if_pos e0]; exact if_pos rfl
  have eL : outL (timeB 0 = true ∧ nodeOk m (newN id o)) (wakL m (newN id o) 0) (wakE m (newN id o) 0) = [note 1 0, timr (timeT (lisN (newN id o) 0) (lisK (newN id o) m))] := by unfold outL; rw [if_pos hb, if_pos e0]; exact if_pos rfl
  have eE : outE (timeB 0 = true ∧ nodeOk m (newN id o)) (wakE m (newN id o) 0) = 0 := by unfold outE; rw [if_pos hb]; exact e0
  rw [eN] at hl ⊢
  rw [eL] at ha
  rw [eE]
  obtain rfl : n = 0 := hl
  obtain rfl : k' = 2 := acts_len ha
  exact ⟨A, c, B, d, rfl, bel⟩
theorem mayB_is {t : Int} (t0 : 0 ≤ t) (t1 : t ≤ 1125899906842623) : mayB (t + 1) t = true := by
  unfold mayB timeB
  simp; omega
/-- It hears, and joins. -/
theorem hear_join (m : Md) (x : Nd) (f : Fr) (A Ab : Option Addr) (n c BB nb kb Bb : Nat) (t : Int) (w : World) (hr : T9.Row w BB A n (sv x.dv)) (hB : BB ≤ w.heap.size) (hn : n ≤ 100) (k : NdOk m x) (hp : x.ph = 1)
    (hb : F8.Row w Bb Ab nb (F8.bv (bsF f))) (hBb : Bb ≤ w.heap.size) (hnc : nb ≤ kb) (hn5 : nb ≤ 1048579) (hf : M10.OkF f) (hm : f.m < 65536) (t0 : 0 ≤ t) (t1 : t ≤ 1125899906842623) (hid' : ¬ f.f = x.id) (hj : joins m x f (t + 1) t) :
    Calls Tryz.prog 16 #[mv m, nv x A n c, .int .i64 (t + 1), .int .i64 t, .slice Ab nb kb, .bool false] w fun e w' => ∃ A' c' B d, e = .returned (.tuple #[nv (joiN x f (t - O6.psO x.o m.l)) A' 1 c', .slice B 2 d, .int .i64 0]) ∧ (OwnR w' w.heap.size 2 1 A' 1 c' (sv [0]) ∧ ∃ T, OwnR w' w.heap.size 66 8 B 2 d (flat [note 3 (f.s : Int), timr T])) ∧ Below w.heap.size w w' := by
  obtain ⟨h1, h2, h3⟩ := hj
  obtain ⟨r1, r2⟩ := rdF_is hf hm
  obtain ⟨⟨l0, l1, l2, l3⟩, s0, s1, s2, s3⟩ := lead_in k
  have hd : ¬ deaf x (bsF f) false := by
    unfold deaf
    rw [r1, r2]
    rintro (h | h | h)
    · cases h
    · exact h rfl
    · exact hid' h
  have hN : heaN m x (t + 1) t (bsF f) false = joiN x f (t - O6.psO x.o m.l) := by unfold heaN; rw [if_neg hd, if_pos hp, r1]; exact if_pos ⟨h1, h2, h3⟩
  have hL : heaL m x (t + 1) t (bsF f) false = [note 3 (f.s : Int), timr (timeT (joiN x f (t - O6.psO x.o m.l)) m.s)] := by unfold heaL; rw [if_neg hd, if_pos hp, r1]; exact if_pos ⟨h1, h2, h3⟩
  have hE : heaE m x (t + 1) t (bsF f) false = 0 := by
    unfold heaE; rw [if_neg hd, if_pos hp, r1]
    unfold joinE
    rw [if_pos ⟨h1, h2, h3⟩]
    unfold timeE joiN
    simp only
    exact if_pos (by omega)
  have hmay : mayB (t + 1) t = true ∧ nodeOk m x := ⟨mayB_is t0 t1, okn_of k (by omega)⟩
  refine (hearF_any x m A Ab n c BB nb kb Bb (t + 1) t (bsF f) false w hr hB hn k.s0 k.mb hb hBb (bsF_oct hf) hnc hn5).mono ?_
  rintro e w' ⟨A', n', c', B, k', d, rfl, hl, hq, hr', ha, bel⟩
  have hq := hq ⟨.inr (.inl hE), fun h => h.2.2 hE⟩
  unfold outN at hl hq ⊢
  unfold outL at ha
  unfold outE
  rw [if_pos hmay, if_pos hE] at hl hq ha ⊢
  rw [if_pos hmay]
  rw [hN] at hl hq ⊢
  rw [hL] at ha
  rw [hE]
  obtain rfl : n' = 1 := hl
  obtain rfl : k' = 2 := acts_len ha
  exact ⟨A', c', B, d, rfl, ⟨hq, _, ha⟩, bel⟩
end Go.Proofs.YtlgedfljmgedfaaGreat
namespace Go.Proofs.YtlgedfljmgedfaaGreat
open Go Go.RowKit
open M10 (hid Md encm mv mz Oth range_keep there_keep range_other there_other setCells_oth setCells_size there_set Ty enct tv tz Fr encf fv fz)
open O6 (Oc enco ov oz)
open T9 (sv)
set_option maxRecDepth 100000 in
set_option maxHeartbeats 8000000 in
theorem joins_chk (m : Md) (id : Int) (o : Oc) (f : Fr) (now : Int) (w : World) (hfm : f.m < 65536) (t : Int) (eA : bits .and .i64 now 1125899906842623 = t) (ht0 : 0 ≤ t) (ht1 : t ≤ 1125899906842623) (hk : nodeE m (newN id o) = 1) :
    Calls Tryz.prog 5 #[mv m, .int .i64 id, ov o, fv f, .int .i64 now] w fun e w' => e = .returned (.bool true) ∧ Below w.heap.size w w' := by
  have zz := And.intro hfm (And.intro ht0 ht1)
  clear zz
  have HL := hid live_any
  have HN := hid (fun (w : World) => by have hh := new_any m id o w; rw [hk, show newR m id o = nz from if_neg fun h => by rw [show nodeE m (newN id o) = 0 from if_pos h] at hk; cases hk] at hh; exact hh)
  have HW := hid (fun (w : World) => writeF_some f w hfm)
  clear hk hfm
  go_enter Tryz.func5, Tryz.ntmps5
  go_wp2_with (first
    | (go_at_call 24; (with_reducible refine (HW.out w7).mono ?_); rintro e w8 ⟨Ab, nb, kb, EE, rfl, b8⟩; have VM_8 := hid (VM_7.out.below b8 (VM_7.out.lt (by show 0 < 5; omega))); have VO_8 := hid (VO_7.out.below b8 (VO_7.out.lt (by show 0 < 3; omega))); have VF_8 := hid (VF_7.out.below b8 (VF_7.out.lt (by show 0 < 4; omega))); have VN_8 := hid (VN_7.out.below b8 (VN_7.out.lt (by show 0 < 14; omega))); have B_8 := hid (B_7.out.trans (b8.mono B_7.out.size)); clear VM_7 VO_7 VF_7 VN_7 B_7 b8)
    | (refine wpList_lf (z := f) (.tmp 8) rfl rfl VF_7.out.1 rfl ?_)
    | (refine wpList_gst 32 (encn nz none 0 0) rfl (.tmp 12) (.tmp 34) rfl rfl rfl v6 (by show 0 + 14 ≤ 14; omega) size32 (encn_one _ _ _ _) ?_; intro w7 v7 b7 o7 s7; have bb7 := b6.trans b7; have VM_7 := hid (VM_5.out.below bb7 (VM_5.out.lt (by show 0 < 5; omega))); have VO_7 := hid (VO_5.out.below bb7 (VO_5.out.lt (by show 0 < 3; omega))); have VF_7 := hid (VF_5.out.below bb7 (VF_5.out.lt (by show 0 < 4; omega))); have B_7 := hid (B_5.out.trans (bb7.mono B_5.out.size)); have VN_7 : Hid (Var w7 w5.heap.size (encn nz none 0 0)) := hid v7; have DMN : Hid (w.heap.size ≠ w5.heap.size) := hid (by have := VM_5.out.lt (by show 0 < 5; omega); omega); have DON : Hid (w1.heap.size ≠ w5.heap.size) := hid (by have := VO_5.out.lt (by show 0 < 3; omega); omega); have DFN : Hid (w2.heap.size ≠ w5.heap.size) := hid (by have := VF_5.out.lt (by show 0 < 4; omega); omega); have EN : Hid (w.heap.size ≤ w5.heap.size) := hid B_5.out.size; clear VM_5 VO_5 VF_5 B_5 v6 b6 s6 v7 b7 o7 s7 bb7)
    | (have hk := B_5; clear hk; refine wpList_galloc 32 (encn nz none 0 0) zero32 rfl rfl ?_; intro w6 v6 b6 s6)
    | (go_at_call 18; (with_reducible refine (HN.out w4).mono ?_); rintro e w5 ⟨rfl, b5⟩; have VM_5 := hid (VM_4.out.below b5 (VM_4.out.lt (by show 0 < 5; omega))); have VO_5 := hid (VO_4.out.below b5 (VO_4.out.lt (by show 0 < 3; omega))); have VF_5 := hid (VF_4.out.below b5 (VF_4.out.lt (by show 0 < 4; omega))); have B_5 := hid (B_4.out.trans (b5.mono B_4.out.size)); clear VM_4 VO_4 VF_4 B_4 b5)
    | (refine wpList_lo (z := o) (.tmp 7) rfl rfl VO_4.out.1 rfl ?_)
    | (refine wpList_lm (.tmp 5) rfl rfl VM_4.out.1 rfl ?_)
    | (go_at_call 7; (with_reducible refine (HL.out w3).mono ?_); rintro e w4 ⟨rfl, b4⟩; have VM_4 := hid (VM_3.out.below b4 (VM_3.out.lt (by show 0 < 5; omega))); have VO_4 := hid (VO_3.out.below b4 (VO_3.out.lt (by show 0 < 3; omega))); have VF_4 := hid (VF_3.out.below b4 (VF_3.out.lt (by show 0 < 4; omega))); have B_4 := hid (B_3.out.trans (b4.mono B_3.out.size)); clear VM_3 VO_3 VF_3 B_3 b4)
    | (refine wpList_gbox 54 (encf f) rfl (.tmp 3) rfl rfl ?_; intro w3 v3 b3 s3; have VM_3 := hid (VM_2.out.below b3 (VM_2.out.lt (by show 0 < 5; omega))); have VO_3 := hid (VO_2.out.below b3 (VO_2.out.lt (by show 0 < 3; omega))); have B_3 := hid (B_2.out.trans (b3.mono B_2.out.size)); have DMF : Hid (w.heap.size ≠ w2.heap.size) := hid (by have := VM_2.out.lt (by show 0 < 5; omega); omega); have DOF : Hid (w1.heap.size ≠ w2.heap.size) := hid (by have := VO_2.out.lt (by show 0 < 3; omega); omega); have VF_3 := hid v3; clear VM_2 VO_2 B_2 v3 b3 s3)
    | (refine wpList_gbox 26 (enco o) rfl (.tmp 2) rfl rfl ?_; intro w2 v2 b2 s2; have VM_2 := hid (VM_1.out.below b2 (VM_1.out.lt (by show 0 < 5; omega))); have B_2 := hid (B_1.out.trans (b2.mono B_1.out.size)); have DMO : Hid (w.heap.size ≠ w1.heap.size) := hid (by have := VM_1.out.lt (by show 0 < 5; omega); omega); have VO_2 := hid v2; clear VM_1 B_1 v2 b2 s2)
    | (refine wpList_gbox 23 (encm m) rfl (.tmp 0) rfl rfl ?_; intro w1 v1 b1 s1; have B_1 := hid b1; have VM_1 := hid v1; clear  v1 b1 s1))
  go_ret
  exact ⟨rfl, B_8.out⟩
set_option maxRecDepth 100000 in
set_option maxHeartbeats 8000000 in
theorem joins_wr (m : Md) (id : Int) (o : Oc) (f : Fr) (now : Int) (w : World) (hfm : f.m < 65536) (t : Int) (eA : bits .and .i64 now 1125899906842623 = t) (ht0 : 0 ≤ t) (ht1 : t ≤ 1125899906842623) (hk : nodeOk m (newN id o)) (hf : ¬ M10.OkF f) :
    Calls Tryz.prog 5 #[mv m, .int .i64 id, ov o, fv f, .int .i64 now] w fun e w' => e = .returned (.bool true) ∧ Below w.heap.size w w' := by
  have zz := And.intro hfm (And.intro ht0 ht1)
  clear zz
  have HL := hid live_any
  have HN := hid (fun (w : World) => by have hh := new_any m id o w; rw [show nodeE m (newN id o) = 0 from if_pos hk, show newR m id o = newN id o from if_pos hk] at hh; exact hh)
  have HW := hid (fun (w : World) => writeF_bad f w hf)
  clear hk hf hfm
  go_enter Tryz.func5, Tryz.ntmps5
  go_wp2_with (first
    | (go_at_call 24; (with_reducible refine (HW.out w7).mono ?_); rintro e w8 ⟨Ab, nb, kb, rfl, b8⟩; have VM_8 := hid (VM_7.out.below b8 (VM_7.out.lt (by show 0 < 5; omega))); have VO_8 := hid (VO_7.out.below b8 (VO_7.out.lt (by show 0 < 3; omega))); have VF_8 := hid (VF_7.out.below b8 (VF_7.out.lt (by show 0 < 4; omega))); have VN_8 := hid (VN_7.out.below b8 (VN_7.out.lt (by show 0 < 14; omega))); have B_8 := hid (B_7.out.trans (b8.mono B_7.out.size)); clear VM_7 VO_7 VF_7 VN_7 B_7 b8)
    | (refine wpList_lf (z := f) (.tmp 8) rfl rfl VF_7.out.1 rfl ?_)
    | (refine wpList_gst 32 (encn (newN id o) none 0 0) rfl (.tmp 12) (.tmp 34) rfl rfl rfl v6 (by show 0 + 14 ≤ 14; omega) size32 (encn_one _ _ _ _) ?_; intro w7 v7 b7 o7 s7; have bb7 := b6.trans b7; have VM_7 := hid (VM_5.out.below bb7 (VM_5.out.lt (by show 0 < 5; omega))); have VO_7 := hid (VO_5.out.below bb7 (VO_5.out.lt (by show 0 < 3; omega))); have VF_7 := hid (VF_5.out.below bb7 (VF_5.out.lt (by show 0 < 4; omega))); have B_7 := hid (B_5.out.trans (bb7.mono B_5.out.size)); have VN_7 : Hid (Var w7 w5.heap.size (encn (newN id o) none 0 0)) := hid v7; have DMN : Hid (w.heap.size ≠ w5.heap.size) := hid (by have := VM_5.out.lt (by show 0 < 5; omega); omega); have DON : Hid (w1.heap.size ≠ w5.heap.size) := hid (by have := VO_5.out.lt (by show 0 < 3; omega); omega); have DFN : Hid (w2.heap.size ≠ w5.heap.size) := hid (by have := VF_5.out.lt (by show 0 < 4; omega); omega); have EN : Hid (w.heap.size ≤ w5.heap.size) := hid B_5.out.size; clear VM_5 VO_5 VF_5 B_5 v6 b6 s6 v7 b7 o7 s7 bb7)
    | (have hk := B_5; clear hk; refine wpList_galloc 32 (encn nz none 0 0) zero32 rfl rfl ?_; intro w6 v6 b6 s6)
    | (go_at_call 18; (with_reducible refine (HN.out w4).mono ?_); rintro e w5 ⟨rfl, b5⟩; have VM_5 := hid (VM_4.out.below b5 (VM_4.out.lt (by show 0 < 5; omega))); have VO_5 := hid (VO_4.out.below b5 (VO_4.out.lt (by show 0 < 3; omega))); have VF_5 := hid (VF_4.out.below b5 (VF_4.out.lt (by show 0 < 4; omega))); have B_5 := hid (B_4.out.trans (b5.mono B_4.out.size)); clear VM_4 VO_4 VF_4 B_4 b5)
    | (refine wpList_lo (z := o) (.tmp 7) rfl rfl VO_4.out.1 rfl ?_)
    | (refine wpList_lm (.tmp 5) rfl rfl VM_4.out.1 rfl ?_)
    | (go_at_call 7; (with_reducible refine (HL.out w3).mono ?_); rintro e w4 ⟨rfl, b4⟩; have VM_4 := hid (VM_3.out.below b4 (VM_3.out.lt (by show 0 < 5; omega))); have VO_4 := hid (VO_3.out.below b4 (VO_3.out.lt (by show 0 < 3; omega))); have VF_4 := hid (VF_3.out.below b4 (VF_3.out.lt (by show 0 < 4; omega))); have B_4 := hid (B_3.out.trans (b4.mono B_3.out.size)); clear VM_3 VO_3 VF_3 B_3 b4)
    | (refine wpList_gbox 54 (encf f) rfl (.tmp 3) rfl rfl ?_; intro w3 v3 b3 s3; have VM_3 := hid (VM_2.out.below b3 (VM_2.out.lt (by show 0 < 5; omega))); have VO_3 := hid (VO_2.out.below b3 (VO_2.out.lt (by show 0 < 3; omega))); have B_3 := hid (B_2.out.trans (b3.mono B_2.out.size)); have DMF : Hid (w.heap.size ≠ w2.heap.size) := hid (by have := VM_2.out.lt (by show 0 < 5; omega); omega); have DOF : Hid (w1.heap.size ≠ w2.heap.size) := hid (by have := VO_2.out.lt (by show 0 < 3; omega); omega); have VF_3 := hid v3; clear VM_2 VO_2 B_2 v3 b3 s3)
    | (refine wpList_gbox 26 (enco o) rfl (.tmp 2) rfl rfl ?_; intro w2 v2 b2 s2; have VM_2 := hid (VM_1.out.below b2 (VM_1.out.lt (by show 0 < 5; omega))); have B_2 := hid (B_1.out.trans (b2.mono B_1.out.size)); have DMO : Hid (w.heap.size ≠ w1.heap.size) := hid (by have := VM_1.out.lt (by show 0 < 5; omega); omega); have VO_2 := hid v2; clear VM_1 B_1 v2 b2 s2)
    | (refine wpList_gbox 23 (encm m) rfl (.tmp 0) rfl rfl ?_; intro w1 v1 b1 s1; have B_1 := hid b1; have VM_1 := hid v1; clear  v1 b1 s1))
  go_ret
  exact ⟨rfl, B_8.out⟩
end Go.Proofs.YtlgedfljmgedfaaGreat
namespace Go.Proofs.YtlgedfljmgedfaaGreat
open Go Go.RowKit
open M10 (hid Md encm mv mz Oth range_keep there_keep range_other there_other setCells_oth setCells_size there_set Ty enct tv tz Fr encf fv fz)
open O6 (Oc enco ov oz)
open T9 (sv)
set_option maxRecDepth 100000 in
set_option maxHeartbeats 8000000 in
theorem joins_not (m : Md) (id : Int) (o : Oc) (f : Fr) (now : Int) (w : World) (hfm : f.m < 65536) (t : Int) (eA : bits .and .i64 now 1125899906842623 = t) (ht0 : 0 ≤ t) (ht1 : t ≤ 1125899906842623) (hk : nodeOk m (newN id o)) (hf : M10.OkF f) (hn : ¬ ((f.s : Int) % m.n = f.f ∧ ¬ f.f = id ∧ 0 ≤ t - O6.psO o m.l)) :
    Calls Tryz.prog 5 #[mv m, .int .i64 id, ov o, fv f, .int .i64 now] w fun e w' => e = .returned (.bool true) ∧ Below w.heap.size w w' := by
  have zz := And.intro hfm (And.intro ht0 ht1)
  clear zz
  have HL := hid live_any
  have HN := hid (fun (w : World) => by have hh := new_any m id o w; rw [show nodeE m (newN id o) = 0 from if_pos hk, show newR m id o = newN id o from if_pos hk] at hh; exact hh)
  have k1 := wk0_ok hk
  have hp1 : (wk0 id o).ph = 1 := rfl
  obtain ⟨r1, r2⟩ := rdF_is hf hfm
  have HW := hid (fun (w : World) => writeF_ok f w hf hfm)
  have HK := hid (fun (w : World) => wake_new m id o w hk)
  have HO := hid (fun (w : World) => own_okm (y := m) (f.s : Int) w k1.hm (by omega) (by have := hf.2.2.2; omega))
  obtain ⟨⟨l0, l1, l2, l3⟩, s0, s1, s2, s3⟩ := lead_in k1
  have hm9 := k1.hm
  obtain ⟨m1, m2, m3, m4, m5, m6, m7, m8, m9⟩ := hm9
  have d : heaN m (wk0 id o) (t + 1) t (bsF f) false = wk0 id o ∧ heaL m (wk0 id o) (t + 1) t (bsF f) false = [] ∧ heaE m (wk0 id o) (t + 1) t (bsF f) false = 0 := by
    by_cases hd : deaf (wk0 id o) (bsF f) false
    · exact hea_deaf (.inl hd)
    · have hj : ¬ joins m (wk0 id o) (rdF (bsF f)) (t + 1) t := by
        rw [r1]
        intro h
        exact hn ⟨h.1, fun e => hd (.inr (.inr (by rw [r1]; exact e))), h.2.1⟩
      unfold heaN heaL heaE
      rw [if_neg hd, if_neg hd, if_neg hd, if_pos hp1, if_pos hp1, if_pos hp1]
      exact ⟨if_neg hj, if_neg hj, if_neg hj⟩
  have hlt := lead_two k1.ho (l := m.l) (by omega)
  have hlt : O6.psO o m.l ≤ 2 * m.l * o.p := hlt
  have hpo : 1 ≤ o.p ∧ o.p ≤ 1000000000 := ⟨k1.ho.1, k1.ho.2.1⟩
  have hq0 : 0 ≤ 2 * m.l * o.p := Int.mul_nonneg (by omega) (by omega)
  have hq1 : 2 * m.l * o.p ≤ 2 * 1048576 * 1000000000 := Int.mul_le_mul (by omega) hpo.2 (by omega) (by omega)
  have hw : wrap64 (wrap64 (2 * m.l) * o.p) = 2 * m.l * o.p := by
    have h1 : wrap64 (2 * m.l) = 2 * m.l := by unfold wrap64; omega
    rw [h1]
    generalize 2 * m.l * o.p = q at *
    unfold wrap64; omega
  have HN3 : Hid (¬ (f.s : Int) % m.n = f.f ∨ f.f = id ∨ t < wrap64 (wrap64 (2 * m.l) * o.p)) := hid (by
    rw [hw]
    by_cases h1 : (f.s : Int) % m.n = f.f
    · by_cases h2 : f.f = id
      · exact .inr (.inl h2)
      · refine .inr (.inr ?_)
        have : ¬ 0 ≤ t - O6.psO o m.l := fun h => hn ⟨h1, h2, h⟩
        omega
    · exact .inl h1)
  have HH : Hid (∀ (w' : World) (A Ab : Option Addr) (c nb kb base : Nat), OwnR w' base 5 1 Ab nb kb (F8.bv (bsF f)) ∧ nb ≤ kb ∧ nb ≤ 1000 → Calls Tryz.prog 16 #[mv m, nv (wk0 id o) A 0 c, .int .i64 (t + 1), .int .i64 t, .slice Ab nb kb, .bool false] w' fun e w'' => ∃ A' c' B d, e = .returned (.tuple #[nv (wk0 id o) A' 0 c', .slice B 0 d, .int .i64 0]) ∧ T9.Row w'' w''.heap.size A' 0 (sv (wk0 id o).dv) ∧ Below w'.heap.size w' w'') := hid (fun w' A Ab c nb kb base h => hear_same (wk0 id o) m A Ab 0 c 0 nb kb w'.heap.size (t + 1) t (bsF f) false w' (T9.Row.nil _ _ _) (Nat.zero_le _) (by omega) k1.s0 k1.mb (F8.Own.row h.1) (Nat.le_refl _) (bsF_oct hf) h.2.1 (by omega) d.1 d.2.1 d.2.2 0 (if_pos ⟨mayB_is ht0 ht1, okn_of k1 (by omega)⟩))
  have HS : Hid (∀ (w' : World) (A A' : Option Addr) (c c' : Nat), Calls Tryz.prog 22 #[.agg #[.int .i64 (wk0 id o).id, .int .i64 (wk0 id o).ph, .int .u64 (wk0 id o).sl, .int .i64 (wk0 id o).st, .int .i64 (wk0 id o).o.p, .int .i64 (wk0 id o).o.d, .int .i64 (wk0 id o).o.r, .int .i64 (wk0 id o).co, .int .u16 ((wk0 id o).mb : Int), .int .i64 (wk0 id o).t.g, .int .i64 (wk0 id o).t.b, .slice A' 0 c', .bool (wk0 id o).se, .int .i64 (wk0 id o).vd], .agg #[.int .i64 (wk0 id o).id, .int .i64 (wk0 id o).ph, .int .u64 (wk0 id o).sl, .int .i64 (wk0 id o).st, .int .i64 (wk0 id o).o.p, .int .i64 (wk0 id o).o.d, .int .i64 (wk0 id o).o.r, .int .i64 (wk0 id o).co, .int .u16 ((wk0 id o).mb : Int), .int .i64 (wk0 id o).t.g, .int .i64 (wk0 id o).t.b, .slice A 0 c, .bool (wk0 id o).se, .int .i64 (wk0 id o).vd]] w' fun e w'' => e = .returned (.bool true) ∧ Below w'.heap.size w' w'') := hid (fun w' A A' c c' => by have hh := same_any (wk0 id o) (wk0 id o) A' A 0 c' 0 c 0 0 w' (T9.Row.nil _ _ _) (T9.Row.nil _ _ _) (Nat.zero_le _) (Nat.zero_le _) (by omega) (by omega); rw [saB_refl] at hh; exact hh)
  clear hk hf hfm k1 hp1 r1 r2 l0 l1 l2 l3 s0 s1 s2 s3 m1 m2 m3 m4 m5 m6 m7 m8 m9 d hn hlt hpo hq0 hq1 hw
  generalize (f.s : Int) % m.n = OO at *
  go_enter Tryz.func5, Tryz.ntmps5
  go_wp2_with (first
    | (go_at_call 25; (with_reducible refine (HO.out w13).mono ?_); rintro e w14 ⟨rfl, b14⟩; have VM_14 := hid (VM_13.out.below b14 (VM_13.out.lt (by show 0 < 5; omega))); have VO_14 := hid (VO_13.out.below b14 (VO_13.out.lt (by show 0 < 3; omega))); have VF_14 := hid (VF_13.out.below b14 (VF_13.out.lt (by show 0 < 4; omega))); have VN_14 := hid (VN_13.out.below b14 (VN_13.out.lt (by show 0 < 14; omega))); have VX_14 := hid (VX_13.out.below b14 (VX_13.out.lt (by show 0 < 14; omega))); have Ob_14 := hid (Ob_13.out.below b14); have B_14 := hid (B_13.out.trans (b14.mono B_13.out.size)); have x0 : w14.cell? ⟨w11.heap.size, 0, none⟩ = some (.int .i64 (wk0 id o).id) := VX_14.out.cell rfl; have x1 : w14.cell? ⟨w11.heap.size, 1, none⟩ = some (.int .i64 (wk0 id o).ph) := VX_14.out.cell rfl; have x2 : w14.cell? ⟨w11.heap.size, 2, none⟩ = some (.int .u64 (wk0 id o).sl) := VX_14.out.cell rfl; have x3 : w14.cell? ⟨w11.heap.size, 3, none⟩ = some (.int .i64 (wk0 id o).st) := VX_14.out.cell rfl; have x4 : w14.cell? ⟨w11.heap.size, 4, none⟩ = some (.int .i64 (wk0 id o).o.p) := VX_14.out.cell rfl; have x5 : w14.cell? ⟨w11.heap.size, 5, none⟩ = some (.int .i64 (wk0 id o).o.d) := VX_14.out.cell rfl; have x6 : w14.cell? ⟨w11.heap.size, 6, none⟩ = some (.int .i64 (wk0 id o).o.r) := VX_14.out.cell rfl; have x7 : w14.cell? ⟨w11.heap.size, 7, none⟩ = some (.int .i64 (wk0 id o).co) := VX_14.out.cell rfl; have x8 : w14.cell? ⟨w11.heap.size, 8, none⟩ = some (.int .u16 ((wk0 id o).mb : Int)) := VX_14.out.cell rfl; have x9 : w14.cell? ⟨w11.heap.size, 9, none⟩ = some (.int .i64 (wk0 id o).t.g) := VX_14.out.cell rfl; have x10 : w14.cell? ⟨w11.heap.size, 10, none⟩ = some (.int .i64 (wk0 id o).t.b) := VX_14.out.cell rfl; have x11 : w14.cell? ⟨w11.heap.size, 11, none⟩ = some (.slice A11 0 c11) := VX_14.out.cell rfl; have x12 : w14.cell? ⟨w11.heap.size, 12, none⟩ = some (.bool (wk0 id o).se) := VX_14.out.cell rfl; have x13 : w14.cell? ⟨w11.heap.size, 13, none⟩ = some (.int .i64 (wk0 id o).vd) := VX_14.out.cell rfl; have n0 : w14.cell? ⟨w5.heap.size, 0, none⟩ = some (.int .i64 (wk0 id o).id) := VN_14.out.cell rfl; have n1 : w14.cell? ⟨w5.heap.size, 1, none⟩ = some (.int .i64 (wk0 id o).ph) := VN_14.out.cell rfl; have n2 : w14.cell? ⟨w5.heap.size, 2, none⟩ = some (.int .u64 (wk0 id o).sl) := VN_14.out.cell rfl; have n3 : w14.cell? ⟨w5.heap.size, 3, none⟩ = some (.int .i64 (wk0 id o).st) := VN_14.out.cell rfl; have n4 : w14.cell? ⟨w5.heap.size, 4, none⟩ = some (.int .i64 (wk0 id o).o.p) := VN_14.out.cell rfl; have n5 : w14.cell? ⟨w5.heap.size, 5, none⟩ = some (.int .i64 (wk0 id o).o.d) := VN_14.out.cell rfl; have n6 : w14.cell? ⟨w5.heap.size, 6, none⟩ = some (.int .i64 (wk0 id o).o.r) := VN_14.out.cell rfl; have n7 : w14.cell? ⟨w5.heap.size, 7, none⟩ = some (.int .i64 (wk0 id o).co) := VN_14.out.cell rfl; have n8 : w14.cell? ⟨w5.heap.size, 8, none⟩ = some (.int .u16 ((wk0 id o).mb : Int)) := VN_14.out.cell rfl; have n9 : w14.cell? ⟨w5.heap.size, 9, none⟩ = some (.int .i64 (wk0 id o).t.g) := VN_14.out.cell rfl; have n10 : w14.cell? ⟨w5.heap.size, 10, none⟩ = some (.int .i64 (wk0 id o).t.b) := VN_14.out.cell rfl; have n11 : w14.cell? ⟨w5.heap.size, 11, none⟩ = some (.slice A9 0 c9) := VN_14.out.cell rfl; have n12 : w14.cell? ⟨w5.heap.size, 12, none⟩ = some (.bool (wk0 id o).se) := VN_14.out.cell rfl; have n13 : w14.cell? ⟨w5.heap.size, 13, none⟩ = some (.int .i64 (wk0 id o).vd) := VN_14.out.cell rfl; clear VM_13 VO_13 VF_13 VN_13 VX_13 Ob_13 B_13 b14)
    | (refine wpList_lm (.tmp 5) rfl rfl VM_13.out.1 rfl ?_)
    | (refine wpList_gst 32 (encn (wk0 id o) A11 0 c11) rfl (.tmp 16) (.tmp 63) rfl rfl rfl v12 (by show 0 + 14 ≤ 14; omega) size32 (encn_one _ _ _ _) ?_; intro w13 v13 b13 o13 s13; have bb13 := b12.trans b13; have VM_13 := hid (VM_11.out.below bb13 (VM_11.out.lt (by show 0 < 5; omega))); have VO_13 := hid (VO_11.out.below bb13 (VO_11.out.lt (by show 0 < 3; omega))); have VF_13 := hid (VF_11.out.below bb13 (VF_11.out.lt (by show 0 < 4; omega))); have VN_13 := hid (VN_11.out.below bb13 (VN_11.out.lt (by show 0 < 14; omega))); have Ob_13 := hid (Ob_11.out.below bb13); have B_13 := hid (B_11.out.trans (bb13.mono B_11.out.size)); have VX_13 : Hid (Var w13 w11.heap.size (encn (wk0 id o) A11 0 c11)) := hid v13; have DMX : Hid (w.heap.size ≠ w11.heap.size) := hid (by have := VM_11.out.lt (by show 0 < 5; omega); omega); have DOX : Hid (w1.heap.size ≠ w11.heap.size) := hid (by have := VO_11.out.lt (by show 0 < 3; omega); omega); have DFX : Hid (w2.heap.size ≠ w11.heap.size) := hid (by have := VF_11.out.lt (by show 0 < 4; omega); omega); have DNX : Hid (w5.heap.size ≠ w11.heap.size) := hid (by have := VN_11.out.lt (by show 0 < 14; omega); omega); have EX : Hid (w.heap.size ≤ w11.heap.size) := hid B_11.out.size; have u1 : w13.cell? ⟨w11.heap.size, 1, none⟩ = some (.int .i64 1) := VX_13.out.cell rfl; have f2 : w13.cell? ⟨w2.heap.size, 2, none⟩ = some (.int .u64 (f.s : Int)) := VF_13.out.cell rfl; clear VM_11 VO_11 VF_11 VN_11 Ob_11 B_11 v12 b12 s12 v13 b13 o13 s13 bb13)
    | (have hk := B_11; clear hk; refine wpList_galloc 32 (encn nz none 0 0) zero32 rfl rfl ?_; intro w12 v12 b12 s12)
    | (go_at_call 16; (with_reducible refine (HH.out w10 A9 Ab c9 nb kb w7.heap.size ⟨Ob_10.out, Nb.out⟩).mono ?_); rintro e w11 ⟨A11, c11, B11, d11, rfl, _, b11⟩; have VM_11 := hid (VM_10.out.below b11 (VM_10.out.lt (by show 0 < 5; omega))); have VO_11 := hid (VO_10.out.below b11 (VO_10.out.lt (by show 0 < 3; omega))); have VF_11 := hid (VF_10.out.below b11 (VF_10.out.lt (by show 0 < 4; omega))); have VN_11 := hid (VN_10.out.below b11 (VN_10.out.lt (by show 0 < 14; omega))); have Ob_11 := hid (Ob_10.out.below b11); have B_11 := hid (B_10.out.trans (b11.mono B_10.out.size)); clear VM_10 VO_10 VF_10 VN_10 Ob_10 B_10 b11)
    | (refine wpList_ln (z := (wk0 id o)) (A := A9) (n := 0) (c := c9) (.tmp 12) rfl rfl VN_10.out.1 rfl ?_)
    | (refine wpList_lm (.tmp 5) rfl rfl VM_10.out.1 rfl ?_)
    | (refine wpList_gst 32 (encn (wk0 id o) A9 0 c9) rfl (.tmp 12) (.tmp 52) rfl rfl rfl VN_9.out (by show 0 + 14 ≤ 14; omega) size32 (encn_one _ _ _ _) ?_; intro w10 v10 b10 o10 s10; have VM_10 := hid (VM_9.out.other o10 DMN.out); have VO_10 := hid (VO_9.out.other o10 DON.out); have VF_10 := hid (VF_9.out.other o10 DFN.out); have VN_10 : Hid (Var w10 w5.heap.size (encn (wk0 id o) A9 0 c9)) := hid v10; have Ob_10 := hid (Ob_9.out.oth o10 (fun e => by have := (Ob_9.out.lt e).1; have := LN8.out; omega)); have B_10 := hid (B_9.out.trans (b10.mono EN.out)); clear VM_9 VO_9 VF_9 VN_9 Ob_9 B_9 v10 b10 o10 s10)
    | (go_at_call 10; (with_reducible refine (HK.out w8).mono ?_); rintro e w9 ⟨A9, c9, B9, d9, rfl, b9⟩; have VM_9 := hid (VM_8.out.below b9 (VM_8.out.lt (by show 0 < 5; omega))); have VO_9 := hid (VO_8.out.below b9 (VO_8.out.lt (by show 0 < 3; omega))); have VF_9 := hid (VF_8.out.below b9 (VF_8.out.lt (by show 0 < 4; omega))); have VN_9 := hid (VN_8.out.below b9 (VN_8.out.lt (by show 0 < 14; omega))); have Ob_9 := hid (Ob_8.out.below b9); have B_9 := hid (B_8.out.trans (b9.mono B_8.out.size)); clear VM_8 VO_8 VF_8 VN_8 Ob_8 B_8 b9)
    | (refine wpList_ln (z := (newN id o)) (A := none) (n := 0) (c := 0) (.tmp 12) rfl rfl VN_8.out.1 rfl ?_)
    | (refine wpList_lm (.tmp 5) rfl rfl VM_8.out.1 rfl ?_)
    | (go_at_call 24; (with_reducible refine (HW.out w7).mono ?_); rintro e w8 ⟨Ab, nb, kb, rfl, ob8, b8⟩; have VM_8 := hid (VM_7.out.below b8 (VM_7.out.lt (by show 0 < 5; omega))); have VO_8 := hid (VO_7.out.below b8 (VO_7.out.lt (by show 0 < 3; omega))); have VF_8 := hid (VF_7.out.below b8 (VF_7.out.lt (by show 0 < 4; omega))); have VN_8 := hid (VN_7.out.below b8 (VN_7.out.lt (by show 0 < 14; omega))); have B_8 := hid (B_7.out.trans (b8.mono B_7.out.size)); have Ob_8 := hid ob8.1; have Nb := hid ob8.2; have LN8 : Hid (w5.heap.size < w7.heap.size) := hid (VN_7.out.lt (by show 0 < 14; omega)); clear VM_7 VO_7 VF_7 VN_7 B_7 b8)
    | (refine wpList_lf (z := f) (.tmp 8) rfl rfl VF_7.out.1 rfl ?_)
    | (refine wpList_gst 32 (encn (newN id o) none 0 0) rfl (.tmp 12) (.tmp 34) rfl rfl rfl v6 (by show 0 + 14 ≤ 14; omega) size32 (encn_one _ _ _ _) ?_; intro w7 v7 b7 o7 s7; have bb7 := b6.trans b7; have VM_7 := hid (VM_5.out.below bb7 (VM_5.out.lt (by show 0 < 5; omega))); have VO_7 := hid (VO_5.out.below bb7 (VO_5.out.lt (by show 0 < 3; omega))); have VF_7 := hid (VF_5.out.below bb7 (VF_5.out.lt (by show 0 < 4; omega))); have B_7 := hid (B_5.out.trans (bb7.mono B_5.out.size)); have VN_7 : Hid (Var w7 w5.heap.size (encn (newN id o) none 0 0)) := hid v7; have DMN : Hid (w.heap.size ≠ w5.heap.size) := hid (by have := VM_5.out.lt (by show 0 < 5; omega); omega); have DON : Hid (w1.heap.size ≠ w5.heap.size) := hid (by have := VO_5.out.lt (by show 0 < 3; omega); omega); have DFN : Hid (w2.heap.size ≠ w5.heap.size) := hid (by have := VF_5.out.lt (by show 0 < 4; omega); omega); have EN : Hid (w.heap.size ≤ w5.heap.size) := hid B_5.out.size; clear VM_5 VO_5 VF_5 B_5 v6 b6 s6 v7 b7 o7 s7 bb7)
    | (have hk := B_5; clear hk; refine wpList_galloc 32 (encn nz none 0 0) zero32 rfl rfl ?_; intro w6 v6 b6 s6)
    | (go_at_call 18; (with_reducible refine (HN.out w4).mono ?_); rintro e w5 ⟨rfl, b5⟩; have VM_5 := hid (VM_4.out.below b5 (VM_4.out.lt (by show 0 < 5; omega))); have VO_5 := hid (VO_4.out.below b5 (VO_4.out.lt (by show 0 < 3; omega))); have VF_5 := hid (VF_4.out.below b5 (VF_4.out.lt (by show 0 < 4; omega))); have B_5 := hid (B_4.out.trans (b5.mono B_4.out.size)); clear VM_4 VO_4 VF_4 B_4 b5)
    | (refine wpList_lo (z := o) (.tmp 7) rfl rfl VO_4.out.1 rfl ?_)
    | (refine wpList_lm (.tmp 5) rfl rfl VM_4.out.1 rfl ?_)
    | (go_at_call 7; (with_reducible refine (HL.out w3).mono ?_); rintro e w4 ⟨rfl, b4⟩; have VM_4 := hid (VM_3.out.below b4 (VM_3.out.lt (by show 0 < 5; omega))); have VO_4 := hid (VO_3.out.below b4 (VO_3.out.lt (by show 0 < 3; omega))); have VF_4 := hid (VF_3.out.below b4 (VF_3.out.lt (by show 0 < 4; omega))); have B_4 := hid (B_3.out.trans (b4.mono B_3.out.size)); clear VM_3 VO_3 VF_3 B_3 b4)
    | (refine wpList_gbox 54 (encf f) rfl (.tmp 3) rfl rfl ?_; intro w3 v3 b3 s3; have VM_3 := hid (VM_2.out.below b3 (VM_2.out.lt (by show 0 < 5; omega))); have VO_3 := hid (VO_2.out.below b3 (VO_2.out.lt (by show 0 < 3; omega))); have B_3 := hid (B_2.out.trans (b3.mono B_2.out.size)); have DMF : Hid (w.heap.size ≠ w2.heap.size) := hid (by have := VM_2.out.lt (by show 0 < 5; omega); omega); have DOF : Hid (w1.heap.size ≠ w2.heap.size) := hid (by have := VO_2.out.lt (by show 0 < 3; omega); omega); have VF_3 := hid v3; clear VM_2 VO_2 B_2 v3 b3 s3)
    | (refine wpList_gbox 26 (enco o) rfl (.tmp 2) rfl rfl ?_; intro w2 v2 b2 s2; have VM_2 := hid (VM_1.out.below b2 (VM_1.out.lt (by show 0 < 5; omega))); have B_2 := hid (B_1.out.trans (b2.mono B_1.out.size)); have DMO : Hid (w.heap.size ≠ w1.heap.size) := hid (by have := VM_1.out.lt (by show 0 < 5; omega); omega); have VO_2 := hid v2; clear VM_1 B_1 v2 b2 s2)
    | (refine wpList_gbox 23 (encm m) rfl (.tmp 0) rfl rfl ?_; intro w1 v1 b1 s1; have B_1 := hid b1; have VM_1 := hid v1; clear  v1 b1 s1))
  go_at_call 22; (with_reducible refine (HS.out w14 A9 A11 c9 c11).mono ?_); rintro e w15 ⟨rfl, b15⟩; have VM_15 := hid (VM_14.out.below b15 (VM_14.out.lt (by show 0 < 5; omega))); have VO_15 := hid (VO_14.out.below b15 (VO_14.out.lt (by show 0 < 3; omega))); have VF_15 := hid (VF_14.out.below b15 (VF_14.out.lt (by show 0 < 4; omega))); have VN_15 := hid (VN_14.out.below b15 (VN_14.out.lt (by show 0 < 14; omega))); have VX_15 := hid (VX_14.out.below b15 (VX_14.out.lt (by show 0 < 14; omega))); have Ob_15 := hid (Ob_14.out.below b15); have B_15 := hid (B_14.out.trans (b15.mono B_14.out.size)); have g1 : w15.cell? ⟨w2.heap.size, 1, none⟩ = some (.int .i64 f.f) := VF_15.out.cell rfl; have q1 : w15.cell? ⟨w.heap.size, 1, none⟩ = some (.int .i64 m.s) := VM_15.out.cell rfl; have q2 : w15.cell? ⟨w.heap.size, 2, none⟩ = some (.int .i64 m.l) := VM_15.out.cell rfl; have r0 : w15.cell? ⟨w1.heap.size, 0, none⟩ = some (.int .i64 o.p) := VO_15.out.cell rfl; clear VM_14 VO_14 VF_14 VN_14 VX_14 Ob_14 B_14 b15
  go_wp2_with fail
  all_goals first
    | (exfalso; rename_i h1 h2 h3; rcases HN3.out with h | h | h; exact h h1; exact h2 h; exact absurd h (Int.not_lt.mpr h3))
    | (go_ret; exact ⟨rfl, B_15.out⟩)
end Go.Proofs.YtlgedfljmgedfaaGreat
