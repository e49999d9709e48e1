/-
  Texts NN of this seat, as far as they are used.
-/
import Derived.Test.YtlgedfljmgedfaaGreatJ27
namespace Go.Proofs.YtlgedfljmgedfaaGreat
open Go Go.RowKit
open M10 (hid Md encm mv mz Oth range_keep there_keep range_other there_other setCells_oth setCells_size there_set Ty enct tv tz Fr encf fv fz)
open O6 (Oc enco ov oz)
open T9 (sv)
/-- It joins by a frame that began so that its slot began at st. -/
def joiN (x : Nd) (f : Fr) (st : Int) : Nd := ⟨x.id, 2, (f.s : Int), st, x.o, 0, M10.subb (M10.addb f.m f.f.toNat) x.id.toNat, ⟨1, 0⟩, [0], false, 1⟩
/-- What is loaded there: the node's number and clock, and the frame. -/
def SJ (g b : Nat) (x : Nd) (f : Fr) (w : World) : Prop := w.cell? ⟨g, 0, none⟩ = some (.int .i64 x.id) ∧ w.rangeAt g 4 (enco x.o) ∧ Var w b (encf f)
theorem SJ.of {K : Nat → Prop} {base g b : Nat} {x y : Nd} {m : Md} {l : List Ac} {f : Fr} {w : World} (h : Wk w K base g y m l) (e1 : y.id = x.id) (e2 : y.o = x.o) (v : Var w b (encf f)) : SJ g b x f w :=
  ⟨e1 ▸ h.cell (j := 0) fun _ _ _ _ _ _ => rfl, e2 ▸ h.osc, v⟩
theorem ff_in {f : Fr} (hf : M10.OkF f) : 0 ≤ f.f ∧ f.f ≤ 15 := by
  obtain ⟨h1, h2, h3, h4⟩ := hf
  exact ⟨by omega, by omega⟩
set_option maxRecDepth 100000 in
set_option maxHeartbeats 2000000 in
theorem join_ok (K : Nat → Prop) (base g : Nat) (x : Nd) (m : Md) (l : List Ac) (f : Fr) (now began st : Int) (w : World) (h : Wk w K base g x m l) (hl : l.length ≤ 900) (k : NdOk m x) (hf : M10.OkF f) (hfm : f.m < 65536) (hO : (f.s : Int) % m.n = f.f) (hb0 : 0 ≤ began) (hb1 : began ≤ now) (hn : now ≤ 1152921504606846976) (hst : began - O6.psO x.o m.l = st) (hs : 0 ≤ st) (ht : now < st + O6.psO x.o m.s) :
    Calls Tryz.prog 48 #[.pointer (some ⟨g, 0, none⟩), fv f, .int .i64 now, .int .i64 began] w (RetW K base g (joiN x f st) m (l ++ [note 3 (f.s : Int)] ++ [timr (timeT (joiN x f st) m.s)]) (.int .i64 (timeE (joiN x f st) m.s)) w) := by
  have H := hid h
  have T0 := hid (fun (w1 : World) (d : Nat) (os : Array Obj) => Calls.regrown_of (d := d) (os := os) (own_okm (y := m) (f.s : Int) (Sort.grow (redrawn w1 d) os) k.hm (by omega) (by have := hf.2.2.2; omega)))
  have e1 : ((f.s : Int) % m.n != f.f) = false := by simp [hO]
  obtain ⟨⟨l0, l1, l2, l3⟩, n0, n1, n2, n3⟩ := lead_in k
  have HR4 := hid (fun w => O6.run_ok x.o m.l w k.ho (by omega) (by omega) (by omega))
  have HR5 := hid (fun w => O6.run_ok x.o m.s w k.ho (by omega) (by omega) (by omega))
  have hid1 : x.id ≤ 15 := by have := k.i1; have := k.hm.2.1; omega
  have hff : 0 ≤ f.f ∧ f.f ≤ 15 := ff_in hf
  have hP : M10.addb f.m f.f.toNat < 65536 := M10.addb_lt _ _ hfm (by omega)
  have HW := hid (fun w => with_id f.m f.f w hfm hff.1 hff.2)
  have HU := hid (fun w => without_id (M10.addb f.m f.f.toNat) x.id w hP k.i0 hid1)
  have eS : IntKind.i64.wrap (began - O6.psO x.o m.l) = st := by rw [hst, IntKind.wrap_i64]; omega
  have e2 : decide (st < 0) = false := by simp; omega
  have eT : IntKind.i64.wrap (st + O6.psO x.o m.s) = st + O6.psO x.o m.s := by rw [IntKind.wrap_i64]; omega
  have e3 : decide (st + O6.psO x.o m.s ≤ now) = false := by simp; omega
  have hs1 : f.s ≤ 4294967296 := hf.2.2.2
  have eC : IntKind.i64.wrap (f.s : Int) = (f.s : Int) := by rw [IntKind.wrap_i64]; omega
  have HN := hid (fun (K : Nat → Prop) (w1 : World) (h : Wk w1 K base g (joiN x f st) m l) => note_any K base g (joiN x f st) m l 3 (f.s : Int) w1 h (by omega))
  have HT := hid (fun (K : Nat → Prop) (w1 : World) (h : Wk w1 K base g (joiN x f st) m (l ++ [note 3 (f.s : Int)])) => timer_any K base g (joiN x f st) m (l ++ [note 3 (f.s : Int)]) m.s w1 h (by simp; omega) ⟨k.ho, hs, by show st ≤ _; omega⟩ n2 n3)
  unfold joiN at HN HT ⊢
  clear h k hf hO hb0 hb1 hn l0 l1 l2 l3 n0 n1 n2 n3 hs ht hst hl hid1 hff hP hs1 hfm
  generalize timeT _ m.s = T at *
  generalize timeE _ m.s = E at *
  generalize M10.subb (M10.addb f.m f.f.toNat) x.id.toNat = Q at *
  generalize M10.addb f.m f.f.toNat = P at *
  generalize O6.psO x.o m.l = L at *
  generalize O6.psO x.o m.s = N at *
  generalize O6.aft x.o m.l = lfL at *
  generalize O6.aft x.o m.s = lfN at *
  generalize (f.s : Int) % m.n = O at *
  go_enter Tryz.func48, Tryz.ntmps48
  go_wp2_with (first
    | (refine wpList_gbox 54 (encf f) rfl (.tmp 1) rfl rfl ?_; intro w1 v1 b1 s1))
  have hbs : w.heap.size < w1.heap.size := v1.lt (by show 0 < 4; omega)
  have W1 := hid (H.out.add (b := w.heap.size) b1 (Nat.le_refl _) hbs)
  have K1 := hid (H.out.keptb b1)
  have V1 := hid v1
  obtain ⟨K', hK'⟩ : ∃ K' : Nat → Prop, K' = (fun k => K k ∨ k = w.heap.size) := ⟨_, rfl⟩
  have hj : ∀ i, K i → K' i := by rw [hK']; exact fun _ h => .inl h
  have hb : K' w.heap.size := by rw [hK']; exact .inr rfl
  rw [← hK'] at W1
  clear hK' hbs b1 s1 v1
  generalize w.heap.size = b at *
  have c2 : Hid (w1.cell? ⟨b, 2, none⟩ = some (.int .u64 (f.s : Int))) := hid (V1.out.cell rfl)
  refine wp_region_quiet_below (by kernel_rfl) (by kernel_rfl) ?_
  repeat (first | go_big_quiet_skip | refine wpQuiet_wm rfl rfl rfl W1.out ?_ | refine wpQuiet_gl1 24 rfl rfl rfl Tryz.isAgg24 c2.out ?_ | quiet_step (with_reducible exact T0.out _ _ _))
  refine wpQuiet_nil ?_
  intro _ hw'
  obtain ⟨⟨dq, osq⟩, hw''⟩ := hw'
  subst hw''
  have W2 := hid (W1.out.below (below_regrown w1 dq osq))
  have K2 := hid (K1.out.trans ((W1.out.keptb (below_regrown w1 dq osq)).mono hj))
  have V2 : Hid (Var (Sort.grow (redrawn w1 dq) osq) b (encf f)) := hid (V1.out.below (below_regrown w1 dq osq) (V1.out.lt (by show 0 < 4; omega)))
  generalize Sort.grow (redrawn w1 dq) osq = w2 at *
  clear c2 T0 W1 K1 V1 H
  have d1 : w2.cell? ⟨b, 1, none⟩ = some (.int .i64 f.f) := V2.out.cell rfl
  go_wp2_with fail
  go_cut [11, 12, 13] (fun v11 v12 v13 wx => ∃ p, v11 = .int .i64 L ∧ v12 = .pointer (some ⟨p, 0, none⟩) ∧ v13 = .int .i64 0 ∧ Hid (Wk wx K' base g x m l) ∧ Hid (Kept K w wx) ∧ Hid (Var wx b (encf f)))
  case first =>
    have Q2 := hid W2.out.drew
    have k2 := hid (K2.out.trans ((W2.out.keptb (Below.refl _ _).drew).mono hj))
    have L2 := hid V2.out.drew
    have S0 : Wk w2.drew K' base g x m l := Q2.out
    refine wp_region_held_drew (S := fun w' => Wk w' K' base g x m l) (by kernel_rfl) S0 (fun _ => ?_)
    refine tk 0 (some 33) (.pointer (some ⟨g, 0, none⟩)) rfl rfl (by kernel_rfl) (by kernel_rfl) (by kernel_rfl) (fun _ _ _ h => h) (.inl ⟨by rfl, fun _ _ => by go_simp⟩) S0 ?_
    simp only [Act.put, List.setIfInBounds_toArray, List.set_cons_zero, List.set_cons_succ]
    refine tk 1 (some 34) (.pointer (some ⟨g, 0, none⟩)) rfl rfl (by kernel_rfl) (by kernel_rfl) (by kernel_rfl) (fun _ _ _ h => h) (.inl ⟨by rfl, fun _ _ => by go_simp⟩) S0 ?_
    simp only [Act.put, List.setIfInBounds_toArray, List.set_cons_zero, List.set_cons_succ]
    refine tk 2 (some 35) (.pointer (some ⟨g, 0, none⟩)) rfl rfl (by kernel_rfl) (by kernel_rfl) (by kernel_rfl) (fun _ _ _ h => h) (.inl ⟨by rfl, fun _ _ => by go_simp⟩) S0 ?_
    simp only [Act.put, List.setIfInBounds_toArray, List.set_cons_zero, List.set_cons_succ]
    refine tk 3 (some 36) (.pointer (some ⟨g, 4, none⟩)) rfl rfl (by kernel_rfl) (by kernel_rfl) (by kernel_rfl) (fun _ _ _ h => h) (.inl ⟨by rfl, fun _ _ => by go_simp⟩) S0 ?_
    simp only [Act.put, List.setIfInBounds_toArray, List.set_cons_zero, List.set_cons_succ]
    refine tk 4 (some 37) (ov x.o) rfl rfl (by kernel_rfl) (by kernel_rfl) (by kernel_rfl) (fun _ _ _ h => h) (ylo rfl rfl (fun w h => h.osc) rfl) S0 ?_
    simp only [Act.put, List.setIfInBounds_toArray, List.set_cons_zero, List.set_cons_succ]
    refine tk 5 (some 38) (.pointer (some ⟨g, 0, none⟩)) rfl rfl (by kernel_rfl) (by kernel_rfl) (by kernel_rfl) (fun _ _ _ h => h) (.inl ⟨by rfl, fun _ _ => by go_simp⟩) S0 ?_
    simp only [Act.put, List.setIfInBounds_toArray, List.set_cons_zero, List.set_cons_succ]
    refine tk 6 (some 39) (.pointer (some ⟨g, 0, none⟩)) rfl rfl (by kernel_rfl) (by kernel_rfl) (by kernel_rfl) (fun _ _ _ h => h) (.inl ⟨by rfl, fun _ _ => by go_simp⟩) S0 ?_
    simp only [Act.put, List.setIfInBounds_toArray, List.set_cons_zero, List.set_cons_succ]
    refine tk 7 (some 40) (.pointer (some ⟨g, 14, none⟩)) rfl rfl (by kernel_rfl) (by kernel_rfl) (by kernel_rfl) (fun _ _ _ h => h) (.inl ⟨by rfl, fun _ _ => by go_simp⟩) S0 ?_
    simp only [Act.put, List.setIfInBounds_toArray, List.set_cons_zero, List.set_cons_succ]
    refine tk 8 (some 41) (.pointer (some ⟨g, 16, none⟩)) rfl rfl (by kernel_rfl) (by kernel_rfl) (by kernel_rfl) (fun _ _ _ h => h) (.inl ⟨by rfl, fun _ _ => by go_simp⟩) S0 ?_
    simp only [Act.put, List.setIfInBounds_toArray, List.set_cons_zero, List.set_cons_succ]
    refine tk 9 (some 42) (.int .i64 m.l) rfl rfl (by kernel_rfl) (by kernel_rfl) (by kernel_rfl) (fun _ _ _ h => h) (yl1 2 (p := ⟨g, 16, none⟩) (v := .int .i64 m.l) rfl rfl Tryz.isAgg2 (fun w h => h.cell (j := 16) fun _ _ _ _ _ _ => rfl) rfl) S0 ?_
    simp only [Act.put, List.setIfInBounds_toArray, List.set_cons_zero, List.set_cons_succ]
    refine rd_ca 10 15 (some 43) (some 12) 91 #[ov x.o, .int .i64 m.l] _ 26 (enco oz) (by kernel_rfl) rfl rfl rfl rfl (by unfold execOp; simp [go_sem] <;> rfl) (HR4.out _) zero26 rfl rfl rfl (fun w5 b5 => ⟨(Q2.out.below b5), ?_⟩) (fun w5 v5 b5 s5 => ⟨(Q2.out.below b5), ?_⟩)
    · simp only [Act.put, List.setIfInBounds_toArray, List.set_cons_zero, List.set_cons_succ]
      have S1 : Wk w5 K' base g x m l := Q2.out.below b5
      refine tk 11 (some 32) (.tuple #[.int .i64 L, ov lfL, .int .i64 0]) rfl rfl (by kernel_rfl) (by kernel_rfl) (by kernel_rfl) (fun _ _ _ h => h) (.inl ⟨by rfl, fun _ _ => by go_simp⟩) S1 ?_
      simp only [Act.put, List.setIfInBounds_toArray, List.set_cons_zero, List.set_cons_succ]
      refine tk 12 (some 44) (.int .i64 L) rfl rfl (by kernel_rfl) (by kernel_rfl) (by kernel_rfl) (fun _ _ _ h => h) (.inl ⟨by rfl, fun _ _ => by go_simp⟩) S1 ?_
      simp only [Act.put, List.setIfInBounds_toArray, List.set_cons_zero, List.set_cons_succ]
      refine tk 13 (some 45) (ov lfL) rfl rfl (by kernel_rfl) (by kernel_rfl) (by kernel_rfl) (fun _ _ _ h => h) (.inl ⟨by rfl, fun _ _ => by go_simp⟩) S1 ?_
      simp only [Act.put, List.setIfInBounds_toArray, List.set_cons_zero, List.set_cons_succ]
      refine tk 14 (some 46) (.int .i64 0) rfl rfl (by kernel_rfl) (by kernel_rfl) (by kernel_rfl) (fun _ _ _ h => h) (.inl ⟨by rfl, fun _ _ => by go_simp⟩) S1 ?_
      simp only [Act.put, List.setIfInBounds_toArray, List.set_cons_zero, List.set_cons_succ]
      refine rd_al 15 (some 12) 26 (enco oz) zero26 (by kernel_rfl) rfl rfl rfl rfl ?_
      intro w6 v6 b6 s6
      have S2 : Wk w6 K' base g x m l := S1.below b6
      refine ⟨S2, ?_⟩
      simp only [Act.put, List.setIfInBounds_toArray, List.set_cons_zero, List.set_cons_succ]
      have hb5 := b5.size
      have b56 : Below w5.heap.size w5 w6 := b6
      have BB : Below w2.drew.heap.size w2.drew w6 := b5.trans (b56.mono hb5)
      have hN : w2.drew.heap.size ≤ w5.heap.size := hb5
      refine tk 16 (some 11) (.int .i64 L) rfl rfl (by kernel_rfl) (by kernel_rfl) (by kernel_rfl) (fun _ _ _ h => h) (.inl ⟨by rfl, fun _ _ => by go_simp⟩) S2 ?_
      simp only [Act.put, List.setIfInBounds_toArray, List.set_cons_zero, List.set_cons_succ]
      refine rd_gst 17 0 (enco lfL) 26 (by kernel_rfl) rfl rfl rfl rfl rfl v6 (by show 0 + 3 ≤ 3; omega) (by rw [size26]; rfl) (O6.enco_one _) rfl ?_
      intro w7 v7 b7 o7 s7
      have BC : Below w2.drew.heap.size w2.drew w7 := BB.trans (b7.mono hN)
      have S3 : Wk w7 K' base g x m l := Q2.out.below BC
      refine ⟨S3, ?_⟩
      refine tk 18 (some 13) (.int .i64 0) rfl rfl (by kernel_rfl) (by kernel_rfl) (by kernel_rfl) (fun _ _ _ h => h) (.inl ⟨by rfl, fun _ _ => by go_simp⟩) S3 ?_
      simp only [Act.put, List.setIfInBounds_toArray, List.set_cons_zero, List.set_cons_succ]
      refine wpAnyH_done (by kernel_rfl) ?_ _
      go_wp2_with fail
      go_meet
      exact ⟨_, rfl, rfl, rfl, hid S3, hid (k2.out.trans ((Q2.out.keptb BC).mono hj)), hid (L2.out.below BC (L2.out.lt (by show 0 < 4; omega)))⟩
    · simp only [Act.put, List.setIfInBounds_toArray, List.set_cons_zero, List.set_cons_succ]
      have S1 : Wk w5 K' base g x m l := Q2.out.below b5
      refine rd_cl 10 (some 43) 91 #[ov x.o, .int .i64 m.l] _ (by kernel_rfl) rfl rfl (by unfold execOp; simp [go_sem] <;> rfl) (HR4.out _) rfl ?_
      intro w6 b6
      have S2 : Wk w6 K' base g x m l := S1.below b6
      refine ⟨S2, ?_⟩
      simp only [Act.put, List.setIfInBounds_toArray, List.set_cons_zero, List.set_cons_succ]
      refine tk 11 (some 32) (.tuple #[.int .i64 L, ov lfL, .int .i64 0]) rfl rfl (by kernel_rfl) (by kernel_rfl) (by kernel_rfl) (fun _ _ _ h => h) (.inl ⟨by rfl, fun _ _ => by go_simp⟩) S2 ?_
      simp only [Act.put, List.setIfInBounds_toArray, List.set_cons_zero, List.set_cons_succ]
      refine tk 12 (some 44) (.int .i64 L) rfl rfl (by kernel_rfl) (by kernel_rfl) (by kernel_rfl) (fun _ _ _ h => h) (.inl ⟨by rfl, fun _ _ => by go_simp⟩) S2 ?_
      simp only [Act.put, List.setIfInBounds_toArray, List.set_cons_zero, List.set_cons_succ]
      refine tk 13 (some 45) (ov lfL) rfl rfl (by kernel_rfl) (by kernel_rfl) (by kernel_rfl) (fun _ _ _ h => h) (.inl ⟨by rfl, fun _ _ => by go_simp⟩) S2 ?_
      simp only [Act.put, List.setIfInBounds_toArray, List.set_cons_zero, List.set_cons_succ]
      refine tk 14 (some 46) (.int .i64 0) rfl rfl (by kernel_rfl) (by kernel_rfl) (by kernel_rfl) (fun _ _ _ h => h) (.inl ⟨by rfl, fun _ _ => by go_simp⟩) S2 ?_
      simp only [Act.put, List.setIfInBounds_toArray, List.set_cons_zero, List.set_cons_succ]
      have v6 : Var w6 w2.drew.heap.size (enco oz) := v5.below b6 (v5.lt (by show 0 < 3; omega))
      have BB : Below w2.drew.heap.size w2.drew w6 := b5.trans (b6.mono b5.size)
      have hN : w2.drew.heap.size ≤ w2.drew.heap.size := Nat.le_refl _
      refine tk 16 (some 11) (.int .i64 L) rfl rfl (by kernel_rfl) (by kernel_rfl) (by kernel_rfl) (fun _ _ _ h => h) (.inl ⟨by rfl, fun _ _ => by go_simp⟩) S2 ?_
      simp only [Act.put, List.setIfInBounds_toArray, List.set_cons_zero, List.set_cons_succ]
      refine rd_gst 17 0 (enco lfL) 26 (by kernel_rfl) rfl rfl rfl rfl rfl v6 (by show 0 + 3 ≤ 3; omega) (by rw [size26]; rfl) (O6.enco_one _) rfl ?_
      intro w7 v7 b7 o7 s7
      have BC : Below w2.drew.heap.size w2.drew w7 := BB.trans (b7.mono hN)
      have S3 : Wk w7 K' base g x m l := Q2.out.below BC
      refine ⟨S3, ?_⟩
      refine tk 18 (some 13) (.int .i64 0) rfl rfl (by kernel_rfl) (by kernel_rfl) (by kernel_rfl) (fun _ _ _ h => h) (.inl ⟨by rfl, fun _ _ => by go_simp⟩) S3 ?_
      simp only [Act.put, List.setIfInBounds_toArray, List.set_cons_zero, List.set_cons_succ]
      refine wpAnyH_done (by kernel_rfl) ?_ _
      go_wp2_with fail
      go_meet
      exact ⟨_, rfl, rfl, rfl, hid S3, hid (k2.out.trans ((Q2.out.keptb BC).mono hj)), hid (L2.out.below BC (L2.out.lt (by show 0 < 4; omega)))⟩
  clear W2 K2 V2 d1 HR4
  obtain ⟨p12, rfl, rfl, rfl, W2, K2, V2⟩ := hcut
  go_wp2_with fail
  go_cut [14, 15, 16] (fun v11 v12 v13 wx => ∃ p, v11 = .int .i64 N ∧ v12 = .pointer (some ⟨p, 0, none⟩) ∧ v13 = .int .i64 0 ∧ Hid (Wk wx K' base g x m l) ∧ Hid (Kept K w wx) ∧ Hid (Var wx b (encf f)))
  case first =>
    have Q2 := hid W2.out.drew
    have k2 := hid (K2.out.trans ((W2.out.keptb (Below.refl _ _).drew).mono hj))
    have L2 := hid V2.out.drew
    have S0 : Wk wc.drew K' base g x m l := Q2.out
    refine wp_region_held_drew (S := fun w' => Wk w' K' base g x m l) (by kernel_rfl) S0 (fun _ => ?_)
    refine tk 0 (some 48) (.pointer (some ⟨g, 0, none⟩)) rfl rfl (by kernel_rfl) (by kernel_rfl) (by kernel_rfl) (fun _ _ _ h => h) (.inl ⟨by rfl, fun _ _ => by go_simp⟩) S0 ?_
    simp only [Act.put, List.setIfInBounds_toArray, List.set_cons_zero, List.set_cons_succ]
    refine tk 1 (some 49) (.pointer (some ⟨g, 0, none⟩)) rfl rfl (by kernel_rfl) (by kernel_rfl) (by kernel_rfl) (fun _ _ _ h => h) (.inl ⟨by rfl, fun _ _ => by go_simp⟩) S0 ?_
    simp only [Act.put, List.setIfInBounds_toArray, List.set_cons_zero, List.set_cons_succ]
    refine tk 2 (some 50) (.pointer (some ⟨g, 0, none⟩)) rfl rfl (by kernel_rfl) (by kernel_rfl) (by kernel_rfl) (fun _ _ _ h => h) (.inl ⟨by rfl, fun _ _ => by go_simp⟩) S0 ?_
    simp only [Act.put, List.setIfInBounds_toArray, List.set_cons_zero, List.set_cons_succ]
    refine tk 3 (some 51) (.pointer (some ⟨g, 4, none⟩)) rfl rfl (by kernel_rfl) (by kernel_rfl) (by kernel_rfl) (fun _ _ _ h => h) (.inl ⟨by rfl, fun _ _ => by go_simp⟩) S0 ?_
    simp only [Act.put, List.setIfInBounds_toArray, List.set_cons_zero, List.set_cons_succ]
    refine tk 4 (some 52) (ov x.o) rfl rfl (by kernel_rfl) (by kernel_rfl) (by kernel_rfl) (fun _ _ _ h => h) (ylo rfl rfl (fun w h => h.osc) rfl) S0 ?_
    simp only [Act.put, List.setIfInBounds_toArray, List.set_cons_zero, List.set_cons_succ]
    refine tk 5 (some 53) (.pointer (some ⟨g, 0, none⟩)) rfl rfl (by kernel_rfl) (by kernel_rfl) (by kernel_rfl) (fun _ _ _ h => h) (.inl ⟨by rfl, fun _ _ => by go_simp⟩) S0 ?_
    simp only [Act.put, List.setIfInBounds_toArray, List.set_cons_zero, List.set_cons_succ]
    refine tk 6 (some 54) (.pointer (some ⟨g, 0, none⟩)) rfl rfl (by kernel_rfl) (by kernel_rfl) (by kernel_rfl) (fun _ _ _ h => h) (.inl ⟨by rfl, fun _ _ => by go_simp⟩) S0 ?_
    simp only [Act.put, List.setIfInBounds_toArray, List.set_cons_zero, List.set_cons_succ]
    refine tk 7 (some 55) (.pointer (some ⟨g, 14, none⟩)) rfl rfl (by kernel_rfl) (by kernel_rfl) (by kernel_rfl) (fun _ _ _ h => h) (.inl ⟨by rfl, fun _ _ => by go_simp⟩) S0 ?_
    simp only [Act.put, List.setIfInBounds_toArray, List.set_cons_zero, List.set_cons_succ]
    refine tk 8 (some 56) (.pointer (some ⟨g, 15, none⟩)) rfl rfl (by kernel_rfl) (by kernel_rfl) (by kernel_rfl) (fun _ _ _ h => h) (.inl ⟨by rfl, fun _ _ => by go_simp⟩) S0 ?_
    simp only [Act.put, List.setIfInBounds_toArray, List.set_cons_zero, List.set_cons_succ]
    refine tk 9 (some 57) (.int .i64 m.s) rfl rfl (by kernel_rfl) (by kernel_rfl) (by kernel_rfl) (fun _ _ _ h => h) (yl1 2 (p := ⟨g, 15, none⟩) (v := .int .i64 m.s) rfl rfl Tryz.isAgg2 (fun w h => h.cell (j := 15) fun _ _ _ _ _ _ => rfl) rfl) S0 ?_
    simp only [Act.put, List.setIfInBounds_toArray, List.set_cons_zero, List.set_cons_succ]
    refine rd_ca 10 15 (some 58) (some 15) 91 #[ov x.o, .int .i64 m.s] _ 26 (enco oz) (by kernel_rfl) rfl rfl rfl rfl (by unfold execOp; simp [go_sem] <;> rfl) (HR5.out _) zero26 rfl rfl rfl (fun w5 b5 => ⟨(Q2.out.below b5), ?_⟩) (fun w5 v5 b5 s5 => ⟨(Q2.out.below b5), ?_⟩)
    · simp only [Act.put, List.setIfInBounds_toArray, List.set_cons_zero, List.set_cons_succ]
      have S1 : Wk w5 K' base g x m l := Q2.out.below b5
      refine tk 11 (some 47) (.tuple #[.int .i64 N, ov lfN, .int .i64 0]) rfl rfl (by kernel_rfl) (by kernel_rfl) (by kernel_rfl) (fun _ _ _ h => h) (.inl ⟨by rfl, fun _ _ => by go_simp⟩) S1 ?_
      simp only [Act.put, List.setIfInBounds_toArray, List.set_cons_zero, List.set_cons_succ]
      refine tk 12 (some 59) (.int .i64 N) rfl rfl (by kernel_rfl) (by kernel_rfl) (by kernel_rfl) (fun _ _ _ h => h) (.inl ⟨by rfl, fun _ _ => by go_simp⟩) S1 ?_
      simp only [Act.put, List.setIfInBounds_toArray, List.set_cons_zero, List.set_cons_succ]
      refine tk 13 (some 60) (ov lfN) rfl rfl (by kernel_rfl) (by kernel_rfl) (by kernel_rfl) (fun _ _ _ h => h) (.inl ⟨by rfl, fun _ _ => by go_simp⟩) S1 ?_
      simp only [Act.put, List.setIfInBounds_toArray, List.set_cons_zero, List.set_cons_succ]
      refine tk 14 (some 61) (.int .i64 0) rfl rfl (by kernel_rfl) (by kernel_rfl) (by kernel_rfl) (fun _ _ _ h => h) (.inl ⟨by rfl, fun _ _ => by go_simp⟩) S1 ?_
      simp only [Act.put, List.setIfInBounds_toArray, List.set_cons_zero, List.set_cons_succ]
      refine rd_al 15 (some 15) 26 (enco oz) zero26 (by kernel_rfl) rfl rfl rfl rfl ?_
      intro w6 v6 b6 s6
      have S2 : Wk w6 K' base g x m l := S1.below b6
      refine ⟨S2, ?_⟩
      simp only [Act.put, List.setIfInBounds_toArray, List.set_cons_zero, List.set_cons_succ]
      have hb5 := b5.size
      have b56 : Below w5.heap.size w5 w6 := b6
      have BB : Below wc.drew.heap.size wc.drew w6 := b5.trans (b56.mono hb5)
      have hN : wc.drew.heap.size ≤ w5.heap.size := hb5
      refine tk 16 (some 14) (.int .i64 N) rfl rfl (by kernel_rfl) (by kernel_rfl) (by kernel_rfl) (fun _ _ _ h => h) (.inl ⟨by rfl, fun _ _ => by go_simp⟩) S2 ?_
      simp only [Act.put, List.setIfInBounds_toArray, List.set_cons_zero, List.set_cons_succ]
      refine rd_gst 17 0 (enco lfN) 26 (by kernel_rfl) rfl rfl rfl rfl rfl v6 (by show 0 + 3 ≤ 3; omega) (by rw [size26]; rfl) (O6.enco_one _) rfl ?_
      intro w7 v7 b7 o7 s7
      have BC : Below wc.drew.heap.size wc.drew w7 := BB.trans (b7.mono hN)
      have S3 : Wk w7 K' base g x m l := Q2.out.below BC
      refine ⟨S3, ?_⟩
      refine tk 18 (some 16) (.int .i64 0) rfl rfl (by kernel_rfl) (by kernel_rfl) (by kernel_rfl) (fun _ _ _ h => h) (.inl ⟨by rfl, fun _ _ => by go_simp⟩) S3 ?_
      simp only [Act.put, List.setIfInBounds_toArray, List.set_cons_zero, List.set_cons_succ]
      refine wpAnyH_done (by kernel_rfl) ?_ _
      go_wp2_with fail
      go_meet
      exact ⟨_, rfl, rfl, rfl, hid S3, hid (k2.out.trans ((Q2.out.keptb BC).mono hj)), hid (L2.out.below BC (L2.out.lt (by show 0 < 4; omega)))⟩
    · simp only [Act.put, List.setIfInBounds_toArray, List.set_cons_zero, List.set_cons_succ]
      have S1 : Wk w5 K' base g x m l := Q2.out.below b5
      refine rd_cl 10 (some 58) 91 #[ov x.o, .int .i64 m.s] _ (by kernel_rfl) rfl rfl (by unfold execOp; simp [go_sem] <;> rfl) (HR5.out _) rfl ?_
      intro w6 b6
      have S2 : Wk w6 K' base g x m l := S1.below b6
      refine ⟨S2, ?_⟩
      simp only [Act.put, List.setIfInBounds_toArray, List.set_cons_zero, List.set_cons_succ]
      refine tk 11 (some 47) (.tuple #[.int .i64 N, ov lfN, .int .i64 0]) rfl rfl (by kernel_rfl) (by kernel_rfl) (by kernel_rfl) (fun _ _ _ h => h) (.inl ⟨by rfl, fun _ _ => by go_simp⟩) S2 ?_
      simp only [Act.put, List.setIfInBounds_toArray, List.set_cons_zero, List.set_cons_succ]
      refine tk 12 (some 59) (.int .i64 N) rfl rfl (by kernel_rfl) (by kernel_rfl) (by kernel_rfl) (fun _ _ _ h => h) (.inl ⟨by rfl, fun _ _ => by go_simp⟩) S2 ?_
      simp only [Act.put, List.setIfInBounds_toArray, List.set_cons_zero, List.set_cons_succ]
      refine tk 13 (some 60) (ov lfN) rfl rfl (by kernel_rfl) (by kernel_rfl) (by kernel_rfl) (fun _ _ _ h => h) (.inl ⟨by rfl, fun _ _ => by go_simp⟩) S2 ?_
      simp only [Act.put, List.setIfInBounds_toArray, List.set_cons_zero, List.set_cons_succ]
      refine tk 14 (some 61) (.int .i64 0) rfl rfl (by kernel_rfl) (by kernel_rfl) (by kernel_rfl) (fun _ _ _ h => h) (.inl ⟨by rfl, fun _ _ => by go_simp⟩) S2 ?_
      simp only [Act.put, List.setIfInBounds_toArray, List.set_cons_zero, List.set_cons_succ]
      have v6 : Var w6 wc.drew.heap.size (enco oz) := v5.below b6 (v5.lt (by show 0 < 3; omega))
      have BB : Below wc.drew.heap.size wc.drew w6 := b5.trans (b6.mono b5.size)
      have hN : wc.drew.heap.size ≤ wc.drew.heap.size := Nat.le_refl _
      refine tk 16 (some 14) (.int .i64 N) rfl rfl (by kernel_rfl) (by kernel_rfl) (by kernel_rfl) (fun _ _ _ h => h) (.inl ⟨by rfl, fun _ _ => by go_simp⟩) S2 ?_
      simp only [Act.put, List.setIfInBounds_toArray, List.set_cons_zero, List.set_cons_succ]
      refine rd_gst 17 0 (enco lfN) 26 (by kernel_rfl) rfl rfl rfl rfl rfl v6 (by show 0 + 3 ≤ 3; omega) (by rw [size26]; rfl) (O6.enco_one _) rfl ?_
      intro w7 v7 b7 o7 s7
      have BC : Below wc.drew.heap.size wc.drew w7 := BB.trans (b7.mono hN)
      have S3 : Wk w7 K' base g x m l := Q2.out.below BC
      refine ⟨S3, ?_⟩
      refine tk 18 (some 16) (.int .i64 0) rfl rfl (by kernel_rfl) (by kernel_rfl) (by kernel_rfl) (fun _ _ _ h => h) (.inl ⟨by rfl, fun _ _ => by go_simp⟩) S3 ?_
      simp only [Act.put, List.setIfInBounds_toArray, List.set_cons_zero, List.set_cons_succ]
      refine wpAnyH_done (by kernel_rfl) ?_ _
      go_wp2_with fail
      go_meet
      exact ⟨_, rfl, rfl, rfl, hid S3, hid (k2.out.trans ((Q2.out.keptb BC).mono hj)), hid (L2.out.below BC (L2.out.lt (by show 0 < 4; omega)))⟩
  clear W2 K2 V2 HR5
  obtain ⟨p15, rfl, rfl, rfl, W4, K4, V4⟩ := hcut
  go_wp2_with fail
  go_cut [0] (fun v0 wx => v0 = .pointer (some ⟨g, 0, none⟩) ∧ Hid (Wk wx K' base g (⟨x.id, 2, (f.s : Int), st, x.o, 0, Q, ⟨1, 0⟩, [0], false, 1⟩ : Nd) m l) ∧ Hid (Kept K w wx) ∧ Hid (Var wx b (encf f)))
  case first =>
    have K4d := hid (K4.out.trans ((W4.out.keptb (Below.refl _ _).drew).mono hj))
    have L4 := hid V4.out.drew
    obtain ⟨A, n, c, BB, kk, dd, U4⟩ := W4.out.drew
    have U4 := hid U4
    have S4 : SJ g b x f wc.drew := SJ.of ⟨_, _, _, _, _, _, U4.out⟩ rfl rfl L4.out
    refine wp_region_held_drew (S := SJ g b x f) (by kernel_rfl) S4 (fun _ => ?_)
    refine tk 0 (some 74) (.pointer (some ⟨g, 0, none⟩)) rfl rfl (by kernel_rfl) (by kernel_rfl) (by kernel_rfl) (fun _ _ _ h => h) (.inl ⟨by rfl, fun _ _ => by go_simp⟩) S4 ?_
    simp only [Act.put, List.setIfInBounds_toArray, List.set_cons_zero, List.set_cons_succ]
    refine tk 1 (some 75) (.pointer (some ⟨g, 0, none⟩)) rfl rfl (by kernel_rfl) (by kernel_rfl) (by kernel_rfl) (fun _ _ _ h => h) (.inl ⟨by rfl, fun _ _ => by go_simp⟩) S4 ?_
    simp only [Act.put, List.setIfInBounds_toArray, List.set_cons_zero, List.set_cons_succ]
    refine tk 2 (some 76) (.pointer (some ⟨g, 0, none⟩)) rfl rfl (by kernel_rfl) (by kernel_rfl) (by kernel_rfl) (fun _ _ _ h => h) (.inl ⟨by rfl, fun _ _ => by go_simp⟩) S4 ?_
    simp only [Act.put, List.setIfInBounds_toArray, List.set_cons_zero, List.set_cons_succ]
    refine tk 3 (some 77) (.pointer (some ⟨g, 0, none⟩)) rfl rfl (by kernel_rfl) (by kernel_rfl) (by kernel_rfl) (fun _ _ _ h => h) (.inl ⟨by rfl, fun _ _ => by go_simp⟩) S4 ?_
    simp only [Act.put, List.setIfInBounds_toArray, List.set_cons_zero, List.set_cons_succ]
    refine tk 4 (some 78) (.pointer (some ⟨g, 0, none⟩)) rfl rfl (by kernel_rfl) (by kernel_rfl) (by kernel_rfl) (fun _ _ _ h => h) (.inl ⟨by rfl, fun _ _ => by go_simp⟩) S4 ?_
    simp only [Act.put, List.setIfInBounds_toArray, List.set_cons_zero, List.set_cons_succ]
    refine tk 5 (some 79) (.int .i64 x.id) rfl rfl (by kernel_rfl) (by kernel_rfl) (by kernel_rfl) (fun _ _ _ h => h) (yl1 3 (p := ⟨g, 0, none⟩) (v := .int .i64 x.id) rfl rfl Tryz.isAgg3 (fun w h => h.1) rfl) S4 ?_
    simp only [Act.put, List.setIfInBounds_toArray, List.set_cons_zero, List.set_cons_succ]
    refine tk 6 (some 80) (.pointer (some ⟨b, 2, none⟩)) rfl rfl (by kernel_rfl) (by kernel_rfl) (by kernel_rfl) (fun _ _ _ h => h) (.inl ⟨by rfl, fun _ _ => by go_simp⟩) S4 ?_
    simp only [Act.put, List.setIfInBounds_toArray, List.set_cons_zero, List.set_cons_succ]
    refine tk 7 (some 81) (.int .u64 (f.s : Int)) rfl rfl (by kernel_rfl) (by kernel_rfl) (by kernel_rfl) (fun _ _ _ h => h) (yl1 24 (p := ⟨b, 2, none⟩) (v := .int .u64 (f.s : Int)) rfl rfl Tryz.isAgg24 (fun w h => h.2.2.cell rfl) rfl) S4 ?_
    simp only [Act.put, List.setIfInBounds_toArray, List.set_cons_zero, List.set_cons_succ]
    refine tk 8 (some 82) (.int .i64 st) rfl rfl (by kernel_rfl) (by kernel_rfl) (by kernel_rfl) (fun _ _ _ h => h) (.inl ⟨by rfl, fun _ _ => by go_simp⟩) S4 ?_
    simp only [Act.put, List.setIfInBounds_toArray, List.set_cons_zero, List.set_cons_succ]
    refine tk 9 (some 83) (.pointer (some ⟨g, 0, none⟩)) rfl rfl (by kernel_rfl) (by kernel_rfl) (by kernel_rfl) (fun _ _ _ h => h) (.inl ⟨by rfl, fun _ _ => by go_simp⟩) S4 ?_
    simp only [Act.put, List.setIfInBounds_toArray, List.set_cons_zero, List.set_cons_succ]
    refine tk 10 (some 84) (.pointer (some ⟨g, 0, none⟩)) rfl rfl (by kernel_rfl) (by kernel_rfl) (by kernel_rfl) (fun _ _ _ h => h) (.inl ⟨by rfl, fun _ _ => by go_simp⟩) S4 ?_
    simp only [Act.put, List.setIfInBounds_toArray, List.set_cons_zero, List.set_cons_succ]
    refine tk 11 (some 85) (.pointer (some ⟨g, 0, none⟩)) rfl rfl (by kernel_rfl) (by kernel_rfl) (by kernel_rfl) (fun _ _ _ h => h) (.inl ⟨by rfl, fun _ _ => by go_simp⟩) S4 ?_
    simp only [Act.put, List.setIfInBounds_toArray, List.set_cons_zero, List.set_cons_succ]
    refine tk 12 (some 86) (.pointer (some ⟨g, 4, none⟩)) rfl rfl (by kernel_rfl) (by kernel_rfl) (by kernel_rfl) (fun _ _ _ h => h) (.inl ⟨by rfl, fun _ _ => by go_simp⟩) S4 ?_
    simp only [Act.put, List.setIfInBounds_toArray, List.set_cons_zero, List.set_cons_succ]
    refine tk 13 (some 87) (.agg #[.int .i64 x.o.p, .int .i64 x.o.d, .int .i64 x.o.r]) rfl rfl (by kernel_rfl) (by kernel_rfl) (by kernel_rfl) (fun _ _ _ h => h) (yls 26 [.int .i64 x.o.p, .int .i64 x.o.d, .int .i64 x.o.r] rfl rfl (fun w h => h.2.1) Tryz.underlying26 rfl size26 rfl) S4 ?_
    simp only [Act.put, List.setIfInBounds_toArray, List.set_cons_zero, List.set_cons_succ]
    refine tk 14 (some 88) (.pointer (some ⟨b, 3, none⟩)) rfl rfl (by kernel_rfl) (by kernel_rfl) (by kernel_rfl) (fun _ _ _ h => h) (.inl ⟨by rfl, fun _ _ => by go_simp⟩) S4 ?_
    simp only [Act.put, List.setIfInBounds_toArray, List.set_cons_zero, List.set_cons_succ]
    refine tk 15 (some 89) (.int .u16 (f.m : Int)) rfl rfl (by kernel_rfl) (by kernel_rfl) (by kernel_rfl) (fun _ _ _ h => h) (yl1 27 (p := ⟨b, 3, none⟩) (v := .int .u16 (f.m : Int)) rfl rfl Tryz.isAgg27 (fun w h => h.2.2.cell rfl) rfl) S4 ?_
    simp only [Act.put, List.setIfInBounds_toArray, List.set_cons_zero, List.set_cons_succ]
    refine tk 16 (some 90) (.pointer (some ⟨b, 1, none⟩)) rfl rfl (by kernel_rfl) (by kernel_rfl) (by kernel_rfl) (fun _ _ _ h => h) (.inl ⟨by rfl, fun _ _ => by go_simp⟩) S4 ?_
    simp only [Act.put, List.setIfInBounds_toArray, List.set_cons_zero, List.set_cons_succ]
    refine tk 17 (some 91) (.int .i64 f.f) rfl rfl (by kernel_rfl) (by kernel_rfl) (by kernel_rfl) (fun _ _ _ h => h) (yl1 3 (p := ⟨b, 1, none⟩) (v := .int .i64 f.f) rfl rfl Tryz.isAgg3 (fun w h => h.2.2.cell rfl) rfl) S4 ?_
    simp only [Act.put, List.setIfInBounds_toArray, List.set_cons_zero, List.set_cons_succ]
    refine tk 19 (some 93) (.pointer (some ⟨g, 0, none⟩)) rfl rfl (by kernel_rfl) (by kernel_rfl) (by kernel_rfl) (fun _ _ _ h => h) (.inl ⟨by rfl, fun _ _ => by go_simp⟩) S4 ?_
    simp only [Act.put, List.setIfInBounds_toArray, List.set_cons_zero, List.set_cons_succ]
    refine tk 20 (some 94) (.pointer (some ⟨g, 0, none⟩)) rfl rfl (by kernel_rfl) (by kernel_rfl) (by kernel_rfl) (fun _ _ _ h => h) (.inl ⟨by rfl, fun _ _ => by go_simp⟩) S4 ?_
    simp only [Act.put, List.setIfInBounds_toArray, List.set_cons_zero, List.set_cons_succ]
    refine tk 21 (some 95) (.pointer (some ⟨g, 0, none⟩)) rfl rfl (by kernel_rfl) (by kernel_rfl) (by kernel_rfl) (fun _ _ _ h => h) (.inl ⟨by rfl, fun _ _ => by go_simp⟩) S4 ?_
    simp only [Act.put, List.setIfInBounds_toArray, List.set_cons_zero, List.set_cons_succ]
    refine tk 22 (some 96) (.pointer (some ⟨g, 0, none⟩)) rfl rfl (by kernel_rfl) (by kernel_rfl) (by kernel_rfl) (fun _ _ _ h => h) (.inl ⟨by rfl, fun _ _ => by go_simp⟩) S4 ?_
    simp only [Act.put, List.setIfInBounds_toArray, List.set_cons_zero, List.set_cons_succ]
    refine tk 23 (some 97) (.int .i64 x.id) rfl rfl (by kernel_rfl) (by kernel_rfl) (by kernel_rfl) (fun _ _ _ h => h) (yl1 3 (p := ⟨g, 0, none⟩) (v := .int .i64 x.id) rfl rfl Tryz.isAgg3 (fun w h => h.1) rfl) S4 ?_
    simp only [Act.put, List.setIfInBounds_toArray, List.set_cons_zero, List.set_cons_succ]
    refine rd_cb 18 26 (some 92) (some 100) 75 #[.int .u16 (f.m : Int), .int .i64 f.f] _ 0 base (by kernel_rfl) rfl rfl rfl rfl (by unfold execOp; simp [go_sem] <;> rfl) (HW.out _) rfl rfl rfl rfl U4.out.bl ?_ ?_
    · intro wq hwq
      subst hwq
      refine ⟨S4, ?_⟩
      simp only [Act.put, List.setIfInBounds_toArray, List.set_cons_zero, List.set_cons_succ]
      refine rd_cb 24 26 (some 98) (some 100) 92 #[.int .u16 (P : Int), .int .i64 x.id] _ 0 base (by kernel_rfl) rfl rfl rfl rfl (by unfold execOp; simp [go_sem] <;> rfl) (HU.out _) rfl rfl rfl rfl U4.out.bl ?_ ?_
      · intro wq hwq
        subst hwq
        refine ⟨S4, ?_⟩
        simp only [Act.put, List.setIfInBounds_toArray, List.set_cons_zero, List.set_cons_succ]
        refine rd_cb 25 26 (some 99) (some 100) 76 #[] _ 0 base (by kernel_rfl) rfl rfl rfl rfl (by unfold execOp; simp [go_sem] <;> rfl) (one_lit _) rfl rfl rfl rfl U4.out.bl ?_ ?_
        · intro w5 b5
          have P5 : WkU w5 K' base g x m l A n c BB kk dd ∧ Var w5 b (encf f) := ⟨U4.out.below b5, L4.out.below b5 (L4.out.lt (by show 0 < 4; omega))⟩
          have S5 : SJ g b x f w5 := SJ.of ⟨_, _, _, _, _, _, P5.1⟩ rfl rfl P5.2
          refine ⟨S5, ?_⟩
          simp only [Act.put, List.setIfInBounds_toArray, List.set_cons_zero, List.set_cons_succ]
          refine rd_bs 26 (some 100) 0 base (by kernel_rfl) rfl rfl rfl rfl rfl P5.1.bl ?_
          intro w6 A1 N6 b6
          have B6 : Below wc.drew.heap.size wc.drew w6 := b5.trans (b6.mono b5.size)
          have P6 : WkU w6 K' base g x m l A n c BB kk dd ∧ Var w6 b (encf f) := ⟨U4.out.below B6, L4.out.below B6 (L4.out.lt (by show 0 < 4; omega))⟩
          have S6 : SJ g b x f w6 := SJ.of ⟨_, _, _, _, _, _, P6.1⟩ rfl rfl P6.2
          refine ⟨S6, ?_⟩
          simp only [Act.put, List.setIfInBounds_toArray, List.set_cons_zero, List.set_cons_succ]
          refine tk 27 (some 101) (.agg #[.int .i64 x.id, .int .i64 2, .int .u64 (f.s : Int), .int .i64 st, .int .i64 x.o.p, .int .i64 x.o.d, .int .i64 x.o.r, .int .i64 0, .int .u16 (Q : Int), .int .i64 1, .int .i64 0, .slice A1 1 1, .bool false, .int .i64 1]) rfl rfl (by kernel_rfl) (by kernel_rfl) (by kernel_rfl) (fun _ _ _ h => h) (.inl ⟨by rfl, fun _ _ => by go_simp⟩) S6 ?_
          simp only [Act.put, List.setIfInBounds_toArray, List.set_cons_zero, List.set_cons_succ]
          refine tk 28 (some 102) (.pointer (some ⟨g, 0, none⟩)) rfl rfl (by kernel_rfl) (by kernel_rfl) (by kernel_rfl) (fun _ _ _ h => h) (.inl ⟨by rfl, fun _ _ => by go_simp⟩) S6 ?_
          simp only [Act.put, List.setIfInBounds_toArray, List.set_cons_zero, List.set_cons_succ]
          refine tk 29 (some 103) (.pointer (some ⟨g, 0, none⟩)) rfl rfl (by kernel_rfl) (by kernel_rfl) (by kernel_rfl) (fun _ _ _ h => h) (.inl ⟨by rfl, fun _ _ => by go_simp⟩) S6 ?_
          simp only [Act.put, List.setIfInBounds_toArray, List.set_cons_zero, List.set_cons_succ]
          obtain ⟨p1, hp1, hq1⟩ := N6.2
          have hsz : wc.drew.heap.size ≤ p1 := Nat.le_trans b5.size hq1
          have hA : ∀ b, ob A1 = some b → ¬ K' b ∧ b ≠ g ∧ ob BB ≠ some b := fun q hq => by
            have e : p1 = q := by rw [hp1] at hq; injection hq
            subst e
            exact ⟨fun hk => by have := U4.out.kl p1 hk; omega, by have := U4.out.lt; omega, fun e => by have := (U4.out.acts.lt e).2; omega⟩
          refine rd_wN 30 (⟨x.id, 2, (f.s : Int), st, x.o, 0, Q, ⟨1, 0⟩, [0], false, 1⟩ : Nd) (by kernel_rfl) rfl rfl rfl rfl rfl rfl P6.1 N6.1 hA ?_
          intro w9 Q9 k9
          refine ⟨SJ.of Q9 rfl rfl (P6.2.same (k9.block b hb)), ?_⟩
          refine wpAnyH_done (by kernel_rfl) ?_ _
          go_wp2_with fail
          go_meet
          exact ⟨rfl, hid Q9, hid (K4d.out.trans ((Kept.of_below B6 U4.out.kl).trans k9 |>.mono hj)), hid (P6.2.same (k9.block b hb))⟩
        · intro w5 A1 N5 b5
          have P5 : WkU w5 K' base g x m l A n c BB kk dd ∧ Var w5 b (encf f) := ⟨U4.out.below b5, L4.out.below b5 (L4.out.lt (by show 0 < 4; omega))⟩
          have S5 : SJ g b x f w5 := SJ.of ⟨_, _, _, _, _, _, P5.1⟩ rfl rfl P5.2
          refine ⟨S5, ?_⟩
          simp only [Act.put, List.setIfInBounds_toArray, List.set_cons_zero, List.set_cons_succ]
          refine rd_cl 25 (some 99) 76 #[] _ (by kernel_rfl) rfl rfl (by unfold execOp; simp [go_sem] <;> rfl) (one_lit _) rfl ?_
          intro w6 b6
          have B6 : Below wc.drew.heap.size wc.drew w6 := b5.trans (b6.mono b5.size)
          have P6 : WkU w6 K' base g x m l A n c BB kk dd ∧ Var w6 b (encf f) := ⟨U4.out.below B6, L4.out.below B6 (L4.out.lt (by show 0 < 4; omega))⟩
          have S6 : SJ g b x f w6 := SJ.of ⟨_, _, _, _, _, _, P6.1⟩ rfl rfl P6.2
          have N6 := N5.below b6
          refine ⟨S6, ?_⟩
          simp only [Act.put, List.setIfInBounds_toArray, List.set_cons_zero, List.set_cons_succ]
          refine tk 27 (some 101) (.agg #[.int .i64 x.id, .int .i64 2, .int .u64 (f.s : Int), .int .i64 st, .int .i64 x.o.p, .int .i64 x.o.d, .int .i64 x.o.r, .int .i64 0, .int .u16 (Q : Int), .int .i64 1, .int .i64 0, .slice A1 1 1, .bool false, .int .i64 1]) rfl rfl (by kernel_rfl) (by kernel_rfl) (by kernel_rfl) (fun _ _ _ h => h) (.inl ⟨by rfl, fun _ _ => by go_simp⟩) S6 ?_
          simp only [Act.put, List.setIfInBounds_toArray, List.set_cons_zero, List.set_cons_succ]
          refine tk 28 (some 102) (.pointer (some ⟨g, 0, none⟩)) rfl rfl (by kernel_rfl) (by kernel_rfl) (by kernel_rfl) (fun _ _ _ h => h) (.inl ⟨by rfl, fun _ _ => by go_simp⟩) S6 ?_
          simp only [Act.put, List.setIfInBounds_toArray, List.set_cons_zero, List.set_cons_succ]
          refine tk 29 (some 103) (.pointer (some ⟨g, 0, none⟩)) rfl rfl (by kernel_rfl) (by kernel_rfl) (by kernel_rfl) (fun _ _ _ h => h) (.inl ⟨by rfl, fun _ _ => by go_simp⟩) S6 ?_
          simp only [Act.put, List.setIfInBounds_toArray, List.set_cons_zero, List.set_cons_succ]
          obtain ⟨p1, hp1, hq1⟩ := N6.2
          have hsz : wc.drew.heap.size ≤ p1 := Nat.le_trans (Nat.le_refl _) hq1
          have hA : ∀ b, ob A1 = some b → ¬ K' b ∧ b ≠ g ∧ ob BB ≠ some b := fun q hq => by
            have e : p1 = q := by rw [hp1] at hq; injection hq
            subst e
            exact ⟨fun hk => by have := U4.out.kl p1 hk; omega, by have := U4.out.lt; omega, fun e => by have := (U4.out.acts.lt e).2; omega⟩
          refine rd_wN 30 (⟨x.id, 2, (f.s : Int), st, x.o, 0, Q, ⟨1, 0⟩, [0], false, 1⟩ : Nd) (by kernel_rfl) rfl rfl rfl rfl rfl rfl P6.1 N6.1 hA ?_
          intro w9 Q9 k9
          refine ⟨SJ.of Q9 rfl rfl (P6.2.same (k9.block b hb)), ?_⟩
          refine wpAnyH_done (by kernel_rfl) ?_ _
          go_wp2_with fail
          go_meet
          exact ⟨rfl, hid Q9, hid (K4d.out.trans ((Kept.of_below B6 U4.out.kl).trans k9 |>.mono hj)), hid (P6.2.same (k9.block b hb))⟩
      · intro w5 A1 N5 b5
        have P5 : WkU w5 K' base g x m l A n c BB kk dd ∧ Var w5 b (encf f) := ⟨U4.out.below b5, L4.out.below b5 (L4.out.lt (by show 0 < 4; omega))⟩
        have S5 : SJ g b x f w5 := SJ.of ⟨_, _, _, _, _, _, P5.1⟩ rfl rfl P5.2
        refine ⟨S5, ?_⟩
        simp only [Act.put, List.setIfInBounds_toArray, List.set_cons_zero, List.set_cons_succ]
        refine rd_cl 24 (some 98) 92 #[.int .u16 (P : Int), .int .i64 x.id] _ (by kernel_rfl) rfl rfl (by unfold execOp; simp [go_sem] <;> rfl) (HU.out _) rfl ?_
        intro wq hwq
        subst hwq
        refine ⟨S5, ?_⟩
        simp only [Act.put, List.setIfInBounds_toArray, List.set_cons_zero, List.set_cons_succ]
        refine rd_cl 25 (some 99) 76 #[] _ (by kernel_rfl) rfl rfl (by unfold execOp; simp [go_sem] <;> rfl) (one_lit _) rfl ?_
        intro w6 b6
        have B6 : Below wc.drew.heap.size wc.drew w6 := b5.trans (b6.mono b5.size)
        have P6 : WkU w6 K' base g x m l A n c BB kk dd ∧ Var w6 b (encf f) := ⟨U4.out.below B6, L4.out.below B6 (L4.out.lt (by show 0 < 4; omega))⟩
        have S6 : SJ g b x f w6 := SJ.of ⟨_, _, _, _, _, _, P6.1⟩ rfl rfl P6.2
        have N6 := N5.below b6
        refine ⟨S6, ?_⟩
        simp only [Act.put, List.setIfInBounds_toArray, List.set_cons_zero, List.set_cons_succ]
        refine tk 27 (some 101) (.agg #[.int .i64 x.id, .int .i64 2, .int .u64 (f.s : Int), .int .i64 st, .int .i64 x.o.p, .int .i64 x.o.d, .int .i64 x.o.r, .int .i64 0, .int .u16 (Q : Int), .int .i64 1, .int .i64 0, .slice A1 1 1, .bool false, .int .i64 1]) rfl rfl (by kernel_rfl) (by kernel_rfl) (by kernel_rfl) (fun _ _ _ h => h) (.inl ⟨by rfl, fun _ _ => by go_simp⟩) S6 ?_
        simp only [Act.put, List.setIfInBounds_toArray, List.set_cons_zero, List.set_cons_succ]
        refine tk 28 (some 102) (.pointer (some ⟨g, 0, none⟩)) rfl rfl (by kernel_rfl) (by kernel_rfl) (by kernel_rfl) (fun _ _ _ h => h) (.inl ⟨by rfl, fun _ _ => by go_simp⟩) S6 ?_
        simp only [Act.put, List.setIfInBounds_toArray, List.set_cons_zero, List.set_cons_succ]
        refine tk 29 (some 103) (.pointer (some ⟨g, 0, none⟩)) rfl rfl (by kernel_rfl) (by kernel_rfl) (by kernel_rfl) (fun _ _ _ h => h) (.inl ⟨by rfl, fun _ _ => by go_simp⟩) S6 ?_
        simp only [Act.put, List.setIfInBounds_toArray, List.set_cons_zero, List.set_cons_succ]
        obtain ⟨p1, hp1, hq1⟩ := N6.2
        have hsz : wc.drew.heap.size ≤ p1 := Nat.le_trans (Nat.le_refl _) hq1
        have hA : ∀ b, ob A1 = some b → ¬ K' b ∧ b ≠ g ∧ ob BB ≠ some b := fun q hq => by
          have e : p1 = q := by rw [hp1] at hq; injection hq
          subst e
          exact ⟨fun hk => by have := U4.out.kl p1 hk; omega, by have := U4.out.lt; omega, fun e => by have := (U4.out.acts.lt e).2; omega⟩
        refine rd_wN 30 (⟨x.id, 2, (f.s : Int), st, x.o, 0, Q, ⟨1, 0⟩, [0], false, 1⟩ : Nd) (by kernel_rfl) rfl rfl rfl rfl rfl rfl P6.1 N6.1 hA ?_
        intro w9 Q9 k9
        refine ⟨SJ.of Q9 rfl rfl (P6.2.same (k9.block b hb)), ?_⟩
        refine wpAnyH_done (by kernel_rfl) ?_ _
        go_wp2_with fail
        go_meet
        exact ⟨rfl, hid Q9, hid (K4d.out.trans ((Kept.of_below B6 U4.out.kl).trans k9 |>.mono hj)), hid (P6.2.same (k9.block b hb))⟩
    · intro w5 A1 N5 b5
      have P5 : WkU w5 K' base g x m l A n c BB kk dd ∧ Var w5 b (encf f) := ⟨U4.out.below b5, L4.out.below b5 (L4.out.lt (by show 0 < 4; omega))⟩
      have S5 : SJ g b x f w5 := SJ.of ⟨_, _, _, _, _, _, P5.1⟩ rfl rfl P5.2
      refine ⟨S5, ?_⟩
      simp only [Act.put, List.setIfInBounds_toArray, List.set_cons_zero, List.set_cons_succ]
      refine rd_cl 18 (some 92) 75 #[.int .u16 (f.m : Int), .int .i64 f.f] _ (by kernel_rfl) rfl rfl (by unfold execOp; simp [go_sem] <;> rfl) (HW.out _) rfl ?_
      intro wq hwq
      subst hwq
      refine ⟨S5, ?_⟩
      simp only [Act.put, List.setIfInBounds_toArray, List.set_cons_zero, List.set_cons_succ]
      refine rd_cl 24 (some 98) 92 #[.int .u16 (P : Int), .int .i64 x.id] _ (by kernel_rfl) rfl rfl (by unfold execOp; simp [go_sem] <;> rfl) (HU.out _) rfl ?_
      intro wq hwq
      subst hwq
      refine ⟨S5, ?_⟩
      simp only [Act.put, List.setIfInBounds_toArray, List.set_cons_zero, List.set_cons_succ]
      refine rd_cl 25 (some 99) 76 #[] _ (by kernel_rfl) rfl rfl (by unfold execOp; simp [go_sem] <;> rfl) (one_lit _) rfl ?_
      intro w6 b6
      have B6 : Below wc.drew.heap.size wc.drew w6 := b5.trans (b6.mono b5.size)
      have P6 : WkU w6 K' base g x m l A n c BB kk dd ∧ Var w6 b (encf f) := ⟨U4.out.below B6, L4.out.below B6 (L4.out.lt (by show 0 < 4; omega))⟩
      have S6 : SJ g b x f w6 := SJ.of ⟨_, _, _, _, _, _, P6.1⟩ rfl rfl P6.2
      have N6 := N5.below b6
      refine ⟨S6, ?_⟩
      simp only [Act.put, List.setIfInBounds_toArray, List.set_cons_zero, List.set_cons_succ]
      refine tk 27 (some 101) (.agg #[.int .i64 x.id, .int .i64 2, .int .u64 (f.s : Int), .int .i64 st, .int .i64 x.o.p, .int .i64 x.o.d, .int .i64 x.o.r, .int .i64 0, .int .u16 (Q : Int), .int .i64 1, .int .i64 0, .slice A1 1 1, .bool false, .int .i64 1]) rfl rfl (by kernel_rfl) (by kernel_rfl) (by kernel_rfl) (fun _ _ _ h => h) (.inl ⟨by rfl, fun _ _ => by go_simp⟩) S6 ?_
      simp only [Act.put, List.setIfInBounds_toArray, List.set_cons_zero, List.set_cons_succ]
      refine tk 28 (some 102) (.pointer (some ⟨g, 0, none⟩)) rfl rfl (by kernel_rfl) (by kernel_rfl) (by kernel_rfl) (fun _ _ _ h => h) (.inl ⟨by rfl, fun _ _ => by go_simp⟩) S6 ?_
      simp only [Act.put, List.setIfInBounds_toArray, List.set_cons_zero, List.set_cons_succ]
      refine tk 29 (some 103) (.pointer (some ⟨g, 0, none⟩)) rfl rfl (by kernel_rfl) (by kernel_rfl) (by kernel_rfl) (fun _ _ _ h => h) (.inl ⟨by rfl, fun _ _ => by go_simp⟩) S6 ?_
      simp only [Act.put, List.setIfInBounds_toArray, List.set_cons_zero, List.set_cons_succ]
      obtain ⟨p1, hp1, hq1⟩ := N6.2
      have hsz : wc.drew.heap.size ≤ p1 := Nat.le_trans (Nat.le_refl _) hq1
      have hA : ∀ b, ob A1 = some b → ¬ K' b ∧ b ≠ g ∧ ob BB ≠ some b := fun q hq => by
        have e : p1 = q := by rw [hp1] at hq; injection hq
        subst e
        exact ⟨fun hk => by have := U4.out.kl p1 hk; omega, by have := U4.out.lt; omega, fun e => by have := (U4.out.acts.lt e).2; omega⟩
      refine rd_wN 30 (⟨x.id, 2, (f.s : Int), st, x.o, 0, Q, ⟨1, 0⟩, [0], false, 1⟩ : Nd) (by kernel_rfl) rfl rfl rfl rfl rfl rfl P6.1 N6.1 hA ?_
      intro w9 Q9 k9
      refine ⟨SJ.of Q9 rfl rfl (P6.2.same (k9.block b hb)), ?_⟩
      refine wpAnyH_done (by kernel_rfl) ?_ _
      go_wp2_with fail
      go_meet
      exact ⟨rfl, hid Q9, hid (K4d.out.trans ((Kept.of_below B6 U4.out.kl).trans k9 |>.mono hj)), hid (P6.2.same (k9.block b hb))⟩
  clear W4 K4 V4 HW HU
  obtain ⟨rfl, W9, K9, V9⟩ := hcut
  have d2 : wc.cell? ⟨b, 2, none⟩ = some (.int .u64 (f.s : Int)) := V9.out.cell rfl
  go_wp2_with (first
    | (go_at_call 73; (with_reducible refine (HT.out K' w10 W10.out).mono ?_); rintro e w11 ⟨rfl, W11, k11⟩)
    | (go_at_call 72; (with_reducible refine (HN.out K' wc W9.out).mono ?_); rintro e w10 ⟨rfl, W10, k10⟩; have W10 := hid W10; have K10 := hid (K9.out.trans (k10.mono hj)); have d15 : w10.cell? ⟨g, 15, none⟩ = some (.int .i64 m.s) := W10.out.cell fun _ _ _ _ _ _ => rfl))
  go_ret
  exact ⟨rfl, W11.mono hj, K10.out.trans (k11.mono hj)⟩
end Go.Proofs.YtlgedfljmgedfaaGreat
