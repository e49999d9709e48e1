/-
  Texts NN, NX, NY, NO of this seat, as far as they are used.
-/
import Derived.Test.YtlgedfljmgedfaaGreatP6
import Derived.Test.YtlgedfljmgedfaaGreatP8
import Derived.Test.YtlgedfljmgedfaaGreatP12
import Derived.Deep.QuietTactic
import Derived.BigQuiet
namespace Go.Proofs.YtlgedfljmgedfaaGreat
open Go Go.RowKit
open M10 (hid Md encm mv mz Oth range_keep there_keep range_other there_other setCells_oth setCells_size there_set Ty enct tv tz Fr encf fv fz)
open O6 (Oc enco ov oz)
open T9 (sv)
/-- It joins by a frame that began so that its slot began at st. -/
def joiN (x : Nd) (f : Fr) (st : Int) : Nd := ⟨x.id, 2, (f.s : Int), st, x.o, 0, M10.subb (M10.addb f.m f.f.toNat) x.id.toNat, ⟨1, 0⟩, [0], false, 1⟩
/-- What is loaded there: the node's number and clock, and the frame. -/
def SJ (g b : Nat) (x : Nd) (f : Fr) (w : World) : Prop := w.cell? ⟨g, 0, none⟩ = some (.int .i64 x.id) ∧ w.rangeAt g 4 (enco x.o) ∧ Var w b (encf f)
theorem SJ.of {K : Nat → Prop} {base g b : Nat} {x y : Nd} {m : Md} {l : List Ac} {f : Fr} {w : World} (h : Wk w K base g y m l) (e1 : y.id = x.id) (e2 : y.o = x.o) (v : Var w b (encf f)) : SJ g b x f w :=
  ⟨e1 ▸ h.cell (j := 0) fun _ _ _ _ _ _ => rfl, e2 ▸ h.osc, v⟩
theorem ff_in {f : Fr} (hf : M10.OkF f) : 0 ≤ f.f ∧ f.f ≤ 15 := by
  obtain ⟨h1, h2, h3, h4⟩ := hf
  exact ⟨by omega, by omega⟩
set_option maxRecDepth 100000 in
set_option maxHeartbeats 2000000 in
theorem join_ok (K : Nat → Prop) (base g : Nat) (x : Nd) (m : Md) (l : List Ac) (f : Fr) (now began st : Int) (w : World) (h : Wk w K base g x m l) (hl : l.length ≤ 900) (k : NdOk m x) (hf : M10.OkF f) (hfm : f.m < 65536) (hO : (f.s : Int) % m.n = f.f) (hb0 : 0 ≤ began) (hb1 : began ≤ now) (hn : now ≤ 1152921504606846976) (hst : began - O6.psO x.o m.l = st) (hs : 0 ≤ st) (ht : now < st + O6.psO x.o m.s) :
    Calls Tryz.prog 48 #[.pointer (some ⟨g, 0, none⟩), fv f, .int .i64 now, .int .i64 began] w (RetW K base g (joiN x f st) m (l ++ [note 3 (f.s : Int)] ++ [timr (timeT (joiN x f st) m.s)]) (.int .i64 (timeE (joiN x f st) m.s)) w) := by
  have H := hid h
  have T0 := hid (fun (w1 : World) (d : Nat) (os : Array Obj) => Calls.regrown_of (d := d) (os := os) (own_okm (y := m) (f.s : Int) (Sort.grow (redrawn w1 d) os) k.hm (by omega) (by have := hf.2.2.2; omega)))
  have e1 : ((f.s : Int) % m.n != f.f) = false := by simp [hO]
  obtain ⟨⟨l0, l1, l2, l3⟩, n0, n1, n2, n3⟩ := lead_in k
  have HR4 := hid (fun w => O6.run_ok x.o m.l w k.ho (by omega) (by omega) (by omega))
  have HR5 := hid (fun w => O6.run_ok x.o m.s w k.ho (by omega) (by omega) (by omega))
  have hid1 : x.id ≤ 15 := by have := k.i1; have := k.hm.2.1; omega
  have hff : 0 ≤ f.f ∧ f.f ≤ 15 := ff_in hf
  have hP : M10.addb f.m f.f.toNat < 65536 := M10.addb_lt _ _ hfm (by omega)
  have HW := hid (fun w => with_id f.m f.f w hfm hff.1 hff.2)
  have HU := hid (fun w => without_id (M10.addb f.m f.f.toNat) x.id w hP k.i0 hid1)
  have eS : IntKind.i64.wrap (began - O6.psO x.o m.l) = st := by rw [hst, IntKind.wrap_i64]; omega
  have e2 : decide (st < 0) = false := by simp; omega
  have eT : IntKind.i64.wrap (st + O6.psO x.o m.s) = st + O6.psO x.o m.s := by rw [IntKind.wrap_i64]; omega
  have e3 : decide (st + O6.psO x.o m.s ≤ now) = false := by simp; omega
  have hs1 : f.s ≤ 4294967296 := hf.2.2.2
  have eC : IntKind.i64.wrap (f.s : Int) = (f.s : Int) := by rw [IntKind.wrap_i64]; omega
  have HN := hid (fun (K : Nat → Prop) (w1 : World) (h : Wk w1 K base g (joiN x f st) m l) => note_any K base g (joiN x f st) m l 3 (f.s : Int) w1 h (by omega))
  have HT := hid (fun (K : Nat → Prop) (w1 : World) (h : Wk w1 K base g (joiN x f st) m (l ++ [note 3 (f.s : Int)])) => timer_any K base g (joiN x f st) m (l ++ [note 3 (f.s : Int)]) m.s w1 h (by simp; omega) ⟨k.ho, hs, by show st ≤ _; omega⟩ n2 n3)
  unfold joiN at HN HT ⊢
  clear h k hf hO hb0 hb1 hn l0 l1 l2 l3 n0 n1 n2 n3 hs ht hst hl hid1 hff hP hs1 hfm
  generalize timeT _ m.s = T at *
  generalize timeE _ m.s = E at *
  generalize M10.subb (M10.addb f.m f.f.toNat) x.id.toNat = Q at *
  generalize M10.addb f.m f.f.toNat = P at *
  generalize O6.psO x.o m.l = L at *
  generalize O6.psO x.o m.s = N at *
  generalize O6.aft x.o m.l = lfL at *
  generalize O6.aft x.o m.s = lfN at *
  generalize (f.s : Int) % m.n = O at *
  go_enter Tryz.func48, Tryz.ntmps48
  go_wp2_with (first
    | (refine wpList_gbox 54 (encf f) rfl (.tmp 1) rfl rfl ?_; intro w1 v1 b1 s1))
  have hbs : w.heap.size < w1.heap.size := v1.lt (by show 0 < 4; omega)
  have W1 := hid (H.out.add (b := w.heap.size) b1 (Nat.le_refl _) hbs)
  have K1 := hid (H.out.keptb b1)
  have V1 := hid v1
  obtain ⟨K', hK'⟩ : ∃ K' : Nat → Prop, K' = (fun k => K k ∨ k = w.heap.size) := ⟨_, rfl⟩
  have hj : ∀ i, K i → K' i := by rw [hK']; exact fun _ h => .inl h
  have hb : K' w.heap.size := by rw [hK']; exact .inr rfl
  rw [← hK'] at W1
  clear hK' hbs b1 s1 v1
  generalize w.heap.size = b at *
  have c2 : Hid (w1.cell? ⟨b, 2, none⟩ = some (.int .u64 (f.s : Int))) := hid (V1.out.cell rfl)
  refine wp_region_quiet_below (by kernel_rfl) (by kernel_rfl) ?_
  repeat (first | go_big_quiet_skip | refine wpQuiet_wm rfl rfl rfl W1.out ?_ | refine wpQuiet_gl1 24 rfl rfl rfl Tryz.isAgg24 c2.out ?_ | quiet_step (with_reducible exact T0.out _ _ _))
  refine wpQuiet_nil ?_
  intro _ hw'
  obtain ⟨⟨dq, osq⟩, hw''⟩ := hw'
  subst hw''
  have W2 := hid (W1.out.below (below_regrown w1 dq osq))
  have K2 := hid (K1.out.trans ((W1.out.keptb (below_regrown w1 dq osq)).mono hj))
  have V2 : Hid (Var (Sort.grow (redrawn w1 dq) osq) b (encf f)) := hid (V1.out.below (below_regrown w1 dq osq) (V1.out.lt (by show 0 < 4; omega)))
  generalize Sort.grow (redrawn w1 dq) osq = w2 at *
  clear c2 T0 W1 K1 V1 H
  have d1 : w2.cell? ⟨b, 1, none⟩ = some (.int .i64 f.f) := V2.out.cell rfl
  go_wp2_with fail
  go_cut [11, 12, 13] (fun v11 v12 v13 wx => ∃ p, v11 = .int .i64 L ∧ v12 = .pointer (some ⟨p, 0, none⟩) ∧ v13 = .int .i64 0 ∧ Hid (Wk wx K' base g x m l) ∧ Hid (Kept K w wx) ∧ Hid (Var wx b (encf f)))
  case first =>
    have Q2 := hid W2.out.drew
    have k2 := hid (K2.out.trans ((W2.out.keptb (Below.refl _ _).drew).mono hj))
    have L2 := hid V2.out.drew
    have S0 : Wk w2.drew K' base g x m l := Q2.out
    refine wp_region_held_drew (S := fun w' => Wk w' K' base g x m l) (by kernel_rfl) S0 (fun _ => ?_)
    refine tk 0 (some 33) (.pointer (some ⟨g, 0, none⟩)) rfl rfl (by kernel_rfl) (by kernel_rfl) (by kernel_rfl) (fun _ _ _ h => h) (.inl ⟨by rfl, fun _ _ => by go_simp⟩) S0 ?_
    simp only [Act.put, List.setIfInBounds_toArray, List.set_cons_zero, List.set_cons_succ]
    refine tk 1 (some 34) (.pointer (some ⟨g, 0, none⟩)) rfl rfl (by kernel_rfl) (by kernel_rfl) (by kernel_rfl) (fun _ _ _ h => h) (.inl ⟨by rfl, fun _ _ => by go_simp⟩) S0 ?_
    simp only [Act.put, List.setIfInBounds_toArray, List.set_cons_zero, List.set_cons_succ]
    refine tk 2 (some 35) (.pointer (some ⟨g, 0, none⟩)) rfl rfl (by kernel_rfl) (by kernel_rfl) (by kernel_rfl) (fun _ _ _ h => h) (.inl ⟨by rfl, fun _ _ => by go_simp⟩) S0 ?_
    simp only [Act.put, List.setIfInBounds_toArray, List.set_cons_zero, List.set_cons_succ]
    refine tk 3 (some 36) (.pointer (some ⟨g, 4, none⟩)) rfl rfl (by kernel_rfl) (by kernel_rfl) (by kernel_rfl) (fun _ _ _ h => h) (.inl ⟨by rfl, fun _ _ => by go_simp⟩) S0 ?_
    simp only [Act.put, List.setIfInBounds_toArray, List.set_cons_zero, List.set_cons_succ]
    refine tk 4 (some 37) (ov x.o) rfl rfl (by kernel_rfl) (by kernel_rfl) (by kernel_rfl) (fun _ _ _ h => h) (ylo rfl rfl (fun w h => h.osc) rfl) S0 ?_
    simp only [Act.put, List.setIfInBounds_toArray, List.set_cons_zero, List.set_cons_succ]
    refine tk 5 (some 38) (.pointer (some ⟨g, 0, none⟩)) rfl rfl (by kernel_rfl) (by kernel_rfl) (by kernel_rfl) (fun _ _ _ h => h) (.inl ⟨by rfl, fun _ _ => by go_simp⟩) S0 ?_
    simp only [Act.put, List.setIfInBounds_toArray, List.set_cons_zero, List.set_cons_succ]
    refine tk 6 (some 39) (.pointer (some ⟨g, 0, none⟩)) rfl rfl (by kernel_rfl) (by kernel_rfl) (by kernel_rfl) (fun _ _ _ h => h) (.inl ⟨by rfl, fun _ _ => by go_simp⟩) S0 ?_
    simp only [Act.put, List.setIfInBounds_toArray, List.set_cons_zero, List.set_cons_succ]
    refine tk 7 (some 40) (.pointer (some ⟨g, 14, none⟩)) rfl rfl (by kernel_rfl) (by kernel_rfl) (by kernel_rfl) (fun _ _ _ h => h) (.inl ⟨by rfl, fun _ _ => by go_simp⟩) S0 ?_
    simp only [Act.put, List.setIfInBounds_toArray, List.set_cons_zero, List.set_cons_succ]
    refine tk 8 (some 41) (.pointer (some ⟨g, 16, none⟩)) rfl rfl (by kernel_rfl) (by kernel_rfl) (by kernel_rfl) (fun _ _ _ h => h) (.inl ⟨by rfl, fun _ _ => by go_simp⟩) S0 ?_
    simp only [Act.put, List.setIfInBounds_toArray, List.set_cons_zero, List.set_cons_succ]
    refine tk 9 (some 42) (.int .i64 m.l) rfl rfl (by kernel_rfl) (by kernel_rfl) (by kernel_rfl) (fun _ _ _ h => h) (yl1 2 (p := ⟨g, 16, none⟩) (v := .int .i64 m.l) rfl rfl Tryz.isAgg2 (fun w h => h.cell (j := 16) fun _ _ _ _ _ _ => rfl) rfl) S0 ?_
    simp only [Act.put, List.setIfInBounds_toArray, List.set_cons_zero, List.set_cons_succ]
    refine rd_ca 10 15 (some 43) (some 12) 91 #[ov x.o, .int .i64 m.l] _ 26 (enco oz) (by kernel_rfl) rfl rfl rfl rfl (by unfold execOp; simp [go_sem] <;> rfl) (HR4.out _) zero26 rfl rfl rfl (fun w5 b5 => ⟨(Q2.out.below b5), ?_⟩) (fun w5 v5 b5 s5 => ⟨(Q2.out.below b5), ?_⟩)
    · simp only [Act.put, List.setIfInBounds_toArray, List.set_cons_zero, List.set_cons_succ]
      have S1 : Wk w5 K' base g x m l := Q2.out.below b5
      refine tk 11 (some 32) (.tuple #[.int .i64 L, ov lfL, .int .i64 0]) rfl rfl (by kernel_rfl) (by kernel_rfl) (by kernel_rfl) (fun _ _ _ h => h) (.inl ⟨by rfl, fun _ _ => by go_simp⟩) S1 ?_
      simp only [Act.put, List.setIfInBounds_toArray, List.set_cons_zero, List.set_cons_succ]
      refine tk 12 (some 44) (.int .i64 L) rfl rfl (by kernel_rfl) (by kernel_rfl) (by kernel_rfl) (fun _ _ _ h => h) (.inl ⟨by rfl, fun _ _ => by go_simp⟩) S1 ?_
      simp only [Act.put, List.setIfInBounds_toArray, List.set_cons_zero, List.set_cons_succ]
      refine tk 13 (some 45) (ov lfL) rfl rfl (by kernel_rfl) (by kernel_rfl) (by kernel_rfl) (fun _ _ _ h => h) (.inl ⟨by rfl, fun _ _ => by go_simp⟩) S1 ?_
      simp only [Act.put, List.setIfInBounds_toArray, List.set_cons_zero, List.set_cons_succ]
      refine tk 14 (some 46) (.int .i64 0) rfl rfl (by kernel_rfl) (by kernel_rfl) (by kernel_rfl) (fun _ _ _ h => h) (.inl ⟨by rfl, fun _ _ => by go_simp⟩) S1 ?_
      simp only [Act.put, List.setIfInBounds_toArray, List.set_cons_zero, List.set_cons_succ]
      refine rd_al 15 (some 12) 26 (enco oz) zero26 (by kernel_rfl) rfl rfl rfl rfl ?_
      intro w6 v6 b6 s6
      have S2 : Wk w6 K' base g x m l := S1.below b6
      refine ⟨S2, ?_⟩
      simp only [Act.put, List.setIfInBounds_toArray, List.set_cons_zero, List.set_cons_succ]
      have hb5 := b5.size
      have b56 : Below w5.heap.size w5 w6 := b6
      have BB : Below w2.drew.heap.size w2.drew w6 := b5.trans (b56.mono hb5)
      have hN : w2.drew.heap.size ≤ w5.heap.size := hb5
      refine tk 16 (some 11) (.int .i64 L) rfl rfl (by kernel_rfl) (by kernel_rfl) (by kernel_rfl) (fun _ _ _ h => h) (.inl ⟨by rfl, fun _ _ => by go_simp⟩) S2 ?_
      simp only [Act.put, List.setIfInBounds_toArray, List.set_cons_zero, List.set_cons_succ]
      refine rd_gst 17 0 (enco lfL) 26 (by kernel_rfl) rfl rfl rfl rfl rfl v6 (by show 0 + 3 ≤ 3; omega) (by rw [size26]; rfl) (O6.enco_one _) rfl ?_
      intro w7 v7 b7 o7 s7
      have BC : Below w2.drew.heap.size w2.drew w7 := BB.trans (b7.mono hN)
      have S3 : Wk w7 K' base g x m l := Q2.out.below BC
      refine ⟨S3, ?_⟩
      refine tk 18 (some 13) (.int .i64 0) rfl rfl (by kernel_rfl) (by kernel_rfl) (by kernel_rfl) (fun _ _ _ h => h) (.inl ⟨by rfl, fun _ _ => by go_simp⟩) S3 ?_
      simp only [Act.put, List.setIfInBounds_toArray, List.set_cons_zero, List.set_cons_succ]
      refine wpAnyH_done (by kernel_rfl) ?_ _
      go_wp2_with fail
      go_meet
      exact ⟨_, rfl, rfl, rfl, hid S3, hid (k2.out.trans ((Q2.out.keptb BC).mono hj)), hid (L2.out.below BC (L2.out.lt (by show 0 < 4; omega)))⟩
    · simp only [Act.put, List.setIfInBounds_toArray, List.set_cons_zero, List.set_cons_succ]
      have S1 : Wk w5 K' base g x m l := Q2.out.below b5
      refine rd_cl 10 (some 43) 91 #[ov x.o, .int .i64 m.l] _ (by kernel_rfl) rfl rfl (by unfold execOp; simp [go_sem] <;> rfl) (HR4.out _) rfl ?_
      intro w6 b6
      have S2 : Wk w6 K' base g x m l := S1.below b6
      refine ⟨S2, ?_⟩
      simp only [Act.put, List.setIfInBounds_toArray, List.set_cons_zero, List.set_cons_succ]
      refine tk 11 (some 32) (.tuple #[.int .i64 L, ov lfL, .int .i64 0]) rfl rfl (by kernel_rfl) (by kernel_rfl) (by kernel_rfl) (fun _ _ _ h => h) (.inl ⟨by rfl, fun _ _ => by go_simp⟩) S2 ?_
      simp only [Act.put, List.setIfInBounds_toArray, List.set_cons_zero, List.set_cons_succ]
      refine tk 12 (some 44) (.int .i64 L) rfl rfl (by kernel_rfl) (by kernel_rfl) (by kernel_rfl) (fun _ _ _ h => h) (.inl ⟨by rfl, fun _ _ => by go_simp⟩) S2 ?_
      simp only [Act.put, List.setIfInBounds_toArray, List.set_cons_zero, List.set_cons_succ]
      refine tk 13 (some 45) (ov lfL) rfl rfl (by kernel_rfl) (by kernel_rfl) (by kernel_rfl) (fun _ _ _ h => h) (.inl ⟨by rfl, fun _ _ => by go_simp⟩) S2 ?_
      simp only [Act.put, List.setIfInBounds_toArray, List.set_cons_zero, List.set_cons_succ]
      refine tk 14 (some 46) (.int .i64 0) rfl rfl (by kernel_rfl) (by kernel_rfl) (by kernel_rfl) (fun _ _ _ h => h) (.inl ⟨by rfl, fun _ _ => by go_simp⟩) S2 ?_
      simp only [Act.put, List.setIfInBounds_toArray, List.set_cons_zero, List.set_cons_succ]
      have v6 : Var w6 w2.drew.heap.size (enco oz) := v5.below b6 (v5.lt (by show 0 < 3; omega))
      have BB : Below w2.drew.heap.size w2.drew w6 := b5.trans (b6.mono b5.size)
      have hN : w2.drew.heap.size ≤ w2.drew.heap.size := Nat.le_refl _
      refine tk 16 (some 11) (.int .i64 L) rfl rfl (by kernel_rfl) (by kernel_rfl) (by kernel_rfl) (fun _ _ _ h => h) (.inl ⟨by rfl, fun _ _ => by go_simp⟩) S2 ?_
      simp only [Act.put, List.setIfInBounds_toArray, List.set_cons_zero, List.set_cons_succ]
      refine rd_gst 17 0 (enco lfL) 26 (by kernel_rfl) rfl rfl rfl rfl rfl v6 (by show 0 + 3 ≤ 3; omega) (by rw [size26]; rfl) (O6.enco_one _) rfl ?_
      intro w7 v7 b7 o7 s7
      have BC : Below w2.drew.heap.size w2.drew w7 := BB.trans (b7.mono hN)
      have S3 : Wk w7 K' base g x m l := Q2.out.below BC
      refine ⟨S3, ?_⟩
      refine tk 18 (some 13) (.int .i64 0) rfl rfl (by kernel_rfl) (by kernel_rfl) (by kernel_rfl) (fun _ _ _ h => h) (.inl ⟨by rfl, fun _ _ => by go_simp⟩) S3 ?_
      simp only [Act.put, List.setIfInBounds_toArray, List.set_cons_zero, List.set_cons_succ]
      refine wpAnyH_done (by kernel_rfl) ?_ _
      go_wp2_with fail
      go_meet
      exact ⟨_, rfl, rfl, rfl, hid S3, hid (k2.out.trans ((Q2.out.keptb BC).mono hj)), hid (L2.out.below BC (L2.out.lt (by show 0 < 4; omega)))⟩
  clear W2 K2 V2 d1 HR4
  obtain ⟨p12, rfl, rfl, rfl, W2, K2, V2⟩ := hcut
  go_wp2_with fail
  go_cut [14, 15, 16] (fun v11 v12 v13 wx => ∃ p, v11 = .int .i64 N ∧ v12 = .pointer (some ⟨p, 0, none⟩) ∧ v13 = .int .i64 0 ∧ Hid (Wk wx K' base g x m l) ∧ Hid (Kept K w wx) ∧ Hid (Var wx b (encf f)))
  case first =>
    have Q2 := hid W2.out.drew
    have k2 := hid (K2.out.trans ((W2.out.keptb (Below.refl _ _).drew).mono hj))
    have L2 := hid V2.out.drew
    have S0 : Wk wc.drew K' base g x m l := Q2.out
    refine wp_region_held_drew (S := fun w' => Wk w' K' base g x m l) (by kernel_rfl) S0 (fun _ => ?_)
    refine tk 0 (some 48) (.pointer (some ⟨g, 0, none⟩)) rfl rfl (by kernel_rfl) (by kernel_rfl) (by kernel_rfl) (fun _ _ _ h => h) (.inl ⟨by rfl, fun _ _ => by go_simp⟩) S0 ?_
    simp only [Act.put, List.setIfInBounds_toArray, List.set_cons_zero, List.set_cons_succ]
    refine tk 1 (some 49) (.pointer (some ⟨g, 0, none⟩)) rfl rfl (by kernel_rfl) (by kernel_rfl) (by kernel_rfl) (fun _ _ _ h => h) (.inl ⟨by rfl, fun _ _ => by go_simp⟩) S0 ?_
    simp only [Act.put, List.setIfInBounds_toArray, List.set_cons_zero, List.set_cons_succ]
    refine tk 2 (some 50) (.pointer (some ⟨g, 0, none⟩)) rfl rfl (by kernel_rfl) (by kernel_rfl) (by kernel_rfl) (fun _ _ _ h => h) (.inl ⟨by rfl, fun _ _ => by go_simp⟩) S0 ?_
    simp only [Act.put, List.setIfInBounds_toArray, List.set_cons_zero, List.set_cons_succ]
    refine tk 3 (some 51) (.pointer (some ⟨g, 4, none⟩)) rfl rfl (by kernel_rfl) (by kernel_rfl) (by kernel_rfl) (fun _ _ _ h => h) (.inl ⟨by rfl, fun _ _ => by go_simp⟩) S0 ?_
    simp only [Act.put, List.setIfInBounds_toArray, List.set_cons_zero, List.set_cons_succ]
    refine tk 4 (some 52) (ov x.o) rfl rfl (by kernel_rfl) (by kernel_rfl) (by kernel_rfl) (fun _ _ _ h => h) (ylo rfl rfl (fun w h => h.osc) rfl) S0 ?_
    simp only [Act.put, List.setIfInBounds_toArray, List.set_cons_zero, List.set_cons_succ]
    refine tk 5 (some 53) (.pointer (some ⟨g, 0, none⟩)) rfl rfl (by kernel_rfl) (by kernel_rfl) (by kernel_rfl) (fun _ _ _ h => h) (.inl ⟨by rfl, fun _ _ => by go_simp⟩) S0 ?_
    simp only [Act.put, List.setIfInBounds_toArray, List.set_cons_zero, List.set_cons_succ]
    refine tk 6 (some 54) (.pointer (some ⟨g, 0, none⟩)) rfl rfl (by kernel_rfl) (by kernel_rfl) (by kernel_rfl) (fun _ _ _ h => h) (.inl ⟨by rfl, fun _ _ => by go_simp⟩) S0 ?_
    simp only [Act.put, List.setIfInBounds_toArray, List.set_cons_zero, List.set_cons_succ]
    refine tk 7 (some 55) (.pointer (some ⟨g, 14, none⟩)) rfl rfl (by kernel_rfl) (by kernel_rfl) (by kernel_rfl) (fun _ _ _ h => h) (.inl ⟨by rfl, fun _ _ => by go_simp⟩) S0 ?_
    simp only [Act.put, List.setIfInBounds_toArray, List.set_cons_zero, List.set_cons_succ]
    refine tk 8 (some 56) (.pointer (some ⟨g, 15, none⟩)) rfl rfl (by kernel_rfl) (by kernel_rfl) (by kernel_rfl) (fun _ _ _ h => h) (.inl ⟨by rfl, fun _ _ => by go_simp⟩) S0 ?_
    simp only [Act.put, List.setIfInBounds_toArray, List.set_cons_zero, List.set_cons_succ]
    refine tk 9 (some 57) (.int .i64 m.s) rfl rfl (by kernel_rfl) (by kernel_rfl) (by kernel_rfl) (fun _ _ _ h => h) (yl1 2 (p := ⟨g, 15, none⟩) (v := .int .i64 m.s) rfl rfl Tryz.isAgg2 (fun w h => h.cell (j := 15) fun _ _ _ _ _ _ => rfl) rfl) S0 ?_
    simp only [Act.put, List.setIfInBounds_toArray, List.set_cons_zero, List.set_cons_succ]
    refine rd_ca 10 15 (some 58) (some 15) 91 #[ov x.o, .int .i64 m.s] _ 26 (enco oz) (by kernel_rfl) rfl rfl rfl rfl (by unfold execOp; simp [go_sem] <;> rfl) (HR5.out _) zero26 rfl rfl rfl (fun w5 b5 => ⟨(Q2.out.below b5), ?_⟩) (fun w5 v5 b5 s5 => ⟨(Q2.out.below b5), ?_⟩)
    · simp only [Act.put, List.setIfInBounds_toArray, List.set_cons_zero, List.set_cons_succ]
      have S1 : Wk w5 K' base g x m l := Q2.out.below b5
      refine tk 11 (some 47) (.tuple #[.int .i64 N, ov lfN, .int .i64 0]) rfl rfl (by kernel_rfl) (by kernel_rfl) (by kernel_rfl) (fun _ _ _ h => h) (.inl ⟨by rfl, fun _ _ => by go_simp⟩) S1 ?_
      simp only [Act.put, List.setIfInBounds_toArray, List.set_cons_zero, List.set_cons_succ]
      refine tk 12 (some 59) (.int .i64 N) rfl rfl (by kernel_rfl) (by kernel_rfl) (by kernel_rfl) (fun _ _ _ h => h) (.inl ⟨by rfl, fun _ _ => by go_simp⟩) S1 ?_
      simp only [Act.put, List.setIfInBounds_toArray, List.set_cons_zero, List.set_cons_succ]
      refine tk 13 (some 60) (ov lfN) rfl rfl (by kernel_rfl) (by kernel_rfl) (by kernel_rfl) (fun _ _ _ h => h) (.inl ⟨by rfl, fun _ _ => by go_simp⟩) S1 ?_
      simp only [Act.put, List.setIfInBounds_toArray, List.set_cons_zero, List.set_cons_succ]
      refine tk 14 (some 61) (.int .i64 0) rfl rfl (by kernel_rfl) (by kernel_rfl) (by kernel_rfl) (fun _ _ _ h => h) (.inl ⟨by rfl, fun _ _ => by go_simp⟩) S1 ?_
      simp only [Act.put, List.setIfInBounds_toArray, List.set_cons_zero, List.set_cons_succ]
      refine rd_al 15 (some 15) 26 (enco oz) zero26 (by kernel_rfl) rfl rfl rfl rfl ?_
      intro w6 v6 b6 s6
      have S2 : Wk w6 K' base g x m l := S1.below b6
      refine ⟨S2, ?_⟩
      simp only [Act.put, List.setIfInBounds_toArray, List.set_cons_zero, List.set_cons_succ]
      have hb5 := b5.size
      have b56 : Below w5.heap.size w5 w6 := b6
      have BB : Below wc.drew.heap.size wc.drew w6 := b5.trans (b56.mono hb5)
      have hN : wc.drew.heap.size ≤ w5.heap.size := hb5
      refine tk 16 (some 14) (.int .i64 N) rfl rfl (by kernel_rfl) (by kernel_rfl) (by kernel_rfl) (fun _ _ _ h => h) (.inl ⟨by rfl, fun _ _ => by go_simp⟩) S2 ?_
      simp only [Act.put, List.setIfInBounds_toArray, List.set_cons_zero, List.set_cons_succ]
      refine rd_gst 17 0 (enco lfN) 26 (by kernel_rfl) rfl rfl rfl rfl rfl v6 (by show 0 + 3 ≤ 3; omega) (by rw [size26]; rfl) (O6.enco_one _) rfl ?_
      intro w7 v7 b7 o7 s7
      have BC : Below wc.drew.heap.size wc.drew w7 := BB.trans (b7.mono hN)
      have S3 : Wk w7 K' base g x m l := Q2.out.below BC
      refine ⟨S3, ?_⟩
      refine tk 18 (some 16) (.int .i64 0) rfl rfl (by kernel_rfl) (by kernel_rfl) (by kernel_rfl) (fun _ _ _ h => h) (.inl ⟨by rfl, fun _ _ => by go_simp⟩) S3 ?_
      simp only [Act.put, List.setIfInBounds_toArray, List.set_cons_zero, List.set_cons_succ]
      refine wpAnyH_done (by kernel_rfl) ?_ _
      go_wp2_with fail
      go_meet
      exact ⟨_, rfl, rfl, rfl, hid S3, hid (k2.out.trans ((Q2.out.keptb BC).mono hj)), hid (L2.out.below BC (L2.out.lt (by show 0 < 4; omega)))⟩
    · simp only [Act.put, List.setIfInBounds_toArray, List.set_cons_zero, List.set_cons_succ]
      have S1 : Wk w5 K' base g x m l := Q2.out.below b5
      refine rd_cl 10 (some 58) 91 #[ov x.o, .int .i64 m.s] _ (by kernel_rfl) rfl rfl (by unfold execOp; simp [go_sem] <;> rfl) (HR5.out _) rfl ?_
      intro w6 b6
      have S2 : Wk w6 K' base g x m l := S1.below b6
      refine ⟨S2, ?_⟩
      simp only [Act.put, List.setIfInBounds_toArray, List.set_cons_zero, List.set_cons_succ]
      refine tk 11 (some 47) (.tuple #[.int .i64 N, ov lfN, .int .i64 0]) rfl rfl (by kernel_rfl) (by kernel_rfl) (by kernel_rfl) (fun _ _ _ h => h) (.inl ⟨by rfl, fun _ _ => by go_simp⟩) S2 ?_
      simp only [Act.put, List.setIfInBounds_toArray, List.set_cons_zero, List.set_cons_succ]
      refine tk 12 (some 59) (.int .i64 N) rfl rfl (by kernel_rfl) (by kernel_rfl) (by kernel_rfl) (fun _ _ _ h => h) (.inl ⟨by rfl, fun _ _ => by go_simp⟩) S2 ?_
      simp only [Act.put, List.setIfInBounds_toArray, List.set_cons_zero, List.set_cons_succ]
      refine tk 13 (some 60) (ov lfN) rfl rfl (by kernel_rfl) (by kernel_rfl) (by kernel_rfl) (fun _ _ _ h => h) (.inl ⟨by rfl, fun _ _ => by go_simp⟩) S2 ?_
      simp only [Act.put, List.setIfInBounds_toArray, List.set_cons_zero, List.set_cons_succ]
      refine tk 14 (some 61) (.int .i64 0) rfl rfl (by kernel_rfl) (by kernel_rfl) (by kernel_rfl) (fun _ _ _ h => h) (.inl ⟨by rfl, fun _ _ => by go_simp⟩) S2 ?_
      simp only [Act.put, List.setIfInBounds_toArray, List.set_cons_zero, List.set_cons_succ]
      have v6 : Var w6 wc.drew.heap.size (enco oz) := v5.below b6 (v5.lt (by show 0 < 3; omega))
      have BB : Below wc.drew.heap.size wc.drew w6 := b5.trans (b6.mono b5.size)
      have hN : wc.drew.heap.size ≤ wc.drew.heap.size := Nat.le_refl _
      refine tk 16 (some 14) (.int .i64 N) rfl rfl (by kernel_rfl) (by kernel_rfl) (by kernel_rfl) (fun _ _ _ h => h) (.inl ⟨by rfl, fun _ _ => by go_simp⟩) S2 ?_
      simp only [Act.put, List.setIfInBounds_toArray, List.set_cons_zero, List.set_cons_succ]
      refine rd_gst 17 0 (enco lfN) 26 (by kernel_rfl) rfl rfl rfl rfl rfl v6 (by show 0 + 3 ≤ 3; omega) (by rw [size26]; rfl) (O6.enco_one _) rfl ?_
      intro w7 v7 b7 o7 s7
      have BC : Below wc.drew.heap.size wc.drew w7 := BB.trans (b7.mono hN)
      have S3 : Wk w7 K' base g x m l := Q2.out.below BC
      refine ⟨S3, ?_⟩
      refine tk 18 (some 16) (.int .i64 0) rfl rfl (by kernel_rfl) (by kernel_rfl) (by kernel_rfl) (fun _ _ _ h => h) (.inl ⟨by rfl, fun _ _ => by go_simp⟩) S3 ?_
      simp only [Act.put, List.setIfInBounds_toArray, List.set_cons_zero, List.set_cons_succ]
      refine wpAnyH_done (by kernel_rfl) ?_ _
      go_wp2_with fail
      go_meet
      exact ⟨_, rfl, rfl, rfl, hid S3, hid (k2.out.trans ((Q2.out.keptb BC).mono hj)), hid (L2.out.below BC (L2.out.lt (by show 0 < 4; omega)))⟩
  clear W2 K2 V2 HR5
  obtain ⟨p15, rfl, rfl, rfl, W4, K4, V4⟩ := hcut
  go_wp2_with fail
  go_cut [0] (fun v0 wx => v0 = .pointer (some ⟨g, 0, none⟩) ∧ Hid (Wk wx K' base g (⟨x.id, 2, (f.s : Int), st, x.o, 0, Q, ⟨1, 0⟩, [0], false, 1⟩ : Nd) m l) ∧ Hid (Kept K w wx) ∧ Hid (Var wx b (encf f)))
  case first =>
    have K4d := hid (K4.out.trans ((W4.out.keptb (Below.refl _ _).drew).mono hj))
    have L4 := hid V4.out.drew
    obtain ⟨A, n, c, BB, kk, dd, U4⟩ := W4.out.drew
    have U4 := hid U4
    have S4 : SJ g b x f wc.drew := SJ.of ⟨_, _, _, _, _, _, U4.out⟩ rfl rfl L4.out
    refine wp_region_held_drew (S := SJ g b x f) (by kernel_rfl) S4 (fun _ => ?_)
    refine tk 0 (some 74) (.pointer (some ⟨g, 0, none⟩)) rfl rfl (by kernel_rfl) (by kernel_rfl) (by kernel_rfl) (fun _ _ _ h => h) (.inl ⟨by rfl, fun _ _ => by go_simp⟩) S4 ?_
    simp only [Act.put, List.setIfInBounds_toArray, List.set_cons_zero, List.set_cons_succ]
    refine tk 1 (some 75) (.pointer (some ⟨g, 0, none⟩)) rfl rfl (by kernel_rfl) (by kernel_rfl) (by kernel_rfl) (fun _ _ _ h => h) (.inl ⟨by rfl, fun _ _ => by go_simp⟩) S4 ?_
    simp only [Act.put, List.setIfInBounds_toArray, List.set_cons_zero, List.set_cons_succ]
    refine tk 2 (some 76) (.pointer (some ⟨g, 0, none⟩)) rfl rfl (by kernel_rfl) (by kernel_rfl) (by kernel_rfl) (fun _ _ _ h => h) (.inl ⟨by rfl, fun _ _ => by go_simp⟩) S4 ?_
    simp only [Act.put, List.setIfInBounds_toArray, List.set_cons_zero, List.set_cons_succ]
    refine tk 3 (some 77) (.pointer (some ⟨g, 0, none⟩)) rfl rfl (by kernel_rfl) (by kernel_rfl) (by kernel_rfl) (fun _ _ _ h => h) (.inl ⟨by rfl, fun _ _ => by go_simp⟩) S4 ?_
    simp only [Act.put, List.setIfInBounds_toArray, List.set_cons_zero, List.set_cons_succ]
    refine tk 4 (some 78) (.pointer (some ⟨g, 0, none⟩)) rfl rfl (by kernel_rfl) (by kernel_rfl) (by kernel_rfl) (fun _ _ _ h => h) (.inl ⟨by rfl, fun _ _ => by go_simp⟩) S4 ?_
    simp only [Act.put, List.setIfInBounds_toArray, List.set_cons_zero, List.set_cons_succ]
    refine tk 5 (some 79) (.int .i64 x.id) rfl rfl (by kernel_rfl) (by kernel_rfl) (by kernel_rfl) (fun _ _ _ h => h) (yl1 3 (p := ⟨g, 0, none⟩) (v := .int .i64 x.id) rfl rfl Tryz.isAgg3 (fun w h => h.1) rfl) S4 ?_
    simp only [Act.put, List.setIfInBounds_toArray, List.set_cons_zero, List.set_cons_succ]
    refine tk 6 (some 80) (.pointer (some ⟨b, 2, none⟩)) rfl rfl (by kernel_rfl) (by kernel_rfl) (by kernel_rfl) (fun _ _ _ h => h) (.inl ⟨by rfl, fun _ _ => by go_simp⟩) S4 ?_
    simp only [Act.put, List.setIfInBounds_toArray, List.set_cons_zero, List.set_cons_succ]
    refine tk 7 (some 81) (.int .u64 (f.s : Int)) rfl rfl (by kernel_rfl) (by kernel_rfl) (by kernel_rfl) (fun _ _ _ h => h) (yl1 24 (p := ⟨b, 2, none⟩) (v := .int .u64 (f.s : Int)) rfl rfl Tryz.isAgg24 (fun w h => h.2.2.cell rfl) rfl) S4 ?_
    simp only [Act.put, List.setIfInBounds_toArray, List.set_cons_zero, List.set_cons_succ]
    refine tk 8 (some 82) (.int .i64 st) rfl rfl (by kernel_rfl) (by kernel_rfl) (by kernel_rfl) (fun _ _ _ h => h) (.inl ⟨by rfl, fun _ _ => by go_simp⟩) S4 ?_
    simp only [Act.put, List.setIfInBounds_toArray, List.set_cons_zero, List.set_cons_succ]
    refine tk 9 (some 83) (.pointer (some ⟨g, 0, none⟩)) rfl rfl (by kernel_rfl) (by kernel_rfl) (by kernel_rfl) (fun _ _ _ h => h) (.inl ⟨by rfl, fun _ _ => by go_simp⟩) S4 ?_
    simp only [Act.put, List.setIfInBounds_toArray, List.set_cons_zero, List.set_cons_succ]
    refine tk 10 (some 84) (.pointer (some ⟨g, 0, none⟩)) rfl rfl (by kernel_rfl) (by kernel_rfl) (by kernel_rfl) (fun _ _ _ h => h) (.inl ⟨by rfl, fun _ _ => by go_simp⟩) S4 ?_
    simp only [Act.put, List.setIfInBounds_toArray, List.set_cons_zero, List.set_cons_succ]
    refine tk 11 (some 85) (.pointer (some ⟨g, 0, none⟩)) rfl rfl (by kernel_rfl) (by kernel_rfl) (by kernel_rfl) (fun _ _ _ h => h) (.inl ⟨by rfl, fun _ _ => by go_simp⟩) S4 ?_
    simp only [Act.put, List.setIfInBounds_toArray, List.set_cons_zero, List.set_cons_succ]
    refine tk 12 (some 86) (.pointer (some ⟨g, 4, none⟩)) rfl rfl (by kernel_rfl) (by kernel_rfl) (by kernel_rfl) (fun _ _ _ h => h) (.inl ⟨by rfl, fun _ _ => by go_simp⟩) S4 ?_
    simp only [Act.put, List.setIfInBounds_toArray, List.set_cons_zero, List.set_cons_succ]
    refine tk 13 (some 87) (.agg #[.int .i64 x.o.p, .int .i64 x.o.d, .int .i64 x.o.r]) rfl rfl (by kernel_rfl) (by kernel_rfl) (by kernel_rfl) (fun _ _ _ h => h) (yls 26 [.int .i64 x.o.p, .int .i64 x.o.d, .int .i64 x.o.r] rfl rfl (fun w h => h.2.1) Tryz.underlying26 rfl size26 rfl) S4 ?_
    simp only [Act.put, List.setIfInBounds_toArray, List.set_cons_zero, List.set_cons_succ]
    refine tk 14 (some 88) (.pointer (some ⟨b, 3, none⟩)) rfl rfl (by kernel_rfl) (by kernel_rfl) (by kernel_rfl) (fun _ _ _ h => h) (.inl ⟨by rfl, fun _ _ => by go_simp⟩) S4 ?_
    simp only [Act.put, List.setIfInBounds_toArray, List.set_cons_zero, List.set_cons_succ]
    refine tk 15 (some 89) (.int .u16 (f.m : Int)) rfl rfl (by kernel_rfl) (by kernel_rfl) (by kernel_rfl) (fun _ _ _ h => h) (yl1 27 (p := ⟨b, 3, none⟩) (v := .int .u16 (f.m : Int)) rfl rfl Tryz.isAgg27 (fun w h => h.2.2.cell rfl) rfl) S4 ?_
    simp only [Act.put, List.setIfInBounds_toArray, List.set_cons_zero, List.set_cons_succ]
    refine tk 16 (some 90) (.pointer (some ⟨b, 1, none⟩)) rfl rfl (by kernel_rfl) (by kernel_rfl) (by kernel_rfl) (fun _ _ _ h => h) (.inl ⟨by rfl, fun _ _ => by go_simp⟩) S4 ?_
    simp only [Act.put, List.setIfInBounds_toArray, List.set_cons_zero, List.set_cons_succ]
    refine tk 17 (some 91) (.int .i64 f.f) rfl rfl (by kernel_rfl) (by kernel_rfl) (by kernel_rfl) (fun _ _ _ h => h) (yl1 3 (p := ⟨b, 1, none⟩) (v := .int .i64 f.f) rfl rfl Tryz.isAgg3 (fun w h => h.2.2.cell rfl) rfl) S4 ?_
    simp only [Act.put, List.setIfInBounds_toArray, List.set_cons_zero, List.set_cons_succ]
    refine tk 19 (some 93) (.pointer (some ⟨g, 0, none⟩)) rfl rfl (by kernel_rfl) (by kernel_rfl) (by kernel_rfl) (fun _ _ _ h => h) (.inl ⟨by rfl, fun _ _ => by go_simp⟩) S4 ?_
    simp only [Act.put, List.setIfInBounds_toArray, List.set_cons_zero, List.set_cons_succ]
    refine tk 20 (some 94) (.pointer (some ⟨g, 0, none⟩)) rfl rfl (by kernel_rfl) (by kernel_rfl) (by kernel_rfl) (fun _ _ _ h => h) (.inl ⟨by rfl, fun _ _ => by go_simp⟩) S4 ?_
    simp only [Act.put, List.setIfInBounds_toArray, List.set_cons_zero, List.set_cons_succ]
    refine tk 21 (some 95) (.pointer (some ⟨g, 0, none⟩)) rfl rfl (by kernel_rfl) (by kernel_rfl) (by kernel_rfl) (fun _ _ _ h => h) (.inl ⟨by rfl, fun _ _ => by go_simp⟩) S4 ?_
    simp only [Act.put, List.setIfInBounds_toArray, List.set_cons_zero, List.set_cons_succ]
    refine tk 22 (some 96) (.pointer (some ⟨g, 0, none⟩)) rfl rfl (by kernel_rfl) (by kernel_rfl) (by kernel_rfl) (fun _ _ _ h => h) (.inl ⟨by rfl, fun _ _ => by go_simp⟩) S4 ?_
    simp only [Act.put, List.setIfInBounds_toArray, List.set_cons_zero, List.set_cons_succ]
    refine tk 23 (some 97) (.int .i64 x.id) rfl rfl (by kernel_rfl) (by kernel_rfl) (by kernel_rfl) (fun _ _ _ h => h) (yl1 3 (p := ⟨g, 0, none⟩) (v := .int .i64 x.id) rfl rfl Tryz.isAgg3 (fun w h => h.1) rfl) S4 ?_
    simp only [Act.put, List.setIfInBounds_toArray, List.set_cons_zero, List.set_cons_succ]
    refine rd_cb 18 26 (some 92) (some 100) 75 #[.int .u16 (f.m : Int), .int .i64 f.f] _ 0 base (by kernel_rfl) rfl rfl rfl rfl (by unfold execOp; simp [go_sem] <;> rfl) (HW.out _) rfl rfl rfl rfl U4.out.bl ?_ ?_
    · intro wq hwq
      subst hwq
      refine ⟨S4, ?_⟩
      simp only [Act.put, List.setIfInBounds_toArray, List.set_cons_zero, List.set_cons_succ]
      refine rd_cb 24 26 (some 98) (some 100) 92 #[.int .u16 (P : Int), .int .i64 x.id] _ 0 base (by kernel_rfl) rfl rfl rfl rfl (by unfold execOp; simp [go_sem] <;> rfl) (HU.out _) rfl rfl rfl rfl U4.out.bl ?_ ?_
      · intro wq hwq
        subst hwq
        refine ⟨S4, ?_⟩
        simp only [Act.put, List.setIfInBounds_toArray, List.set_cons_zero, List.set_cons_succ]
        refine rd_cb 25 26 (some 99) (some 100) 76 #[] _ 0 base (by kernel_rfl) rfl rfl rfl rfl (by unfold execOp; simp [go_sem] <;> rfl) (one_lit _) rfl rfl rfl rfl U4.out.bl ?_ ?_
        · intro w5 b5
          have P5 : WkU w5 K' base g x m l A n c BB kk dd ∧ Var w5 b (encf f) := ⟨U4.out.below b5, L4.out.below b5 (L4.out.lt (by show 0 < 4; omega))⟩
          have S5 : SJ g b x f w5 := SJ.of ⟨_, _, _, _, _, _, P5.1⟩ rfl rfl P5.2
          refine ⟨S5, ?_⟩
          simp only [Act.put, List.setIfInBounds_toArray, List.set_cons_zero, List.set_cons_succ]
          refine rd_bs 26 (some 100) 0 base (by kernel_rfl) rfl rfl rfl rfl rfl P5.1.bl ?_
          intro w6 A1 N6 b6
          have B6 : Below wc.drew.heap.size wc.drew w6 := b5.trans (b6.mono b5.size)
          have P6 : WkU w6 K' base g x m l A n c BB kk dd ∧ Var w6 b (encf f) := ⟨U4.out.below B6, L4.out.below B6 (L4.out.lt (by show 0 < 4; omega))⟩
          have S6 : SJ g b x f w6 := SJ.of ⟨_, _, _, _, _, _, P6.1⟩ rfl rfl P6.2
          refine ⟨S6, ?_⟩
          simp only [Act.put, List.setIfInBounds_toArray, List.set_cons_zero, List.set_cons_succ]
          refine tk 27 (some 101) (.agg #[.int .i64 x.id, .int .i64 2, .int .u64 (f.s : Int), .int .i64 st, .int .i64 x.o.p, .int .i64 x.o.d, .int .i64 x.o.r, .int .i64 0, .int .u16 (Q : Int), .int .i64 1, .int .i64 0, .slice A1 1 1, .bool false, .int .i64 1]) rfl rfl (by kernel_rfl) (by kernel_rfl) (by kernel_rfl) (fun _ _ _ h => h) (.inl ⟨by rfl, fun _ _ => by go_simp⟩) S6 ?_
          simp only [Act.put, List.setIfInBounds_toArray, List.set_cons_zero, List.set_cons_succ]
          refine tk 28 (some 102) (.pointer (some ⟨g, 0, none⟩)) rfl rfl (by kernel_rfl) (by kernel_rfl) (by kernel_rfl) (fun _ _ _ h => h) (.inl ⟨by rfl, fun _ _ => by go_simp⟩) S6 ?_
          simp only [Act.put, List.setIfInBounds_toArray, List.set_cons_zero, List.set_cons_succ]
          refine tk 29 (some 103) (.pointer (some ⟨g, 0, none⟩)) rfl rfl (by kernel_rfl) (by kernel_rfl) (by kernel_rfl) (fun _ _ _ h => h) (.inl ⟨by rfl, fun _ _ => by go_simp⟩) S6 ?_
          simp only [Act.put, List.setIfInBounds_toArray, List.set_cons_zero, List.set_cons_succ]
          obtain ⟨p1, hp1, hq1⟩ := N6.2
          have hsz : wc.drew.heap.size ≤ p1 := Nat.le_trans b5.size hq1
          have hA : ∀ b, ob A1 = some b → ¬ K' b ∧ b ≠ g ∧ ob BB ≠ some b := fun q hq => by
            have e : p1 = q := by rw [hp1] at hq; injection hq
            subst e
            exact ⟨fun hk => by have := U4.out.kl p1 hk; omega, by have := U4.out.lt; omega, fun e => by have := (U4.out.acts.lt e).2; omega⟩
          refine rd_wN 30 (⟨x.id, 2, (f.s : Int), st, x.o, 0, Q, ⟨1, 0⟩, [0], false, 1⟩ : Nd) (by kernel_rfl) rfl rfl rfl rfl rfl rfl P6.1 N6.1 hA ?_
          intro w9 Q9 k9
          refine ⟨SJ.of Q9 rfl rfl (P6.2.same (k9.block b hb)), ?_⟩
          refine wpAnyH_done (by kernel_rfl) ?_ _
          go_wp2_with fail
          go_meet
          exact ⟨rfl, hid Q9, hid (K4d.out.trans ((Kept.of_below B6 U4.out.kl).trans k9 |>.mono hj)), hid (P6.2.same (k9.block b hb))⟩
        · intro w5 A1 N5 b5
          have P5 : WkU w5 K' base g x m l A n c BB kk dd ∧ Var w5 b (encf f) := ⟨U4.out.below b5, L4.out.below b5 (L4.out.lt (by show 0 < 4; omega))⟩
          have S5 : SJ g b x f w5 := SJ.of ⟨_, _, _, _, _, _, P5.1⟩ rfl rfl P5.2
          refine ⟨S5, ?_⟩
          simp only [Act.put, List.setIfInBounds_toArray, List.set_cons_zero, List.set_cons_succ]
          refine rd_cl 25 (some 99) 76 #[] _ (by kernel_rfl) rfl rfl (by unfold execOp; simp [go_sem] <;> rfl) (one_lit _) rfl ?_
          intro w6 b6
          have B6 : Below wc.drew.heap.size wc.drew w6 := b5.trans (b6.mono b5.size)
          have P6 : WkU w6 K' base g x m l A n c BB kk dd ∧ Var w6 b (encf f) := ⟨U4.out.below B6, L4.out.below B6 (L4.out.lt (by show 0 < 4; omega))⟩
          have S6 : SJ g b x f w6 := SJ.of ⟨_, _, _, _, _, _, P6.1⟩ rfl rfl P6.2
          have N6 := N5.below b6
          refine ⟨S6, ?_⟩
          simp only [Act.put, List.setIfInBounds_toArray, List.set_cons_zero, List.set_cons_succ]
          refine tk 27 (some 101) (.agg #[.int .i64 x.id, .int .i64 2, .int .u64 (f.s : Int), .int .i64 st, .int .i64 x.o.p, .int .i64 x.o.d, .int .i64 x.o.r, .int .i64 0, .int .u16 (Q : Int), .int .i64 1, .int .i64 0, .slice A1 1 1, .bool false, .int .i64 1]) rfl rfl (by kernel_rfl) (by kernel_rfl) (by kernel_rfl) (fun _ _ _ h => h) (.inl ⟨by rfl, fun _ _ => by go_simp⟩) S6 ?_
          simp only [Act.put, List.setIfInBounds_toArray, List.set_cons_zero, List.set_cons_succ]
          refine tk 28 (some 102) (.pointer (some ⟨g, 0, none⟩)) rfl rfl (by kernel_rfl) (by kernel_rfl) (by kernel_rfl) (fun _ _ _ h => h) (.inl ⟨by rfl, fun _ _ => by go_simp⟩) S6 ?_
          simp only [Act.put, List.setIfInBounds_toArray, List.set_cons_zero, List.set_cons_succ]
          refine tk 29 (some 103) (.pointer (some ⟨g, 0, none⟩)) rfl rfl (by kernel_rfl) (by kernel_rfl) (by kernel_rfl) (fun _ _ _ h => h) (.inl ⟨by rfl, fun _ _ => by go_simp⟩) S6 ?_
          simp only [Act.put, List.setIfInBounds_toArray, List.set_cons_zero, List.set_cons_succ]
          obtain ⟨p1, hp1, hq1⟩ := N6.2
          have hsz : wc.drew.heap.size ≤ p1 := Nat.le_trans (Nat.le_refl _) hq1
          have hA : ∀ b, ob A1 = some b → ¬ K' b ∧ b ≠ g ∧ ob BB ≠ some b := fun q hq => by
            have e : p1 = q := by rw [hp1] at hq; injection hq
            subst e
            exact ⟨fun hk => by have := U4.out.kl p1 hk; omega, by have := U4.out.lt; omega, fun e => by have := (U4.out.acts.lt e).2; omega⟩
          refine rd_wN 30 (⟨x.id, 2, (f.s : Int), st, x.o, 0, Q, ⟨1, 0⟩, [0], false, 1⟩ : Nd) (by kernel_rfl) rfl rfl rfl rfl rfl rfl P6.1 N6.1 hA ?_
          intro w9 Q9 k9
          refine ⟨SJ.of Q9 rfl rfl (P6.2.same (k9.block b hb)), ?_⟩
          refine wpAnyH_done (by kernel_rfl) ?_ _
          go_wp2_with fail
          go_meet
          exact ⟨rfl, hid Q9, hid (K4d.out.trans ((Kept.of_below B6 U4.out.kl).trans k9 |>.mono hj)), hid (P6.2.same (k9.block b hb))⟩
      · intro w5 A1 N5 b5
        have P5 : WkU w5 K' base g x m l A n c BB kk dd ∧ Var w5 b (encf f) := ⟨U4.out.below b5, L4.out.below b5 (L4.out.lt (by show 0 < 4; omega))⟩
        have S5 : SJ g b x f w5 := SJ.of ⟨_, _, _, _, _, _, P5.1⟩ rfl rfl P5.2
        refine ⟨S5, ?_⟩
        simp only [Act.put, List.setIfInBounds_toArray, List.set_cons_zero, List.set_cons_succ]
        refine rd_cl 24 (some 98) 92 #[.int .u16 (P : Int), .int .i64 x.id] _ (by kernel_rfl) rfl rfl (by unfold execOp; simp [go_sem] <;> rfl) (HU.out _) rfl ?_
        intro wq hwq
        subst hwq
        refine ⟨S5, ?_⟩
        simp only [Act.put, List.setIfInBounds_toArray, List.set_cons_zero, List.set_cons_succ]
        refine rd_cl 25 (some 99) 76 #[] _ (by kernel_rfl) rfl rfl (by unfold execOp; simp [go_sem] <;> rfl) (one_lit _) rfl ?_
        intro w6 b6
        have B6 : Below wc.drew.heap.size wc.drew w6 := b5.trans (b6.mono b5.size)
        have P6 : WkU w6 K' base g x m l A n c BB kk dd ∧ Var w6 b (encf f) := ⟨U4.out.below B6, L4.out.below B6 (L4.out.lt (by show 0 < 4; omega))⟩
        have S6 : SJ g b x f w6 := SJ.of ⟨_, _, _, _, _, _, P6.1⟩ rfl rfl P6.2
        have N6 := N5.below b6
        refine ⟨S6, ?_⟩
        simp only [Act.put, List.setIfInBounds_toArray, List.set_cons_zero, List.set_cons_succ]
        refine tk 27 (some 101) (.agg #[.int .i64 x.id, .int .i64 2, .int .u64 (f.s : Int), .int .i64 st, .int .i64 x.o.p, .int .i64 x.o.d, .int .i64 x.o.r, .int .i64 0, .int .u16 (Q : Int), .int .i64 1, .int .i64 0, .slice A1 1 1, .bool false, .int .i64 1]) rfl rfl (by kernel_rfl) (by kernel_rfl) (by kernel_rfl) (fun _ _ _ h => h) (.inl ⟨by rfl, fun _ _ => by go_simp⟩) S6 ?_
        simp only [Act.put, List.setIfInBounds_toArray, List.set_cons_zero, List.set_cons_succ]
        refine tk 28 (some 102) (.pointer (some ⟨g, 0, none⟩)) rfl rfl (by kernel_rfl) (by kernel_rfl) (by kernel_rfl) (fun _ _ _ h => h) (.inl ⟨by rfl, fun _ _ => by go_simp⟩) S6 ?_
        simp only [Act.put, List.setIfInBounds_toArray, List.set_cons_zero, List.set_cons_succ]
        refine tk 29 (some 103) (.pointer (some ⟨g, 0, none⟩)) rfl rfl (by kernel_rfl) (by kernel_rfl) (by kernel_rfl) (fun _ _ _ h => h) (.inl ⟨by rfl, fun _ _ => by go_simp⟩) S6 ?_
        simp only [Act.put, List.setIfInBounds_toArray, List.set_cons_zero, List.set_cons_succ]
        obtain ⟨p1, hp1, hq1⟩ := N6.2
        have hsz : wc.drew.heap.size ≤ p1 := Nat.le_trans (Nat.le_refl _) hq1
        have hA : ∀ b, ob A1 = some b → ¬ K' b ∧ b ≠ g ∧ ob BB ≠ some b := fun q hq => by
          have e : p1 = q := by rw [hp1] at hq; injection hq
          subst e
          exact ⟨fun hk => by have := U4.out.kl p1 hk; omega, by have := U4.out.lt; omega, fun e => by have := (U4.out.acts.lt e).2; omega⟩
        refine rd_wN 30 (⟨x.id, 2, (f.s : Int), st, x.o, 0, Q, ⟨1, 0⟩, [0], false, 1⟩ : Nd) (by kernel_rfl) rfl rfl rfl rfl rfl rfl P6.1 N6.1 hA ?_
        intro w9 Q9 k9
        refine ⟨SJ.of Q9 rfl rfl (P6.2.same (k9.block b hb)), ?_⟩
        refine wpAnyH_done (by kernel_rfl) ?_ _
        go_wp2_with fail
        go_meet
        exact ⟨rfl, hid Q9, hid (K4d.out.trans ((Kept.of_below B6 U4.out.kl).trans k9 |>.mono hj)), hid (P6.2.same (k9.block b hb))⟩
    · intro w5 A1 N5 b5
      have P5 : WkU w5 K' base g x m l A n c BB kk dd ∧ Var w5 b (encf f) := ⟨U4.out.below b5, L4.out.below b5 (L4.out.lt (by show 0 < 4; omega))⟩
      have S5 : SJ g b x f w5 := SJ.of ⟨_, _, _, _, _, _, P5.1⟩ rfl rfl P5.2
      refine ⟨S5, ?_⟩
      simp only [Act.put, List.setIfInBounds_toArray, List.set_cons_zero, List.set_cons_succ]
      refine rd_cl 18 (some 92) 75 #[.int .u16 (f.m : Int), .int .i64 f.f] _ (by kernel_rfl) rfl rfl (by unfold execOp; simp [go_sem] <;> rfl) (HW.out _) rfl ?_
      intro wq hwq
      subst hwq
      refine ⟨S5, ?_⟩
      simp only [Act.put, List.setIfInBounds_toArray, List.set_cons_zero, List.set_cons_succ]
      refine rd_cl 24 (some 98) 92 #[.int .u16 (P : Int), .int .i64 x.id] _ (by kernel_rfl) rfl rfl (by unfold execOp; simp [go_sem] <;> rfl) (HU.out _) rfl ?_
      intro wq hwq
      subst hwq
      refine ⟨S5, ?_⟩
      simp only [Act.put, List.setIfInBounds_toArray, List.set_cons_zero, List.set_cons_succ]
      refine rd_cl 25 (some 99) 76 #[] _ (by kernel_rfl) rfl rfl (by unfold execOp; simp [go_sem] <;> rfl) (one_lit _) rfl ?_
      intro w6 b6
      have B6 : Below wc.drew.heap.size wc.drew w6 := b5.trans (b6.mono b5.size)
      have P6 : WkU w6 K' base g x m l A n c BB kk dd ∧ Var w6 b (encf f) := ⟨U4.out.below B6, L4.out.below B6 (L4.out.lt (by show 0 < 4; omega))⟩
      have S6 : SJ g b x f w6 := SJ.of ⟨_, _, _, _, _, _, P6.1⟩ rfl rfl P6.2
      have N6 := N5.below b6
      refine ⟨S6, ?_⟩
      simp only [Act.put, List.setIfInBounds_toArray, List.set_cons_zero, List.set_cons_succ]
      refine tk 27 (some 101) (.agg #[.int .i64 x.id, .int .i64 2, .int .u64 (f.s : Int), .int .i64 st, .int .i64 x.o.p, .int .i64 x.o.d, .int .i64 x.o.r, .int .i64 0, .int .u16 (Q : Int), .int .i64 1, .int .i64 0, .slice A1 1 1, .bool false, .int .i64 1]) rfl rfl (by kernel_rfl) (by kernel_rfl) (by kernel_rfl) (fun _ _ _ h => h) (.inl ⟨by rfl, fun _ _ => by go_simp⟩) S6 ?_
      simp only [Act.put, List.setIfInBounds_toArray, List.set_cons_zero, List.set_cons_succ]
      refine tk 28 (some 102) (.pointer (some ⟨g, 0, none⟩)) rfl rfl (by kernel_rfl) (by kernel_rfl) (by kernel_rfl) (fun _ _ _ h => h) (.inl ⟨by rfl, fun _ _ => by go_simp⟩) S6 ?_
      simp only [Act.put, List.setIfInBounds_toArray, List.set_cons_zero, List.set_cons_succ]
      refine tk 29 (some 103) (.pointer (some ⟨g, 0, none⟩)) rfl rfl (by kernel_rfl) (by kernel_rfl) (by kernel_rfl) (fun _ _ _ h => h) (.inl ⟨by rfl, fun _ _ => by go_simp⟩) S6 ?_
      simp only [Act.put, List.setIfInBounds_toArray, List.set_cons_zero, List.set_cons_succ]
      obtain ⟨p1, hp1, hq1⟩ := N6.2
      have hsz : wc.drew.heap.size ≤ p1 := Nat.le_trans (Nat.le_refl _) hq1
      have hA : ∀ b, ob A1 = some b → ¬ K' b ∧ b ≠ g ∧ ob BB ≠ some b := fun q hq => by
        have e : p1 = q := by rw [hp1] at hq; injection hq
        subst e
        exact ⟨fun hk => by have := U4.out.kl p1 hk; omega, by have := U4.out.lt; omega, fun e => by have := (U4.out.acts.lt e).2; omega⟩
      refine rd_wN 30 (⟨x.id, 2, (f.s : Int), st, x.o, 0, Q, ⟨1, 0⟩, [0], false, 1⟩ : Nd) (by kernel_rfl) rfl rfl rfl rfl rfl rfl P6.1 N6.1 hA ?_
      intro w9 Q9 k9
      refine ⟨SJ.of Q9 rfl rfl (P6.2.same (k9.block b hb)), ?_⟩
      refine wpAnyH_done (by kernel_rfl) ?_ _
      go_wp2_with fail
      go_meet
      exact ⟨rfl, hid Q9, hid (K4d.out.trans ((Kept.of_below B6 U4.out.kl).trans k9 |>.mono hj)), hid (P6.2.same (k9.block b hb))⟩
  clear W4 K4 V4 HW HU
  obtain ⟨rfl, W9, K9, V9⟩ := hcut
  have d2 : wc.cell? ⟨b, 2, none⟩ = some (.int .u64 (f.s : Int)) := V9.out.cell rfl
  go_wp2_with (first
    | (go_at_call 73; (with_reducible refine (HT.out K' w10 W10.out).mono ?_); rintro e w11 ⟨rfl, W11, k11⟩)
    | (go_at_call 72; (with_reducible refine (HN.out K' wc W9.out).mono ?_); rintro e w10 ⟨rfl, W10, k10⟩; have W10 := hid W10; have K10 := hid (K9.out.trans (k10.mono hj)); have d15 : w10.cell? ⟨g, 15, none⟩ = some (.int .i64 m.s) := W10.out.cell fun _ _ _ _ _ _ => rfl))
  go_ret
  exact ⟨rfl, W11.mono hj, K10.out.trans (k11.mono hj)⟩
end Go.Proofs.YtlgedfljmgedfaaGreat
namespace Go.Proofs.YtlgedfljmgedfaaGreat
open Go Go.RowKit
open M10 (hid Md encm mv mz Oth range_keep there_keep range_other there_other setCells_oth setCells_size there_set Ty enct tv tz Fr encf fv fz)
open O6 (Oc enco ov oz)
open T9 (sv)
/-! ### Wake's closure -/
def wakN (x : Nd) (now : Int) : Nd := if x.ph = 0 then lisN x now else x
def wakL (m : Md) (x : Nd) (now : Int) : List Ac := if x.ph = 0 then [note 1 0, timr (timeT (lisN x now) (lisK x m))] else []
def wakE (m : Md) (x : Nd) (now : Int) : Int := if x.ph = 0 then timeE (lisN x now) (lisK x m) else 0
set_option maxRecDepth 100000 in
set_option maxHeartbeats 1000000 in
theorem wake_c (K : Nat → Prop) (base g cn : Nat) (x : Nd) (m : Md) (now : Int) (w : World) (h : Wk w K base g x m []) (k : NdOk m x) (hc : w.cell? ⟨cn, 0, none⟩ = some (.int .i64 now)) (n0 : 0 ≤ now) (n1 : now ≤ 1152921504606846976) :
    Calls Tryz.prog 31 #[.pointer (some ⟨g, 0, none⟩), .pointer (some ⟨cn, 0, none⟩)] w (RetW K base g (wakN x now) m (wakL m x now) (.int .i64 (wakE m x now)) w) := by
  have H := hid h
  have c1 : w.cell? ⟨g, 1, none⟩ = some (.int .i64 x.ph) := h.cell fun _ _ _ _ _ _ => rfl
  by_cases hp : x.ph = 0
  · rw [show wakN x now = _ from if_pos hp, show wakL m x now = _ from if_pos hp, show wakE m x now = _ from if_pos hp]
    have HL := hid (listen_w K base g x m [] now w h (by simp) k.hm k.i0 k.i1 k.ho n0 n1)
    rw [hp] at c1
    clear h k n0 n1 hp H
    go_enter Tryz.func31, Tryz.ntmps31
    go_wp2_with (first
      | (go_at_call 32; (with_reducible refine HL.out.mono ?_); rintro e w1 ⟨rfl, W1, k1⟩))
    go_ret
    exact ⟨rfl, W1, k1⟩
  · rw [show wakN x now = _ from if_neg hp, show wakL m x now = _ from if_neg hp, show wakE m x now = _ from if_neg hp]
    have e1 : (x.ph != 0) = true := by simpa using hp
    clear h k n0 n1 hp hc
    go_enter Tryz.func31, Tryz.ntmps31
    go_wp2_with fail
    go_ret
    exact ⟨rfl, H.out, Kept.refl _ _⟩
/-! ### Timer's closure -/
/-- It sends: its slot is its own, and it has not sent. -/
def sends (m : Md) (x : Nd) : Prop := x.sl % m.n = x.id ∧ x.se = false
instance (m : Md) (x : Nd) : Decidable (sends m x) := by unfold sends; infer_instance
def timN (m : Md) (x : Nd) (now : Int) : Nd := if x.ph = 1 then staN x now else if ¬ x.ph = 2 then x else if sends m x then sendN x else endN m x
def timL (m : Md) (x : Nd) (now : Int) : List Ac := if x.ph = 1 then [note 2 0, timr (timeT (staN x now) m.l)] else if ¬ x.ph = 2 then [] else if sends m x then sendL m x else endL m x
def timE (m : Md) (x : Nd) (now : Int) : Int := if x.ph = 1 then timeE (staN x now) m.l else if ¬ x.ph = 2 then 0 else if sends m x then sendE m x else endE m x
set_option maxRecDepth 100000 in
set_option maxHeartbeats 1000000 in
theorem timer_listen (K : Nat → Prop) (base g cn : Nat) (x : Nd) (m : Md) (now : Int) (w : World) (h : Wk w K base g x m []) (k : NdOk m x) (hc : w.cell? ⟨cn, 0, none⟩ = some (.int .i64 now)) (n0 : 0 ≤ now) (n1 : now ≤ 1152921504606846976) (hp : x.ph = 1) :
    Calls Tryz.prog 37 #[.pointer (some ⟨g, 0, none⟩), .pointer (some ⟨cn, 0, none⟩)] w (RetW K base g (staN x now) m [note 2 0, timr (timeT (staN x now) m.l)] (.int .i64 (timeE (staN x now) m.l)) w) := by
  have H := hid h
  have c1 : w.cell? ⟨g, 1, none⟩ = some (.int .i64 x.ph) := h.cell fun _ _ _ _ _ _ => rfl
  have HL := hid (start_w K base g x m [] now w h (by simp) k.hm k.i0 k.i1 k.ho n0 n1)
  rw [hp] at c1
  clear h k n0 n1 hp H
  go_enter Tryz.func37, Tryz.ntmps37
  go_wp2_with (first
    | (go_at_call 38; (with_reducible refine HL.out.mono ?_); rintro e w1 ⟨rfl, W1, k1⟩))
  go_ret
  exact ⟨rfl, W1, k1⟩
set_option maxRecDepth 100000 in
set_option maxHeartbeats 1000000 in
theorem timer_idle (K : Nat → Prop) (base g cn : Nat) (x : Nd) (m : Md) (_now : Int) (w : World) (h : Wk w K base g x m []) (_k : NdOk m x) (h1 : ¬ x.ph = 1) (h2 : ¬ x.ph = 2) :
    Calls Tryz.prog 37 #[.pointer (some ⟨g, 0, none⟩), .pointer (some ⟨cn, 0, none⟩)] w (RetW K base g x m [] (.int .i64 0) w) := by
  have H := hid h
  have c1 : w.cell? ⟨g, 1, none⟩ = some (.int .i64 x.ph) := h.cell fun _ _ _ _ _ _ => rfl
  have e1 : (x.ph == 1) = false := by simpa using h1
  have e2 : (x.ph != 2) = true := by simpa using h2
  clear h _k h1 h2
  go_enter Tryz.func37, Tryz.ntmps37
  go_wp2_with fail
  go_ret
  exact ⟨rfl, H.out, Kept.refl _ _⟩
set_option maxRecDepth 100000 in
set_option maxHeartbeats 1000000 in
theorem timer_send (K : Nat → Prop) (base g cn : Nat) (x : Nd) (m : Md) (_now : Int) (w : World) (h : Wk w K base g x m []) (k : NdOk m x) (hp : x.ph = 2) (hO : x.sl % m.n = x.id) (hs : x.se = false) :
    Calls Tryz.prog 37 #[.pointer (some ⟨g, 0, none⟩), .pointer (some ⟨cn, 0, none⟩)] w (RetW K base g (sendN x) m (sendL m x) (.int .i64 (sendE m x)) w) := by
  have H := hid h
  have c1 : w.cell? ⟨g, 1, none⟩ = some (.int .i64 x.ph) := h.cell fun _ _ _ _ _ _ => rfl
  rw [hp] at c1
  have T0 := hid (fun (d : Nat) (os : Array Obj) => Calls.regrown_of (d := d) (os := os) (owner_w K base g x m [] (Sort.grow (redrawn w d) os) (H.out.below (below_regrown w d os)) k.hm k.s0 k.s1))
  have c0 : Hid (w.cell? ⟨g, 0, none⟩ = some (.int .i64 x.id)) := hid (h.cell fun _ _ _ _ _ _ => rfl)
  have c12 : Hid (w.cell? ⟨g, 12, none⟩ = some (.bool x.se)) := hid (h.cell fun _ _ _ _ _ _ => rfl)
  rw [hs] at c12
  have e1 : (x.sl % m.n == x.id) = true := by simpa using hO
  have HS := hid (fun (w1 : World) (h : Wk w1 K base g x m []) => send_any K base g x m [] w1 h (by simp) k)
  clear hO hs
  clear h k hp
  generalize x.sl % m.n = O at *
  go_enter Tryz.func37, Tryz.ntmps37
  go_wp2_with fail
  refine wp_region_quiet_below (by kernel_rfl) (by kernel_rfl) ?_
  repeat (first | go_big_quiet_skip | refine wpQuiet_gl1 3 rfl rfl rfl Tryz.isAgg3 c0.out ?_ | refine wpQuiet_gl1 4 rfl rfl rfl Tryz.isAgg4 c12.out ?_ | quiet_step (with_reducible exact T0.out _ _))
  refine wpQuiet_nil ?_
  intro _ hw'
  obtain ⟨⟨dq, osq⟩, hw''⟩ := hw'
  subst hw''
  have W1 := hid (H.out.below (below_regrown w dq osq))
  have K1 := hid (H.out.keptb (below_regrown w dq osq))
  generalize Sort.grow (redrawn w dq) osq = w1 at *
  clear c0 c12 T0 H c1
  go_wp2_with (first
    | (go_at_call 40; (with_reducible refine (HS.out w1 W1.out).mono ?_); rintro e w2 ⟨rfl, W2, k2⟩))
  go_ret
  exact ⟨rfl, W2, K1.out.trans k2⟩
set_option maxRecDepth 100000 in
set_option maxHeartbeats 1000000 in
theorem timer_ends (K : Nat → Prop) (base g cn : Nat) (x : Nd) (m : Md) (_now : Int) (w : World) (h : Wk w K base g x m []) (k : NdOk m x) (hp : x.ph = 2) (hO : x.sl % m.n = x.id) (hs : x.se = true) :
    Calls Tryz.prog 37 #[.pointer (some ⟨g, 0, none⟩), .pointer (some ⟨cn, 0, none⟩)] w (RetW K base g (endN m x) m (endL m x) (.int .i64 (endE m x)) w) := by
  have H := hid h
  have c1 : w.cell? ⟨g, 1, none⟩ = some (.int .i64 x.ph) := h.cell fun _ _ _ _ _ _ => rfl
  rw [hp] at c1
  have T0 := hid (fun (d : Nat) (os : Array Obj) => Calls.regrown_of (d := d) (os := os) (owner_w K base g x m [] (Sort.grow (redrawn w d) os) (H.out.below (below_regrown w d os)) k.hm k.s0 k.s1))
  have c0 : Hid (w.cell? ⟨g, 0, none⟩ = some (.int .i64 x.id)) := hid (h.cell fun _ _ _ _ _ _ => rfl)
  have c12 : Hid (w.cell? ⟨g, 12, none⟩ = some (.bool x.se)) := hid (h.cell fun _ _ _ _ _ _ => rfl)
  rw [hs] at c12
  have e1 : (x.sl % m.n == x.id) = true := by simpa using hO
  have HS := hid (fun (w1 : World) (h : Wk w1 K base g x m []) => end_any K base g x m [] w1 h (by simp) k)
  clear hO hs
  clear h k hp
  generalize x.sl % m.n = O at *
  go_enter Tryz.func37, Tryz.ntmps37
  go_wp2_with fail
  refine wp_region_quiet_below (by kernel_rfl) (by kernel_rfl) ?_
  repeat (first | go_big_quiet_skip | refine wpQuiet_gl1 3 rfl rfl rfl Tryz.isAgg3 c0.out ?_ | refine wpQuiet_gl1 4 rfl rfl rfl Tryz.isAgg4 c12.out ?_ | quiet_step (with_reducible exact T0.out _ _))
  refine wpQuiet_nil ?_
  intro _ hw'
  obtain ⟨⟨dq, osq⟩, hw''⟩ := hw'
  subst hw''
  have W1 := hid (H.out.below (below_regrown w dq osq))
  have K1 := hid (H.out.keptb (below_regrown w dq osq))
  generalize Sort.grow (redrawn w dq) osq = w1 at *
  clear c0 c12 T0 H c1
  go_wp2_with (first
    | (go_at_call 41; (with_reducible refine (HS.out w1 W1.out).mono ?_); rintro e w2 ⟨rfl, W2, k2⟩))
  go_ret
  exact ⟨rfl, W2, K1.out.trans k2⟩
set_option maxRecDepth 100000 in
set_option maxHeartbeats 1000000 in
theorem timer_other (K : Nat → Prop) (base g cn : Nat) (x : Nd) (m : Md) (_now : Int) (w : World) (h : Wk w K base g x m []) (k : NdOk m x) (hp : x.ph = 2) (hO : ¬ x.sl % m.n = x.id) :
    Calls Tryz.prog 37 #[.pointer (some ⟨g, 0, none⟩), .pointer (some ⟨cn, 0, none⟩)] w (RetW K base g (endN m x) m (endL m x) (.int .i64 (endE m x)) w) := by
  have H := hid h
  have c1 : w.cell? ⟨g, 1, none⟩ = some (.int .i64 x.ph) := h.cell fun _ _ _ _ _ _ => rfl
  rw [hp] at c1
  have T0 := hid (fun (d : Nat) (os : Array Obj) => Calls.regrown_of (d := d) (os := os) (owner_w K base g x m [] (Sort.grow (redrawn w d) os) (H.out.below (below_regrown w d os)) k.hm k.s0 k.s1))
  have c0 : Hid (w.cell? ⟨g, 0, none⟩ = some (.int .i64 x.id)) := hid (h.cell fun _ _ _ _ _ _ => rfl)
  have c12 : Hid (w.cell? ⟨g, 12, none⟩ = some (.bool x.se)) := hid (h.cell fun _ _ _ _ _ _ => rfl)
  have e1 : (x.sl % m.n == x.id) = false := by simpa using hO
  have HS := hid (fun (w1 : World) (h : Wk w1 K base g x m []) => end_any K base g x m [] w1 h (by simp) k)
  clear hO
  clear h k hp
  generalize x.sl % m.n = O at *
  go_enter Tryz.func37, Tryz.ntmps37
  go_wp2_with fail
  refine wp_region_quiet_below (by kernel_rfl) (by kernel_rfl) ?_
  repeat (first | go_big_quiet_skip | refine wpQuiet_gl1 3 rfl rfl rfl Tryz.isAgg3 c0.out ?_ | refine wpQuiet_gl1 4 rfl rfl rfl Tryz.isAgg4 c12.out ?_ | quiet_step (with_reducible exact T0.out _ _))
  refine wpQuiet_nil ?_
  intro _ hw'
  obtain ⟨⟨dq, osq⟩, hw''⟩ := hw'
  subst hw''
  have W1 := hid (H.out.below (below_regrown w dq osq))
  have K1 := hid (H.out.keptb (below_regrown w dq osq))
  generalize Sort.grow (redrawn w dq) osq = w1 at *
  clear c0 c12 T0 H c1
  go_wp2_with (first
    | (go_at_call 41; (with_reducible refine (HS.out w1 W1.out).mono ?_); rintro e w2 ⟨rfl, W2, k2⟩))
  go_ret
  exact ⟨rfl, W2, K1.out.trans k2⟩
theorem timer_c (K : Nat → Prop) (base g cn : Nat) (x : Nd) (m : Md) (now : Int) (w : World) (h : Wk w K base g x m []) (k : NdOk m x) (hc : w.cell? ⟨cn, 0, none⟩ = some (.int .i64 now)) (n0 : 0 ≤ now) (n1 : now ≤ 1152921504606846976) :
    Calls Tryz.prog 37 #[.pointer (some ⟨g, 0, none⟩), .pointer (some ⟨cn, 0, none⟩)] w (RetW K base g (timN m x now) m (timL m x now) (.int .i64 (timE m x now)) w) := by
  unfold timN timL timE
  by_cases h1 : x.ph = 1
  · rw [if_pos h1, if_pos h1, if_pos h1]; exact timer_listen K base g cn x m now w h k hc n0 n1 h1
  · rw [if_neg h1, if_neg h1, if_neg h1]
    by_cases h2 : x.ph = 2
    · rw [if_neg (not_not_intro h2), if_neg (not_not_intro h2), if_neg (not_not_intro h2)]
      by_cases hs : sends m x
      · rw [if_pos hs, if_pos hs, if_pos hs]; exact timer_send K base g cn x m now w h k h2 hs.1 hs.2
      · rw [if_neg hs, if_neg hs, if_neg hs]
        by_cases hO : x.sl % m.n = x.id
        · exact timer_ends K base g cn x m now w h k h2 hO (by cases hse : x.se; exact absurd ⟨hO, hse⟩ hs; rfl)
        · exact timer_other K base g cn x m now w h k h2 hO
    · rw [if_pos h2, if_pos h2, if_pos h2]; exact timer_idle K base g cn x m now w h k h1 h2
end Go.Proofs.YtlgedfljmgedfaaGreat
namespace Go.Proofs.YtlgedfljmgedfaaGreat
open Go Go.RowKit
open M10 (hid Md encm mv mz Oth range_keep there_keep range_other there_other setCells_oth setCells_size there_set Ty enct tv tz Fr encf fv fz)
open O6 (Oc enco ov oz)
open T9 (sv)
/-! ### join whole -/
/-- By this frame it joins. -/
def joins (m : Md) (x : Nd) (f : Fr) (now began : Int) : Prop := (f.s : Int) % m.n = f.f ∧ 0 ≤ began - O6.psO x.o m.l ∧ now < began - O6.psO x.o m.l + O6.psO x.o m.s
instance (m : Md) (x : Nd) (f : Fr) (a b : Int) : Decidable (joins m x f a b) := by unfold joins; infer_instance
def joinN (m : Md) (x : Nd) (f : Fr) (now began : Int) : Nd := if joins m x f now began then joiN x f (began - O6.psO x.o m.l) else x
def joinL (m : Md) (x : Nd) (f : Fr) (now began : Int) : List Ac := if joins m x f now began then [note 3 (f.s : Int), timr (timeT (joiN x f (began - O6.psO x.o m.l)) m.s)] else []
def joinE (m : Md) (x : Nd) (f : Fr) (now began : Int) : Int := if joins m x f now began then timeE (joiN x f (began - O6.psO x.o m.l)) m.s else 0
theorem join_any (K : Nat → Prop) (base g : Nat) (x : Nd) (m : Md) (f : Fr) (now began : Int) (w : World) (h : Wk w K base g x m []) (k : NdOk m x) (hf : M10.OkF f) (hfm : f.m < 65536) (hb0 : 0 ≤ began) (hb1 : began ≤ now) (hn : now ≤ 1152921504606846976) :
    Calls Tryz.prog 48 #[.pointer (some ⟨g, 0, none⟩), fv f, .int .i64 now, .int .i64 began] w (RetW K base g (joinN m x f now began) m (joinL m x f now began) (.int .i64 (joinE m x f now began)) w) := by
  unfold joinN joinL joinE
  by_cases hj : joins m x f now began
  · rw [if_pos hj, if_pos hj, if_pos hj]
    exact join_ok K base g x m [] f now began _ w h (by simp) k hf hfm hj.1 hb0 hb1 hn rfl hj.2.1 hj.2.2
  · rw [if_neg hj, if_neg hj, if_neg hj]
    by_cases hO : (f.s : Int) % m.n = f.f
    · by_cases hs : began - O6.psO x.o m.l < 0
      · exact join_early K base g x m [] f now began w h (by simp) k hf hO hb0 hb1 hn hs
      · have hs : 0 ≤ began - O6.psO x.o m.l := by omega
        exact join_late K base g x m [] f now began w h (by simp) k hf hO hb0 hb1 hn hs (by have : ¬ now < began - O6.psO x.o m.l + O6.psO x.o m.s := fun e => hj ⟨hO, hs, e⟩; omega)
    · exact join_other K base g x m [] f now began w h k hf hO
/-! ### What is read -/
def tof (f : F8.Fr) : Fr := ⟨f.k, f.f, f.s, f.m⟩
def rdF (bs : List Nat) : Fr := tof (F8.rd bs).1
def rdE (bs : List Nat) : Nat := (F8.rd bs).2
theorem rd_ok {bs : List Nat} (ho : F8.Oct bs) (h : rdE bs = 0) : M10.OkF (rdF bs) ∧ (rdF bs).m < 65536 := by
  unfold rdE at h
  unfold rdF
  unfold F8.rd at h ⊢
  split at h
  · cases h
  split at h
  · cases h
  split at h
  · split at h
    · next h1 h2 h3 h4 =>
      rw [if_neg h1, if_neg h2, if_pos h3, if_pos h4]
      refine ⟨h4.2, ?_⟩
      have hO : F8.Oct (bs.take (bs.length - 3)) := fun x hx => ho x (List.mem_of_mem_take hx)
      exact (F8.tf_place _ _ 2 _ _ _ hO rfl).1
    · cases h
  · cases h
theorem readF_any (A : Option Addr) (n c B : Nat) (bs : List Nat) (w : World) (ha : F8.Row w B A n (F8.bv bs)) (hB : B ≤ w.heap.size) (ho : F8.Oct bs) (hnc : n ≤ c) (hn : n ≤ 1048579) :
    Calls Tryz.prog 27 #[.slice A n c] w fun e w' => e = .returned (.tuple #[fv (rdF bs), .int .i64 (rdE bs : Nat)]) ∧ Below w.heap.size w w' := F8.read_any A n c B bs w ha hB ho hnc hn
/-! ### Hear's closure -/
/-- What is heard does not concern it. -/
def deaf (x : Nd) (bs : List Nat) (bad : Bool) : Prop := bad = true ∨ ¬ rdE bs = 0 ∨ (rdF bs).f = x.id
instance (x : Nd) (bs : List Nat) (bad : Bool) : Decidable (deaf x bs bad) := by unfold deaf; infer_instance
def heaN (m : Md) (x : Nd) (now began : Int) (bs : List Nat) (bad : Bool) : Nd := if deaf x bs bad then x else if x.ph = 1 then joinN m x (rdF bs) now began else if x.ph = 2 then judN m x (rdF bs) began else x
def heaL (m : Md) (x : Nd) (now began : Int) (bs : List Nat) (bad : Bool) : List Ac := if deaf x bs bad then [] else if x.ph = 1 then joinL m x (rdF bs) now began else if x.ph = 2 then judL m x (rdF bs) began else []
def heaE (m : Md) (x : Nd) (now began : Int) (bs : List Nat) (bad : Bool) : Int := if deaf x bs bad then 0 else if x.ph = 1 then joinE m x (rdF bs) now began else 0
set_option maxRecDepth 100000 in
set_option maxHeartbeats 2000000 in
theorem hear_a (K : Nat → Prop) (base g cb cd cn cg : Nat) (x : Nd) (m : Md) (now began : Int) (A : Option Addr) (n c BB : Nat) (bs : List Nat) (bad : Bool) (w : World) (h : Wk w K base g x m []) (k : NdOk m x)
    (hb : w.cell? ⟨cb, 0, none⟩ = some (.slice A n c)) (hd : w.cell? ⟨cd, 0, none⟩ = some (.bool bad)) (hn : w.cell? ⟨cn, 0, none⟩ = some (.int .i64 now)) (hg : w.cell? ⟨cg, 0, none⟩ = some (.int .i64 began))
    (hr : F8.Row w BB A n (F8.bv bs)) (hB : BB ≤ w.heap.size) (ho : F8.Oct bs) (hnc : n ≤ c) (hn5 : n ≤ 1048579) (g0 : 0 ≤ began) (g1 : began ≤ now) (n1 : now ≤ 1152921504606846976) (hbad : bad = true) :
    Calls Tryz.prog 47 #[.pointer (some ⟨g, 0, none⟩), .pointer (some ⟨cb, 0, none⟩), .pointer (some ⟨cd, 0, none⟩), .pointer (some ⟨cn, 0, none⟩), .pointer (some ⟨cg, 0, none⟩)] w (RetW K base g x m [] (.int .i64 0) w) := by
  have zz := And.intro hn (And.intro hg (And.intro g0 (And.intro g1 (And.intro n1 k))))
  clear zz
  have H := hid h
  have HR := hid (readF_any A n c BB bs w hr hB ho hnc hn5)
  have LD := hid (World.block_lt_of_cell? w _ hd)
  have HD := hid hd
  rw [hbad] at HD hd
  clear h k hd hn hg hr hB ho hnc hn5 g0 g1 n1 hbad
  generalize rdF bs = F at *
  generalize ((rdE bs : Nat) : Int) = er at *
  go_enter Tryz.func47, Tryz.ntmps47
  go_wp2_with (first
    | (refine wpList_gst 54 (encf F) rfl (.tmp 7) (.tmp 12) rfl rfl rfl v2 (by show 0 + 4 ≤ 4; omega) (by rw [size54]; rfl) (M10.encf_one _) ?_; intro w3 v3 b3 o3 s3; have V3 : Hid (Var w3 w1.heap.size (encf F)) := hid v3; have BT := hid (b1.trans ((b2.trans (b3.mono (Nat.le_refl _))).mono b1.size)); clear b1 b2 b3 o3 s2 s3 v2 v3)
    | (refine wpList_galloc 54 (encf fz) M10.zero25 rfl rfl ?_; intro w2 v2 b2 s2)
    | (go_at_call 27; (with_reducible refine HR.out.mono ?_); rintro e w1 ⟨rfl, b1⟩))
  have W3 := hid (H.out.below BT.out)
  have K3 := hid (H.out.keptb BT.out)
  have d0 : Hid (w3.cell? ⟨g, 0, none⟩ = some (.int .i64 x.id)) := hid (W3.out.cell fun _ _ _ _ _ _ => rfl)
  have f1 : Hid (w3.cell? ⟨w1.heap.size, 1, none⟩ = some (.int .i64 F.f)) := hid (V3.out.cell rfl)
  have dd : Hid (w3.cell? ⟨cd, 0, none⟩ = some (.bool true)) := hid ((BT.out.cell (p := ⟨cd, 0, none⟩) LD.out).trans HD.out)
  refine wp_region_quiet_below (by kernel_rfl) (by kernel_rfl) ?_
  repeat (first | go_big_quiet_skip | refine wpQuiet_gl1 4 rfl rfl rfl Tryz.isAgg4 dd.out ?_ | refine wpQuiet_gl1 3 rfl rfl rfl Tryz.isAgg3 f1.out ?_ | refine wpQuiet_gl1 3 rfl rfl rfl Tryz.isAgg3 d0.out ?_ | quiet_step (fail))
  refine wpQuiet_nil ?_
  intro _ hw'
  obtain ⟨⟨dq, osq⟩, hw''⟩ := hw'
  subst hw''
  have B4 := hid (below_regrown w3 dq osq)
  have W4 := hid (W3.out.below B4.out)
  have K4 := hid (K3.out.trans (W3.out.keptb B4.out))
  generalize Sort.grow (redrawn w3 dq) osq = w4 at *
  go_wp2_with fail
  go_ret
  exact ⟨rfl, W4.out, K4.out⟩
set_option maxRecDepth 100000 in
set_option maxHeartbeats 2000000 in
theorem hear_b (K : Nat → Prop) (base g cb cd cn cg : Nat) (x : Nd) (m : Md) (now began : Int) (A : Option Addr) (n c BB : Nat) (bs : List Nat) (bad : Bool) (w : World) (h : Wk w K base g x m []) (k : NdOk m x)
    (hb : w.cell? ⟨cb, 0, none⟩ = some (.slice A n c)) (hd : w.cell? ⟨cd, 0, none⟩ = some (.bool bad)) (hn : w.cell? ⟨cn, 0, none⟩ = some (.int .i64 now)) (hg : w.cell? ⟨cg, 0, none⟩ = some (.int .i64 began))
    (hr : F8.Row w BB A n (F8.bv bs)) (hB : BB ≤ w.heap.size) (ho : F8.Oct bs) (hnc : n ≤ c) (hn5 : n ≤ 1048579) (g0 : 0 ≤ began) (g1 : began ≤ now) (n1 : now ≤ 1152921504606846976) (hbad : bad = false) (hE : ¬ rdE bs = 0) :
    Calls Tryz.prog 47 #[.pointer (some ⟨g, 0, none⟩), .pointer (some ⟨cb, 0, none⟩), .pointer (some ⟨cd, 0, none⟩), .pointer (some ⟨cn, 0, none⟩), .pointer (some ⟨cg, 0, none⟩)] w (RetW K base g x m [] (.int .i64 0) w) := by
  have zz := And.intro hn (And.intro hg (And.intro g0 (And.intro g1 (And.intro n1 k))))
  clear zz
  have H := hid h
  have HR := hid (readF_any A n c BB bs w hr hB ho hnc hn5)
  have LD := hid (World.block_lt_of_cell? w _ hd)
  have HD := hid hd
  rw [hbad] at HD hd
  have eE : (((rdE bs : Nat) : Int) != 0) = true := by simp; omega
  clear h k hd hn hg hr hB ho hnc hn5 g0 g1 n1 hbad hE
  generalize rdF bs = F at *
  generalize ((rdE bs : Nat) : Int) = er at *
  go_enter Tryz.func47, Tryz.ntmps47
  go_wp2_with (first
    | (refine wpList_gst 54 (encf F) rfl (.tmp 7) (.tmp 12) rfl rfl rfl v2 (by show 0 + 4 ≤ 4; omega) (by rw [size54]; rfl) (M10.encf_one _) ?_; intro w3 v3 b3 o3 s3; have V3 : Hid (Var w3 w1.heap.size (encf F)) := hid v3; have BT := hid (b1.trans ((b2.trans (b3.mono (Nat.le_refl _))).mono b1.size)); clear b1 b2 b3 o3 s2 s3 v2 v3)
    | (refine wpList_galloc 54 (encf fz) M10.zero25 rfl rfl ?_; intro w2 v2 b2 s2)
    | (go_at_call 27; (with_reducible refine HR.out.mono ?_); rintro e w1 ⟨rfl, b1⟩))
  have W3 := hid (H.out.below BT.out)
  have K3 := hid (H.out.keptb BT.out)
  have d0 : Hid (w3.cell? ⟨g, 0, none⟩ = some (.int .i64 x.id)) := hid (W3.out.cell fun _ _ _ _ _ _ => rfl)
  have f1 : Hid (w3.cell? ⟨w1.heap.size, 1, none⟩ = some (.int .i64 F.f)) := hid (V3.out.cell rfl)
  have dd : Hid (w3.cell? ⟨cd, 0, none⟩ = some (.bool false)) := hid ((BT.out.cell (p := ⟨cd, 0, none⟩) LD.out).trans HD.out)
  refine wp_region_quiet_below (by kernel_rfl) (by kernel_rfl) ?_
  repeat (first | go_big_quiet_skip | refine wpQuiet_gl1 4 rfl rfl rfl Tryz.isAgg4 dd.out ?_ | refine wpQuiet_gl1 3 rfl rfl rfl Tryz.isAgg3 f1.out ?_ | refine wpQuiet_gl1 3 rfl rfl rfl Tryz.isAgg3 d0.out ?_ | quiet_step (fail))
  refine wpQuiet_nil ?_
  intro _ hw'
  obtain ⟨⟨dq, osq⟩, hw''⟩ := hw'
  subst hw''
  have B4 := hid (below_regrown w3 dq osq)
  have W4 := hid (W3.out.below B4.out)
  have K4 := hid (K3.out.trans (W3.out.keptb B4.out))
  generalize Sort.grow (redrawn w3 dq) osq = w4 at *
  go_wp2_with fail
  go_ret
  exact ⟨rfl, W4.out, K4.out⟩
set_option maxRecDepth 100000 in
set_option maxHeartbeats 2000000 in
theorem hear_own (K : Nat → Prop) (base g cb cd cn cg : Nat) (x : Nd) (m : Md) (now began : Int) (A : Option Addr) (n c BB : Nat) (bs : List Nat) (bad : Bool) (w : World) (h : Wk w K base g x m []) (k : NdOk m x)
    (hb : w.cell? ⟨cb, 0, none⟩ = some (.slice A n c)) (hd : w.cell? ⟨cd, 0, none⟩ = some (.bool bad)) (hn : w.cell? ⟨cn, 0, none⟩ = some (.int .i64 now)) (hg : w.cell? ⟨cg, 0, none⟩ = some (.int .i64 began))
    (hr : F8.Row w BB A n (F8.bv bs)) (hB : BB ≤ w.heap.size) (ho : F8.Oct bs) (hnc : n ≤ c) (hn5 : n ≤ 1048579) (g0 : 0 ≤ began) (g1 : began ≤ now) (n1 : now ≤ 1152921504606846976) (hbad : bad = false) (hE : rdE bs = 0) (hF : (rdF bs).f = x.id) :
    Calls Tryz.prog 47 #[.pointer (some ⟨g, 0, none⟩), .pointer (some ⟨cb, 0, none⟩), .pointer (some ⟨cd, 0, none⟩), .pointer (some ⟨cn, 0, none⟩), .pointer (some ⟨cg, 0, none⟩)] w (RetW K base g x m [] (.int .i64 0) w) := by
  have zz := And.intro hn (And.intro hg (And.intro g0 (And.intro g1 (And.intro n1 k))))
  clear zz
  have H := hid h
  have HR := hid (readF_any A n c BB bs w hr hB ho hnc hn5)
  have LD := hid (World.block_lt_of_cell? w _ hd)
  have HD := hid hd
  rw [hbad] at HD hd
  rw [hE] at HR
  have eF : ((rdF bs).f == x.id) = true := by simpa using hF
  clear h k hd hn hg hr hB ho hnc hn5 g0 g1 n1 hbad hE hF
  generalize rdF bs = F at *
  go_enter Tryz.func47, Tryz.ntmps47
  go_wp2_with (first
    | (refine wpList_gst 54 (encf F) rfl (.tmp 7) (.tmp 12) rfl rfl rfl v2 (by show 0 + 4 ≤ 4; omega) (by rw [size54]; rfl) (M10.encf_one _) ?_; intro w3 v3 b3 o3 s3; have V3 : Hid (Var w3 w1.heap.size (encf F)) := hid v3; have BT := hid (b1.trans ((b2.trans (b3.mono (Nat.le_refl _))).mono b1.size)); clear b1 b2 b3 o3 s2 s3 v2 v3)
    | (refine wpList_galloc 54 (encf fz) M10.zero25 rfl rfl ?_; intro w2 v2 b2 s2)
    | (go_at_call 27; (with_reducible refine HR.out.mono ?_); rintro e w1 ⟨rfl, b1⟩))
  have W3 := hid (H.out.below BT.out)
  have K3 := hid (H.out.keptb BT.out)
  have d0 : Hid (w3.cell? ⟨g, 0, none⟩ = some (.int .i64 x.id)) := hid (W3.out.cell fun _ _ _ _ _ _ => rfl)
  have f1 : Hid (w3.cell? ⟨w1.heap.size, 1, none⟩ = some (.int .i64 F.f)) := hid (V3.out.cell rfl)
  have dd : Hid (w3.cell? ⟨cd, 0, none⟩ = some (.bool false)) := hid ((BT.out.cell (p := ⟨cd, 0, none⟩) LD.out).trans HD.out)
  refine wp_region_quiet_below (by kernel_rfl) (by kernel_rfl) ?_
  repeat (first | go_big_quiet_skip | refine wpQuiet_gl1 4 rfl rfl rfl Tryz.isAgg4 dd.out ?_ | refine wpQuiet_gl1 3 rfl rfl rfl Tryz.isAgg3 f1.out ?_ | refine wpQuiet_gl1 3 rfl rfl rfl Tryz.isAgg3 d0.out ?_ | quiet_step (fail))
  refine wpQuiet_nil ?_
  intro _ hw'
  obtain ⟨⟨dq, osq⟩, hw''⟩ := hw'
  subst hw''
  have B4 := hid (below_regrown w3 dq osq)
  have W4 := hid (W3.out.below B4.out)
  have K4 := hid (K3.out.trans (W3.out.keptb B4.out))
  generalize Sort.grow (redrawn w3 dq) osq = w4 at *
  go_wp2_with fail
  go_ret
  exact ⟨rfl, W4.out, K4.out⟩
set_option maxRecDepth 100000 in
set_option maxHeartbeats 2000000 in
theorem hear_d1 (K : Nat → Prop) (base g cb cd cn cg : Nat) (x : Nd) (m : Md) (now began : Int) (A : Option Addr) (n c BB : Nat) (bs : List Nat) (bad : Bool) (w : World) (h : Wk w K base g x m []) (k : NdOk m x)
    (hb : w.cell? ⟨cb, 0, none⟩ = some (.slice A n c)) (hd : w.cell? ⟨cd, 0, none⟩ = some (.bool bad)) (hn : w.cell? ⟨cn, 0, none⟩ = some (.int .i64 now)) (hg : w.cell? ⟨cg, 0, none⟩ = some (.int .i64 began))
    (hr : F8.Row w BB A n (F8.bv bs)) (hB : BB ≤ w.heap.size) (ho : F8.Oct bs) (hnc : n ≤ c) (hn5 : n ≤ 1048579) (g0 : 0 ≤ began) (g1 : began ≤ now) (n1 : now ≤ 1152921504606846976) (hbad : bad = false) (hE : rdE bs = 0) (hF : ¬ (rdF bs).f = x.id) (hp : x.ph = 1) :
    Calls Tryz.prog 47 #[.pointer (some ⟨g, 0, none⟩), .pointer (some ⟨cb, 0, none⟩), .pointer (some ⟨cd, 0, none⟩), .pointer (some ⟨cn, 0, none⟩), .pointer (some ⟨cg, 0, none⟩)] w (RetW K base g (joinN m x (rdF bs) now began) m (joinL m x (rdF bs) now began) (.int .i64 (joinE m x (rdF bs) now began)) w) := by
  have zz := And.intro hn (And.intro hg (And.intro g0 (And.intro g1 (And.intro n1 k))))
  clear zz
  have H := hid h
  have HR := hid (readF_any A n c BB bs w hr hB ho hnc hn5)
  have LD := hid (World.block_lt_of_cell? w _ hd)
  have HD := hid hd
  have LN := hid (World.block_lt_of_cell? w _ hn)
  have HN := hid hn
  have LG := hid (World.block_lt_of_cell? w _ hg)
  have HG := hid hg
  rw [hbad] at HD hd
  rw [hE] at HR
  have eF : ((rdF bs).f == x.id) = false := by simpa using hF
  obtain ⟨hf1, hf2⟩ := rd_ok ho hE
  have c1 : Hid (∀ w1, Wk w1 K base g x m [] → w1.cell? ⟨g, 1, none⟩ = some (.int .i64 1)) := hid (fun w1 h => hp ▸ h.cell (j := 1) fun _ _ _ _ _ _ => rfl)
  have HJ := hid (fun (w1 : World) (h : Wk w1 K base g x m []) => join_any K base g x m (rdF bs) now began w1 h k hf1 hf2 g0 g1 n1)
  clear h k hd hn hg hr hB ho hnc hn5 g0 g1 n1 hbad hE hF hp hf1 hf2
  generalize rdF bs = F at *
  generalize joinN m x F now began = xN at *
  generalize joinL m x F now began = xL at *
  generalize joinE m x F now began = xE at *
  go_enter Tryz.func47, Tryz.ntmps47
  go_wp2_with (first
    | (refine wpList_gst 54 (encf F) rfl (.tmp 7) (.tmp 12) rfl rfl rfl v2 (by show 0 + 4 ≤ 4; omega) (by rw [size54]; rfl) (M10.encf_one _) ?_; intro w3 v3 b3 o3 s3; have V3 : Hid (Var w3 w1.heap.size (encf F)) := hid v3; have BT := hid (b1.trans ((b2.trans (b3.mono (Nat.le_refl _))).mono b1.size)); clear b1 b2 b3 o3 s2 s3 v2 v3)
    | (refine wpList_galloc 54 (encf fz) M10.zero25 rfl rfl ?_; intro w2 v2 b2 s2)
    | (go_at_call 27; (with_reducible refine HR.out.mono ?_); rintro e w1 ⟨rfl, b1⟩))
  have W3 := hid (H.out.below BT.out)
  have K3 := hid (H.out.keptb BT.out)
  have d0 : Hid (w3.cell? ⟨g, 0, none⟩ = some (.int .i64 x.id)) := hid (W3.out.cell fun _ _ _ _ _ _ => rfl)
  have f1 : Hid (w3.cell? ⟨w1.heap.size, 1, none⟩ = some (.int .i64 F.f)) := hid (V3.out.cell rfl)
  have dd : Hid (w3.cell? ⟨cd, 0, none⟩ = some (.bool false)) := hid ((BT.out.cell (p := ⟨cd, 0, none⟩) LD.out).trans HD.out)
  refine wp_region_quiet_below (by kernel_rfl) (by kernel_rfl) ?_
  repeat (first | go_big_quiet_skip | refine wpQuiet_gl1 4 rfl rfl rfl Tryz.isAgg4 dd.out ?_ | refine wpQuiet_gl1 3 rfl rfl rfl Tryz.isAgg3 f1.out ?_ | refine wpQuiet_gl1 3 rfl rfl rfl Tryz.isAgg3 d0.out ?_ | quiet_step (fail))
  refine wpQuiet_nil ?_
  intro _ hw'
  obtain ⟨⟨dq, osq⟩, hw''⟩ := hw'
  subst hw''
  have B4 := hid (below_regrown w3 dq osq)
  have W4 := hid (W3.out.below B4.out)
  have K4 := hid (K3.out.trans (W3.out.keptb B4.out))
  have V4 := hid (V3.out.below B4.out (V3.out.lt (by show 0 < 4; omega)))
  have BT4 := hid (BT.out.trans (B4.out.mono BT.out.size))
  generalize Sort.grow (redrawn w3 dq) osq = w4 at *
  have p1 := c1.out w4 W4.out
  have n4 : w4.cell? ⟨cn, 0, none⟩ = some (.int .i64 now) := (BT4.out.cell (p := ⟨cn, 0, none⟩) LN.out).trans HN.out
  have g4 : w4.cell? ⟨cg, 0, none⟩ = some (.int .i64 began) := (BT4.out.cell (p := ⟨cg, 0, none⟩) LG.out).trans HG.out
  go_wp2_with (first
    | (go_at_call 48; (with_reducible refine (HJ.out w4 W4.out).mono ?_); rintro e w5 ⟨rfl, W5, k5⟩)
    | (refine wpList_lf (z := F) (.tmp 7) rfl rfl V4.out.1 rfl ?_))
  go_ret
  exact ⟨rfl, W5, K4.out.trans k5⟩
set_option maxRecDepth 100000 in
set_option maxHeartbeats 2000000 in
theorem hear_d2 (K : Nat → Prop) (base g cb cd cn cg : Nat) (x : Nd) (m : Md) (now began : Int) (A : Option Addr) (n c BB : Nat) (bs : List Nat) (bad : Bool) (w : World) (h : Wk w K base g x m []) (k : NdOk m x)
    (hb : w.cell? ⟨cb, 0, none⟩ = some (.slice A n c)) (hd : w.cell? ⟨cd, 0, none⟩ = some (.bool bad)) (hn : w.cell? ⟨cn, 0, none⟩ = some (.int .i64 now)) (hg : w.cell? ⟨cg, 0, none⟩ = some (.int .i64 began))
    (hr : F8.Row w BB A n (F8.bv bs)) (hB : BB ≤ w.heap.size) (ho : F8.Oct bs) (hnc : n ≤ c) (hn5 : n ≤ 1048579) (g0 : 0 ≤ began) (g1 : began ≤ now) (n1 : now ≤ 1152921504606846976) (hbad : bad = false) (hE : rdE bs = 0) (hF : ¬ (rdF bs).f = x.id) (hp : x.ph = 2) :
    Calls Tryz.prog 47 #[.pointer (some ⟨g, 0, none⟩), .pointer (some ⟨cb, 0, none⟩), .pointer (some ⟨cd, 0, none⟩), .pointer (some ⟨cn, 0, none⟩), .pointer (some ⟨cg, 0, none⟩)] w (RetW K base g (judN m x (rdF bs) began) m (judL m x (rdF bs) began) (.int .i64 0) w) := by
  have zz := And.intro hn (And.intro hg (And.intro g0 (And.intro g1 (And.intro n1 k))))
  clear zz
  have H := hid h
  have HR := hid (readF_any A n c BB bs w hr hB ho hnc hn5)
  have LD := hid (World.block_lt_of_cell? w _ hd)
  have HD := hid hd
  have LN := hid (World.block_lt_of_cell? w _ hn)
  have HN := hid hn
  have LG := hid (World.block_lt_of_cell? w _ hg)
  have HG := hid hg
  rw [hbad] at HD hd
  rw [hE] at HR
  have eF : ((rdF bs).f == x.id) = false := by simpa using hF
  obtain ⟨hf1, hf2⟩ := rd_ok ho hE
  have c1 : Hid (∀ w1, Wk w1 K base g x m [] → w1.cell? ⟨g, 1, none⟩ = some (.int .i64 2)) := hid (fun w1 h => hp ▸ h.cell (j := 1) fun _ _ _ _ _ _ => rfl)
  have HJ := hid (fun (w1 : World) (h : Wk w1 K base g x m []) => judge_any K base g x m [] (rdF bs) began w1 h (by simp) k hf1 (by omega))
  clear h k hd hn hg hr hB ho hnc hn5 g0 g1 n1 hbad hE hF hp hf1 hf2
  generalize rdF bs = F at *
  generalize judN m x F began = xN at *
  generalize judL m x F began = xL at *
  go_enter Tryz.func47, Tryz.ntmps47
  go_wp2_with (first
    | (refine wpList_gst 54 (encf F) rfl (.tmp 7) (.tmp 12) rfl rfl rfl v2 (by show 0 + 4 ≤ 4; omega) (by rw [size54]; rfl) (M10.encf_one _) ?_; intro w3 v3 b3 o3 s3; have V3 : Hid (Var w3 w1.heap.size (encf F)) := hid v3; have BT := hid (b1.trans ((b2.trans (b3.mono (Nat.le_refl _))).mono b1.size)); clear b1 b2 b3 o3 s2 s3 v2 v3)
    | (refine wpList_galloc 54 (encf fz) M10.zero25 rfl rfl ?_; intro w2 v2 b2 s2)
    | (go_at_call 27; (with_reducible refine HR.out.mono ?_); rintro e w1 ⟨rfl, b1⟩))
  have W3 := hid (H.out.below BT.out)
  have K3 := hid (H.out.keptb BT.out)
  have d0 : Hid (w3.cell? ⟨g, 0, none⟩ = some (.int .i64 x.id)) := hid (W3.out.cell fun _ _ _ _ _ _ => rfl)
  have f1 : Hid (w3.cell? ⟨w1.heap.size, 1, none⟩ = some (.int .i64 F.f)) := hid (V3.out.cell rfl)
  have dd : Hid (w3.cell? ⟨cd, 0, none⟩ = some (.bool false)) := hid ((BT.out.cell (p := ⟨cd, 0, none⟩) LD.out).trans HD.out)
  refine wp_region_quiet_below (by kernel_rfl) (by kernel_rfl) ?_
  repeat (first | go_big_quiet_skip | refine wpQuiet_gl1 4 rfl rfl rfl Tryz.isAgg4 dd.out ?_ | refine wpQuiet_gl1 3 rfl rfl rfl Tryz.isAgg3 f1.out ?_ | refine wpQuiet_gl1 3 rfl rfl rfl Tryz.isAgg3 d0.out ?_ | quiet_step (fail))
  refine wpQuiet_nil ?_
  intro _ hw'
  obtain ⟨⟨dq, osq⟩, hw''⟩ := hw'
  subst hw''
  have B4 := hid (below_regrown w3 dq osq)
  have W4 := hid (W3.out.below B4.out)
  have K4 := hid (K3.out.trans (W3.out.keptb B4.out))
  have V4 := hid (V3.out.below B4.out (V3.out.lt (by show 0 < 4; omega)))
  have BT4 := hid (BT.out.trans (B4.out.mono BT.out.size))
  generalize Sort.grow (redrawn w3 dq) osq = w4 at *
  have p1 := c1.out w4 W4.out
  have g4 : w4.cell? ⟨cg, 0, none⟩ = some (.int .i64 began) := (BT4.out.cell (p := ⟨cg, 0, none⟩) LG.out).trans HG.out
  go_wp2_with (first
    | (go_at_call 49; (with_reducible refine (HJ.out w4 W4.out).mono ?_); rintro e w5 ⟨rfl, W5, k5⟩)
    | (refine wpList_lf (z := F) (.tmp 7) rfl rfl V4.out.1 rfl ?_))
  go_ret
  exact ⟨rfl, W5, K4.out.trans k5⟩
set_option maxRecDepth 100000 in
set_option maxHeartbeats 2000000 in
theorem hear_d0 (K : Nat → Prop) (base g cb cd cn cg : Nat) (x : Nd) (m : Md) (now began : Int) (A : Option Addr) (n c BB : Nat) (bs : List Nat) (bad : Bool) (w : World) (h : Wk w K base g x m []) (k : NdOk m x)
    (hb : w.cell? ⟨cb, 0, none⟩ = some (.slice A n c)) (hd : w.cell? ⟨cd, 0, none⟩ = some (.bool bad)) (hn : w.cell? ⟨cn, 0, none⟩ = some (.int .i64 now)) (hg : w.cell? ⟨cg, 0, none⟩ = some (.int .i64 began))
    (hr : F8.Row w BB A n (F8.bv bs)) (hB : BB ≤ w.heap.size) (ho : F8.Oct bs) (hnc : n ≤ c) (hn5 : n ≤ 1048579) (g0 : 0 ≤ began) (g1 : began ≤ now) (n1 : now ≤ 1152921504606846976) (hbad : bad = false) (hE : rdE bs = 0) (hF : ¬ (rdF bs).f = x.id) (hp1 : ¬ x.ph = 1) (hp2 : ¬ x.ph = 2) :
    Calls Tryz.prog 47 #[.pointer (some ⟨g, 0, none⟩), .pointer (some ⟨cb, 0, none⟩), .pointer (some ⟨cd, 0, none⟩), .pointer (some ⟨cn, 0, none⟩), .pointer (some ⟨cg, 0, none⟩)] w (RetW K base g x m [] (.int .i64 0) w) := by
  have zz := And.intro hn (And.intro hg (And.intro g0 (And.intro g1 (And.intro n1 k))))
  clear zz
  have H := hid h
  have HR := hid (readF_any A n c BB bs w hr hB ho hnc hn5)
  have LD := hid (World.block_lt_of_cell? w _ hd)
  have HD := hid hd
  have LN := hid (World.block_lt_of_cell? w _ hn)
  have HN := hid hn
  have LG := hid (World.block_lt_of_cell? w _ hg)
  have HG := hid hg
  rw [hbad] at HD hd
  rw [hE] at HR
  have eF : ((rdF bs).f == x.id) = false := by simpa using hF
  obtain ⟨hf1, hf2⟩ := rd_ok ho hE
  have c1 : Hid (∀ w1, Wk w1 K base g x m [] → w1.cell? ⟨g, 1, none⟩ = some (.int .i64 x.ph)) := hid (fun w1 h => h.cell (j := 1) fun _ _ _ _ _ _ => rfl)
  have e1 : (x.ph == 1) = false := by simpa using hp1
  have e2 : (x.ph == 2) = false := by simpa using hp2
  clear h k hd hn hg hr hB ho hnc hn5 g0 g1 n1 hbad hE hF hp1 hp2 hf1 hf2
  generalize rdF bs = F at *
  go_enter Tryz.func47, Tryz.ntmps47
  go_wp2_with (first
    | (refine wpList_gst 54 (encf F) rfl (.tmp 7) (.tmp 12) rfl rfl rfl v2 (by show 0 + 4 ≤ 4; omega) (by rw [size54]; rfl) (M10.encf_one _) ?_; intro w3 v3 b3 o3 s3; have V3 : Hid (Var w3 w1.heap.size (encf F)) := hid v3; have BT := hid (b1.trans ((b2.trans (b3.mono (Nat.le_refl _))).mono b1.size)); clear b1 b2 b3 o3 s2 s3 v2 v3)
    | (refine wpList_galloc 54 (encf fz) M10.zero25 rfl rfl ?_; intro w2 v2 b2 s2)
    | (go_at_call 27; (with_reducible refine HR.out.mono ?_); rintro e w1 ⟨rfl, b1⟩))
  have W3 := hid (H.out.below BT.out)
  have K3 := hid (H.out.keptb BT.out)
  have d0 : Hid (w3.cell? ⟨g, 0, none⟩ = some (.int .i64 x.id)) := hid (W3.out.cell fun _ _ _ _ _ _ => rfl)
  have f1 : Hid (w3.cell? ⟨w1.heap.size, 1, none⟩ = some (.int .i64 F.f)) := hid (V3.out.cell rfl)
  have dd : Hid (w3.cell? ⟨cd, 0, none⟩ = some (.bool false)) := hid ((BT.out.cell (p := ⟨cd, 0, none⟩) LD.out).trans HD.out)
  refine wp_region_quiet_below (by kernel_rfl) (by kernel_rfl) ?_
  repeat (first | go_big_quiet_skip | refine wpQuiet_gl1 4 rfl rfl rfl Tryz.isAgg4 dd.out ?_ | refine wpQuiet_gl1 3 rfl rfl rfl Tryz.isAgg3 f1.out ?_ | refine wpQuiet_gl1 3 rfl rfl rfl Tryz.isAgg3 d0.out ?_ | quiet_step (fail))
  refine wpQuiet_nil ?_
  intro _ hw'
  obtain ⟨⟨dq, osq⟩, hw''⟩ := hw'
  subst hw''
  have B4 := hid (below_regrown w3 dq osq)
  have W4 := hid (W3.out.below B4.out)
  have K4 := hid (K3.out.trans (W3.out.keptb B4.out))
  have BT4 := hid (BT.out.trans (B4.out.mono BT.out.size))
  generalize Sort.grow (redrawn w3 dq) osq = w4 at *
  have p1 := c1.out w4 W4.out
  go_wp2_with fail
  go_ret
  exact ⟨rfl, W4.out, K4.out⟩
theorem hear_c (K : Nat → Prop) (base g cb cd cn cg : Nat) (x : Nd) (m : Md) (now began : Int) (A : Option Addr) (n c BB : Nat) (bs : List Nat) (bad : Bool) (w : World) (h : Wk w K base g x m []) (k : NdOk m x)
    (hb : w.cell? ⟨cb, 0, none⟩ = some (.slice A n c)) (hd : w.cell? ⟨cd, 0, none⟩ = some (.bool bad)) (hn : w.cell? ⟨cn, 0, none⟩ = some (.int .i64 now)) (hg : w.cell? ⟨cg, 0, none⟩ = some (.int .i64 began))
    (hr : F8.Row w BB A n (F8.bv bs)) (hB : BB ≤ w.heap.size) (ho : F8.Oct bs) (hnc : n ≤ c) (hn5 : n ≤ 1048579) (g0 : 0 ≤ began) (g1 : began ≤ now) (n1 : now ≤ 1152921504606846976) :
    Calls Tryz.prog 47 #[.pointer (some ⟨g, 0, none⟩), .pointer (some ⟨cb, 0, none⟩), .pointer (some ⟨cd, 0, none⟩), .pointer (some ⟨cn, 0, none⟩), .pointer (some ⟨cg, 0, none⟩)] w (RetW K base g (heaN m x now began bs bad) m (heaL m x now began bs bad) (.int .i64 (heaE m x now began bs bad)) w) := by
  unfold heaN heaL heaE
  by_cases hD : deaf x bs bad
  · rw [if_pos hD, if_pos hD, if_pos hD]
    cases hbad : bad
    · subst hbad
      by_cases hE : rdE bs = 0
      · exact hear_own K base g cb cd cn cg x m now began A n c BB bs _ w h k hb hd hn hg hr hB ho hnc hn5 g0 g1 n1 rfl hE (by rcases hD with h | h | h; cases h; exact absurd hE h; exact h)
      · exact hear_b K base g cb cd cn cg x m now began A n c BB bs _ w h k hb hd hn hg hr hB ho hnc hn5 g0 g1 n1 rfl hE
    · subst hbad
      exact hear_a K base g cb cd cn cg x m now began A n c BB bs _ w h k hb hd hn hg hr hB ho hnc hn5 g0 g1 n1 rfl
  · rw [if_neg hD, if_neg hD, if_neg hD]
    have hbad : bad = false := by cases bad; rfl; exact absurd (.inl rfl) hD
    have hE : rdE bs = 0 := Decidable.byContradiction fun e => hD (.inr (.inl e))
    have hF : ¬ (rdF bs).f = x.id := fun e => hD (.inr (.inr e))
    by_cases h1 : x.ph = 1
    · rw [if_pos h1, if_pos h1, if_pos h1]; exact hear_d1 K base g cb cd cn cg x m now began A n c BB bs bad w h k hb hd hn hg hr hB ho hnc hn5 g0 g1 n1 hbad hE hF h1
    · rw [if_neg h1, if_neg h1, if_neg h1]
      by_cases h2 : x.ph = 2
      · rw [if_pos h2, if_pos h2]; exact hear_d2 K base g cb cd cn cg x m now began A n c BB bs bad w h k hb hd hn hg hr hB ho hnc hn5 g0 g1 n1 hbad hE hF h2
      · rw [if_neg h2, if_neg h2]; exact hear_d0 K base g cb cd cn cg x m now began A n c BB bs bad w h k hb hd hn hg hr hB ho hnc hn5 g0 g1 n1 hbad hE hF h1 h2
end Go.Proofs.YtlgedfljmgedfaaGreat
namespace Go.Proofs.YtlgedfljmgedfaaGreat
open Go Go.RowKit
open M10 (hid Md encm mv mz Oth range_keep there_keep range_other there_other setCells_oth setCells_size there_set Ty enct tv tz Fr encf fv fz)
open O6 (Oc enco ov oz)
open T9 (sv)
/-! ### within -/
theorem within_46 (a lo hi : Int) (b : Bool) (hb : (decide (lo ≤ a) && decide (a ≤ hi)) = b) (w : World) : Calls Tryz.prog 46 #[.int .i64 a, .int .i64 lo, .int .i64 hi] w fun e w' => e = .returned (.bool b) ∧ w' = w := by
  subst hb
  by_cases h : lo ≤ a
  · have h1 : decide (lo ≤ a) = true := by simp [h]
    rw [h1]
    go_enter Tryz.func46, Tryz.ntmps46
    go_wp2
    go_ret
    exact ⟨by simp, rfl⟩
  · have h1 : decide (lo ≤ a) = false := by simp [h]
    rw [h1]
    go_enter Tryz.func46, Tryz.ntmps46
    go_wp2
    go_ret
    exact ⟨by simp, rfl⟩
theorem within_109 (a lo hi : Int) (b : Bool) (hb : (decide (lo ≤ a) && decide (a ≤ hi)) = b) (w : World) : Calls Tryz.prog 109 #[.int .i64 a, .int .i64 lo, .int .i64 hi] w fun e w' => e = .returned (.bool b) ∧ w' = w := by
  subst hb
  by_cases h : lo ≤ a
  · have h1 : decide (lo ≤ a) = true := by simp [h]
    rw [h1]
    go_enter Tryz.func109, Tryz.ntmps109
    go_wp2
    go_ret
    exact ⟨by simp, rfl⟩
  · have h1 : decide (lo ≤ a) = false := by simp [h]
    rw [h1]
    go_enter Tryz.func109, Tryz.ntmps109
    go_wp2
    go_ret
    exact ⟨by simp, rfl⟩
def timeB (x : Int) : Bool := decide (0 ≤ x) && decide (x ≤ 1152921504606846976)
theorem isTime_any (a : Int) (w : World) : Calls Tryz.prog 30 #[.int .i64 a] w fun e w' => e = .returned (.bool (timeB a)) ∧ w' = w := by
  have H := hid (within_46 a 0 1152921504606846976 (timeB a) rfl w)
  go_enter Tryz.func30, Tryz.ntmps30
  go_wp2_with (go_at_call 46; (with_reducible refine H.out.mono ?_); rintro e w1 ⟨rfl, rfl⟩)
  go_ret
  exact ⟨rfl, rfl⟩
/-! ### far -/
def farB (d x : Int) : Bool := !(decide (-d ≤ x) && decide (x ≤ d))
theorem far_any (x d : Int) (g : Nat) (w : World) (h0 : 0 ≤ d) (h1 : d ≤ 1048576) (hc : w.cell? ⟨g, 4, none⟩ = some (.int .i64 d)) : Calls Tryz.prog 108 #[.int .i64 x, .pointer (some ⟨g, 0, none⟩)] w fun e w' => e = .returned (.bool (farB d x)) ∧ w' = w := by
  have H := hid (within_46 x (-d) d _ rfl w)
  have hn : IntKind.i64.wrap (-d) = -d := by rw [IntKind.wrap_i64]; omega
  unfold farB
  generalize (decide (-d ≤ x) && decide (x ≤ d)) = b at *
  go_enter Tryz.func108, Tryz.ntmps108
  go_wp2_with (go_at_call 46; (with_reducible refine H.out.mono ?_); rintro e w1 ⟨rfl, rfl⟩)
  go_ret
  exact ⟨rfl, rfl⟩
/-! ### IndexFunc, ContainsFunc, by far -/
def anyFar (d : Int) (l : List Int) : Bool := l.any (farB d)
theorem anyFar_not {d : Int} {zs : List Int} (h : ∀ j, j < zs.length → farB d (zs.getD j 0) = false) : anyFar d zs = false := by
  unfold anyFar; rw [List.any_eq_false]; intro x hx
  obtain ⟨j, hj, rfl⟩ := List.getElem_of_mem hx
  have := h j hj
  rw [List.getD_eq_getElem?_getD, List.getElem?_eq_getElem hj] at this
  simpa using this
theorem anyFar_of {d : Int} {zs : List Int} (k : Nat) (hk : k < zs.length) (h : farB d (zs.getD k 0) = true) : anyFar d zs = true := by
  unfold anyFar
  rw [List.getD_eq_getElem?_getD, List.getElem?_eq_getElem hk] at h
  rw [List.any_eq_true]; exact ⟨zs[k], List.getElem_mem hk, by simpa using h⟩
def IdxP (d : Int) (zs : List Int) (w : World) (e : Ending) (w' : World) : Prop := ∃ r : Int, e = .returned (.int .i64 r) ∧ decide (0 ≤ r) = anyFar d zs ∧ w' = w
set_option maxHeartbeats 400000 in
theorem idx_any (A : Option Addr) (n c B : Nat) (zs : List Int) (d : Int) (g : Nat) (w : World) (hn : n ≤ 9223372036854775807) (h0 : 0 ≤ d) (h1 : d ≤ 1048576) (hg : w.cell? ⟨g, 4, none⟩ = some (.int .i64 d)) (hr : T9.Row w B A n (sv zs)) :
    Calls Tryz.prog 144 #[.slice A n c, .func (.func 108) #[] #[.pointer (some ⟨g, 0, none⟩)]] w (IdxP d zs w) := by
  have hl : zs.length = n := by have := hr.1; simpa [sv] using this
  have HR := hid hr
  have HF := hid (fun x => far_any x d g w h0 h1 hg)
  clear hr hg h0 h1
  go_enter Tryz.func144, Tryz.ntmps144
  go_wp2
  go_loop [8] (fun i => ∃ k : Nat, k ≤ n ∧ i = .int .i64 k ∧ (∀ j, j < k → farB d (zs.getD j 0) = false)) (fun i => n - (intOf i).toNat)
  case atStart => exact ⟨0, Nat.zero_le _, rfl, by intro j hj; omega⟩
  case round =>
    obtain ⟨k, hk, rfl, hall⟩ := hrel
    by_cases hlt : k < n
    · obtain ⟨b, o, u, rfl, hb, hu, hcell⟩ := HR.out.at_ hlt
      have hu := T9.sv_get (by omega) hu
      subst hu
      by_cases ht : farB d (zs.getD k 0) = true
      · have HF' : Hid (anyFar d zs = true) := hid (anyFar_of k (by omega) ht)
        have HC := hid (HF.out (zs.getD k 0))
        rw [ht] at HC
        clear hall ht HF
        generalize zs.getD k 0 = z at *
        go_wp2_with (go_at_call 108; (with_reducible refine HC.out.mono ?_); rintro e w' ⟨rfl, rfl⟩)
        go_ret
        exact ⟨(k : Int), rfl, by rw [HF'.out]; simp, rfl⟩
      · have ht : farB d (zs.getD k 0) = false := by simpa using ht
        have HA : Hid (∀ j, j < k + 1 → farB d (zs.getD j 0) = false) := by
          refine hid (fun j hj => ?_)
          rcases Nat.lt_succ_iff_lt_or_eq.1 hj with h | rfl
          · exact hall j h
          · exact ht
        have HC := hid (HF.out (zs.getD k 0))
        rw [ht] at HC
        clear hall ht HF
        generalize hz : zs.getD k 0 = z at HC hcell
        clear hz
        go_wp2_with (go_at_call 108; (with_reducible refine HC.out.mono ?_); rintro e w' ⟨rfl, rfl⟩)
        exact ⟨⟨k + 1, by omega, by go_num, HA.out⟩, by simp [intOf]; omega⟩
    · have HF' : Hid (anyFar d zs = false) := hid (anyFar_not fun j hj => hall j (by omega))
      clear hall HF
      go_wp2
      go_ret
      exact ⟨-1, rfl, by rw [HF'.out]; decide, rfl⟩
theorem contains_any (A : Option Addr) (n c B : Nat) (zs : List Int) (d : Int) (g : Nat) (w : World) (hn : n ≤ 9223372036854775807) (h0 : 0 ≤ d) (h1 : d ≤ 1048576) (hg : w.cell? ⟨g, 4, none⟩ = some (.int .i64 d)) (hr : T9.Row w B A n (sv zs)) :
    Calls Tryz.prog 110 #[.slice A n c, .func (.func 108) #[] #[.pointer (some ⟨g, 0, none⟩)]] w fun e w' => e = .returned (.bool (anyFar d zs)) ∧ w' = w := by
  have HI := hid (idx_any A n c B zs d g w hn h0 h1 hg hr)
  clear hg hr
  go_enter Tryz.func110, Tryz.ntmps110
  go_wp2_with fail
  refine HI.out.mono ?_
  rintro e w' ⟨r, rfl, hr, rfl⟩
  have HR := hid hr
  clear hr
  go_wp2
  go_ret
  exact ⟨T9.ret_bool HR.out, rfl⟩
/-! ### Equal -/
theorem eq_of_getD {a b : List Int} (hl : a.length = b.length) (h : ∀ j, j < a.length → a.getD j 0 = b.getD j 0) : a = b := by
  apply List.ext_getElem hl
  intro j h1 h2
  have := h j h1
  rwa [List.getD_eq_getElem?_getD, List.getD_eq_getElem?_getD, List.getElem?_eq_getElem h1, List.getElem?_eq_getElem h2] at this
set_option maxHeartbeats 1000000 in
theorem equal_60 (A A2 : Option Addr) (n c m c2 B B2 : Nat) (a b : List Int) (w : World) (ha : T9.Row w B A n (sv a)) (hb : T9.Row w B2 A2 m (sv b)) (hB : B ≤ w.heap.size) (hB2 : B2 ≤ w.heap.size) (hn : n ≤ 1000000000) (hm : m ≤ 1000000000) :
    Calls Tryz.prog 60 #[.slice A n c, .slice A2 m c2] w fun e w' => e = .returned (.bool (decide (a = b))) ∧ Below w.heap.size w w' := by
  obtain ⟨r, hr⟩ : ∃ r, decide (a = b) = r := ⟨_, rfl⟩
  rw [hr]
  have HA := hid ha
  have HB := hid hb
  have HR := hid hr
  have LA : Hid (a.length = n) := hid (by have := ha.1; simpa [sv] using this)
  have LB : Hid (b.length = m) := hid (by have := hb.1; simpa [sv] using this)
  clear ha hb hr
  by_cases hnm : n = m
  · subst hnm
    go_enter Tryz.func60, Tryz.ntmps60
    go_wp2
    go_loopw [13] (fun t wr => ∃ i : Nat, t = .int .i64 (i : Int) ∧ i ≤ n ∧ (∀ j, j < i → a.getD j 0 = b.getD j 0) ∧ Below w.heap.size w wr) (fun t _ => n - (intOf t).toNat)
    case atStart => exact ⟨0, rfl, by omega, fun j hj => absurd hj (by omega), Below.refl _ _⟩
    case round =>
      obtain ⟨i, rfl, hi, hj, bel⟩ := hrel
      have HJ := hid hj
      have BW := hid bel
      clear hj bel
      by_cases hlt : i < n
      · have RA : Hid (T9.Row wr B A n (sv a)) := hid (HA.out.below (BW.out.mono hB))
        have RB : Hid (T9.Row wr B2 A2 n (sv b)) := hid (HB.out.below (BW.out.mono hB2))
        obtain ⟨b1, o1, v1, rfl, _, hu1, hc1⟩ := RA.out.at_ hlt
        obtain ⟨b2, o2, v2, rfl, _, hu2, hc2⟩ := RB.out.at_ hlt
        have hu1 := T9.sv_get (by have := LA.out; omega) hu1
        have hu2 := T9.sv_get (by have := LB.out; omega) hu2
        subst hu1 hu2
        have r1 := hid hc1
        have r2 := hid hc2
        have HY : Hid (decide (a.getD i 0 = b.getD i 0) = true → ∀ j, j < i + 1 → a.getD j 0 = b.getD j 0) := hid fun h j hj => by
          by_cases e : j = i
          · subst e; simpa using h
          · exact HJ.out j (by omega)
        have HN : Hid (decide (a.getD i 0 = b.getD i 0) = false → r = false) := hid fun h => by
          rw [← HR.out, decide_eq_false_iff_not]
          rintro rfl
          simp at h
        have q1 : (a.getD i 0 != b.getD i 0) = !decide (a.getD i 0 = b.getD i 0) := rfl
        clear hc1 hc2
        generalize decide (a.getD i 0 = b.getD i 0) = R at *
        generalize a.getD i 0 = x at *
        generalize b.getD i 0 = y at *
        have i1 : (i : Int) < (n : Int) := by omega
        go_wp2_with fail
        refine wp_region_quiet_below (by kernel_rfl) (by kernel_rfl) ?_
        repeat (first | refine wpQuiet_gl1 2 rfl rfl rfl Tryz.isAgg2 r1.out ?_ | refine wpQuiet_gl1 2 rfl rfl rfl Tryz.isAgg2 r2.out ?_ | quiet_step (fail))
        refine wpQuiet_nil ?_
        intro _ hw'
        obtain ⟨⟨dq, osq⟩, hw''⟩ := hw'
        subst hw''
        have HW : Hid (Below wr.heap.size wr (Sort.grow (redrawn wr dq) osq)) := hid (below_regrown wr dq osq)
        generalize Sort.grow (redrawn wr dq) osq = w2 at *
        clear r1 r2
        have HB2 : Hid (Below w.heap.size w w2) := hid (BW.out.trans (HW.out.mono BW.out.size))
        cases R
        · have HN' := hid (HN.out rfl)
          clear HN HY
          go_wp2
          go_ret
          exact ⟨T9.ret_bool HN'.out.symm, HB2.out⟩
        · have HY' := hid (HY.out rfl)
          clear HN HY
          go_wp2
          go_roundw
          case rel => exact ⟨i + 1, by go_num, by omega, HY'.out, HB2.out⟩
          case measure => simp [intOf]; omega
      · have HE : Hid (r = true) := hid (by
          rw [← HR.out, decide_eq_true_eq]
          exact eq_of_getD (by rw [LA.out, LB.out]) fun j hj => HJ.out j (by rw [LA.out] at hj; omega))
        go_wp2
        go_ret
        exact ⟨T9.ret_bool HE.out.symm, BW.out⟩
  · have HE : Hid (r = false) := hid (by
      rw [← HR.out, decide_eq_false_iff_not]
      rintro rfl
      exact hnm (by rw [← LA.out, ← LB.out]))
    have t1 : ((n : Int) != (m : Int)) = true := by simp; omega
    go_enter Tryz.func60, Tryz.ntmps60
    go_wp2
    go_ret
    exact ⟨T9.ret_bool HE.out.symm, Below.refl _ _⟩
end Go.Proofs.YtlgedfljmgedfaaGreat
