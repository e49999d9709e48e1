/-
  Texts NI, NJ of this seat, as far as they are used.
-/
import Derived.Test.YtlgedfljmgedfaaGreatJ15
import Derived.Test.YtlgedfljmgedfaaGreatJ23
namespace Go.Proofs.YtlgedfljmgedfaaGreat
open Go Go.RowKit
open M10 (hid Md encm mv mz Oth range_keep there_keep range_other there_other setCells_oth setCells_size there_set Ty enct tv tz Fr encf fv fz)
open O6 (Oc enco ov oz)
open T9 (sv)
/-! ### Bounds -/
theorem sl_sync (m : Md) (x : Nd) : (syncN m x).sl = x.sl := by unfold syncN; split <;> rfl
theorem sl_leave (m : Md) (x : Nd) : (leaveN m x).sl = x.sl := rfl
theorem leaveL_len (m : Md) (x : Nd) : (leaveL m x).length ≤ 1 := by unfold leaveL; split <;> simp
theorem syncL_len (m : Md) (x : Nd) : (syncL m x).length ≤ 1 := by unfold syncL; split <;> simp
theorem NdOk.dpos {m : Md} {x : Nd} (k : NdOk m x) : 1 ≤ m.d := by obtain ⟨h1, h2, h3, h4, h5, h6, h7, h8, h9⟩ := k.hm; exact h7
theorem late_ok {m : Md} {dv : List Int} {t : Int} (dl : (dv.length : Int) ≤ m.n) (dd : ∀ y ∈ dv, -m.d ≤ y ∧ y ≤ m.d) (h0 : -m.d ≤ t) (h1 : t ≤ m.d) : ((lateL m dv t).length : Int) ≤ m.n ∧ ∀ y ∈ lateL m dv t, -m.d ≤ y ∧ y ≤ m.d := by
  unfold lateL
  split
  · refine ⟨by simp; omega, fun y hy => ?_⟩
    simp at hy
    rcases hy with hy | rfl
    · exact dd y hy
    · exact ⟨h0, h1⟩
  · exact ⟨dl, dd⟩
theorem aftM_lt (m : Md) (x : Nd) (k : NdOk m x) : aftM m x < 65536 := by
  have hy : M10.May m x.id x.sl := ⟨k.hm, k.s1, k.i0, k.i1⟩
  unfold aftM M10.aftM
  rw [if_pos ⟨hy, k.v0, k.v1⟩]
  obtain ⟨_, h2, _, _, h5⟩ := M10.slO_cast m x.id x.sl hy
  exact M10.aft_lt _ _ _ _ k.mb h2 h5
theorem NdOk.leave {m : Md} {x : Nd} (k : NdOk m x) : NdOk m (leaveN m x) := by
  have hd := k.dpos
  obtain ⟨l1, l2⟩ := late_ok k.dl k.dd (t := 0) (by omega) (by omega)
  refine ⟨k.hm, k.ho, k.i0, k.i1, k.p0, k.p1, k.s0, k.s1, k.t0, k.t1, k.c0, k.c1, aftM_lt m x k, k.ty, ?_, ?_, k.v0, k.v1⟩
  · show (((if x.sl % m.n = x.id then lateL m x.dv 0 else x.dv).length : Nat) : Int) ≤ m.n
    split
    · exact l1
    · exact k.dl
  · show ∀ y ∈ (if x.sl % m.n = x.id then lateL m x.dv 0 else x.dv), -m.d ≤ y ∧ y ≤ m.d
    split
    · exact l2
    · exact k.dd
theorem corr_in {d : Int} (hd : 0 ≤ d) (l : List Int) : -d ≤ T9.corr d l ∧ T9.corr d l ≤ d := by
  unfold T9.corr
  rw [if_neg (by omega)]
  split
  · omega
  · split
    · omega
    · omega
theorem NdOk.sync {m : Md} {x : Nd} (k : NdOk m x) : NdOk m (syncN m x) := by
  have hd := k.dpos
  unfold syncN
  split
  · obtain ⟨c0, c1⟩ := corr_in (d := m.d) (by omega) x.dv
    exact ⟨k.hm, k.ho, k.i0, k.i1, k.p0, k.p1, k.s0, k.s1, k.t0, k.t1, c0, c1, k.mb, k.ty, (by have := k.hm.1; show ((0 : Nat) : Int) ≤ m.n; omega), (fun y hy => by cases hy), k.v0, k.v1⟩
  · exact ⟨k.hm, k.ho, k.i0, k.i1, k.p0, k.p1, k.s0, k.s1, k.t0, k.t1, (by show -m.d ≤ 0; omega), (by show 0 ≤ m.d; omega), k.mb, k.ty, k.dl, k.dd, k.v0, k.v1⟩
theorem time_in {x : Nd} (r : Run x) {n : Int} (n0 : 0 ≤ n) (n1 : n ≤ 67108864) : 0 ≤ timeT x n ∧ timeT x n ≤ 1152921504606846976 := by
  have p := ps_in r.1 n0 n1
  have := r.2.1
  unfold timeT
  split <;> omega
theorem timeE_or (x : Nd) (n : Int) : timeE x n = 0 ∨ timeE x n = 2 := by unfold timeE; split <;> simp
theorem NdOk.run {m : Md} {x : Nd} (k : NdOk m x) : Run x := ⟨k.ho, k.t0, k.t1⟩
/-- What it is when the next slot begins. -/
def midN (m : Md) (x : Nd) : Nd := { syncN m (leaveN m x) with sl := x.sl + 1, st := timeT x (m.s + x.co), o := O6.aft x.o (m.s + x.co) }
theorem NdOk.mid {m : Md} {x : Nd} (k : NdOk m x) (hs : ¬ x.sl = 4294967296) (_hE : timeE x (m.s + x.co) = 0) : NdOk m (midN m x) := by
  have k2 := k.leave.sync
  obtain ⟨q0, q1⟩ := len_in k
  obtain ⟨t0, t1⟩ := time_in k.run q0 q1
  have := k.s0
  have := k.s1
  exact ⟨k.hm, O6.aft_ok _ _ k.ho, k2.i0, k2.i1, k2.p0, k2.p1, (by show 0 ≤ x.sl + 1; omega), (by show x.sl + 1 ≤ 4294967296; omega), t0, t1, k2.c0, k2.c1, k2.mb, k2.ty, k2.dl, k2.dd, k2.v0, k2.v1⟩
theorem NdOk.begin {m : Md} {x : Nd} (k : NdOk m x) : NdOk m (beginN m x) := by
  unfold beginN
  split
  · exact ⟨k.hm, k.ho, k.i0, k.i1, k.p0, k.p1, k.s0, k.s1, k.t0, k.t1, k.c0, k.c1, k.mb, k.ty, k.dl, k.dd, (show (0 : Int) ≤ 0 by decide), (show (0 : Int) ≤ 3 by decide)⟩
  · split
    · exact ⟨k.hm, k.ho, k.i0, k.i1, (show (0 : Int) ≤ 3 by decide), (show (3 : Int) ≤ 3 by decide), k.s0, k.s1, k.t0, k.t1, k.c0, k.c1, k.mb, k.ty, k.dl, k.dd, (show (0 : Int) ≤ 0 by decide), (show (0 : Int) ≤ 3 by decide)⟩
    · exact ⟨k.hm, k.ho, k.i0, k.i1, k.p0, k.p1, k.s0, k.s1, k.t0, k.t1, k.c0, k.c1, k.mb, ⟨⟨(show (0 : Int) ≤ 1 by decide), (show (1 : Int) ≤ 1073741824 by decide)⟩, (show (0 : Int) ≤ 0 by decide), (show (0 : Int) ≤ 1073741824 by decide)⟩, k.dl, k.dd, (show (0 : Int) ≤ 0 by decide), (show (0 : Int) ≤ 3 by decide)⟩
/-- A node at work as one slot's end leaves it; a clock's variable beside it. -/
def SE (K : Nat → Prop) (base g : Nat) (x : Nd) (m : Md) (l : List Ac) (b : Nat) (lf : Oc) (w : World) : Prop := (∃ (q s : Int) (o : Oc), Wk w K base g { x with sl := q, st := s, o := o } m l) ∧ w.rangeAt b 0 (enco lf)
set_option maxRecDepth 100000 in
set_option maxHeartbeats 2000000 in
theorem end_ok (K : Nat → Prop) (base g : Nat) (x : Nd) (m : Md) (l : List Ac) (w : World) (h : Wk w K base g x m l) (hl : l.length ≤ 900) (k : NdOk m x) (hs : ¬ x.sl = 4294967296) (hE : timeE x (m.s + x.co) = 0) :
    Calls Tryz.prog 41 #[.pointer (some ⟨g, 0, none⟩)] w (RetW K base g (beginN m (midN m x)) m (l ++ leaveL m x ++ syncL m (leaveN m x) ++ beginL m (midN m x)) (.int .i64 (beginE m (midN m x))) w) := by
  have H := hid h
  obtain ⟨q0, q1⟩ := len_in k
  have HS := hid (fun (w1 : World) (h : Wk w1 K base g x m l) => length_w K base g x m l w1 h _ rfl (by omega) (by omega))
  have HT := hid (fun (w1 : World) (h : Wk w1 K base g x m l) => time_any K base g x m l (m.s + x.co) w1 h ⟨k.ho, k.t0, k.t1⟩ q0 q1)
  rw [hE] at HT
  have HL := hid (fun (K : Nat → Prop) (w1 : World) (h : Wk w1 K base g x m l) => leave_any K base g x m l w1 h (by omega) k)
  have HY := hid (fun (K : Nat → Prop) (w1 : World) (h : Wk w1 K base g (leaveN m x) m (l ++ leaveL m x)) => sync_any K base g (leaveN m x) m (l ++ leaveL m x) w1 h (by have := leaveL_len m x; simp; omega) k.leave)
  have HB := hid (fun (K : Nat → Prop) (w1 : World) (h : Wk w1 K base g (midN m x) m (l ++ leaveL m x ++ syncL m (leaveN m x))) => begin_any K base g (midN m x) m (l ++ leaveL m x ++ syncL m (leaveN m x)) w1 h (by have := leaveL_len m x; have := syncL_len m (leaveN m x); simp; omega) (k.mid hs hE))
  have e1 : (x.sl == 4294967296) = false := by simp [hs]
  have eS : IntKind.u64.wrap ((syncN m (leaveN m x)).sl + 1) = x.sl + 1 := by rw [sl_sync, sl_leave, IntKind.wrap_u64]; have := k.s0; have := k.s1; omega
  have eM : midN m x = { syncN m (leaveN m x) with sl := x.sl + 1, st := timeT x (m.s + x.co), o := O6.aft x.o (m.s + x.co) } := rfl
  generalize beginN m (midN m x) = zN at *
  generalize beginL m (midN m x) = zL at *
  generalize beginE m (midN m x) = zE at *
  rw [eM] at HB
  clear h hl k hs hE q0 q1 eM
  generalize timeT x (m.s + x.co) = T at *
  generalize O6.aft x.o (m.s + x.co) = lf at *
  generalize m.s + x.co = L at *
  generalize syncN m (leaveN m x) = y at *
  generalize l ++ leaveL m x ++ syncL m (leaveN m x) = l1 at *
  have c2 : w.cell? ⟨g, 2, none⟩ = some (.int .u64 x.sl) := H.out.cell fun _ _ _ _ _ _ => rfl
  generalize x.sl = s0 at *
  generalize s0 + 1 = S1v at *
  go_enter Tryz.func41, Tryz.ntmps41
  go_wp2_with (first
    | (go_at_call 81; (with_reducible refine (HY.out _ w5 W5.out).mono ?_); rintro e w6 ⟨rfl, W6, k6⟩; have W6 := hid W6; have K6 := hid (K5.out.trans k6))
    | (go_at_call 80; (with_reducible refine (HL.out _ w4 W4.out).mono ?_); rintro e w5 ⟨rfl, W5, k5⟩; have W5 := hid W5; have K5 := hid k5)
    | (refine wpList_gst 26 (enco lf) rfl _ _ rfl rfl rfl v3 (by show 0 + 3 ≤ 3; omega) (by rw [size26]; rfl) (O6.enco_one _) ?_; intro w4 v4 b4 o4 s4; have B4 : Hid (Below w.heap.size w w4) := hid (B3.out.trans (b4.mono B2.out.size)); have W4 := hid (H.out.add B4.out B2.out.size (v4.lt (by show 0 < 3; omega))); have V4 : Hid (Var w4 w2.heap.size (enco lf)) := hid v4; clear b4 o4 s4 v4)
    | (refine wpList_galloc 26 (enco oz) zero26 rfl rfl ?_; intro w3 v3 b3 s3; have B3 : Hid (Below w.heap.size w w3) := hid (B2.out.trans (b3.mono B2.out.size)))
    | (go_at_call 79; (with_reducible refine (HT.out w1 W1.out).mono ?_); rintro e w2 ⟨rfl, b2⟩; have B2 : Hid (Below w.heap.size w w2) := hid (B1.out.trans (b2.mono B1.out.size)))
    | (go_at_call 78; (with_reducible refine (HS.out w H.out).mono ?_); rintro e w1 ⟨rfl, b1⟩; have W1 := hid (H.out.below b1); have B1 := hid b1))
  have hb2 : K w2.heap.size ∨ w2.heap.size = w2.heap.size := .inr rfl
  have V6 : Hid (Var w6 w2.heap.size (enco lf)) := hid (V4.out.same (K6.out.block _ hb2))
  have KB := hid ((H.out.keptb B4.out).trans (K6.out.mono fun _ h => .inl h))
  clear K6 K5 V4 W5 W4 B4 B3 B2 B1 HY HL HS HT
  generalize w2.heap.size = b at *
  obtain ⟨K', hK'⟩ : ∃ K' : Nat → Prop, K' = (fun k => K k ∨ k = b) := ⟨_, rfl⟩
  have hj : ∀ i, K i → K' i := by rw [hK']; exact fun _ h => .inl h
  have hb : K' b := by rw [hK']; exact .inr rfl
  rw [← hK'] at W6
  clear hK' hb2 k5 k6
  have KB6 := hid (KB.out.trans ((W6.out.keptb (Below.refl _ _).drew).mono hj))
  have Q1 := hid W6.out.drew
  have L1 := hid V6.out.drew
  clear W6 V6 KB
  have S1 : SE K' base g y m l1 b lf w6.drew := ⟨⟨_, _, _, Q1.out⟩, L1.out.1⟩
  refine wp_region_held_drew (S := SE K' base g y m l1 b lf) (by kernel_rfl) S1 (fun _ => ?_)
  refine tk 0 (some 27) (.pointer (some ⟨g, 0, none⟩)) rfl rfl (by kernel_rfl) (by kernel_rfl) (by kernel_rfl) (fun _ _ _ h => h) (.inl ⟨by rfl, fun _ _ => by go_simp⟩) S1 ?_
  simp only [Act.put, List.setIfInBounds_toArray, List.set_cons_zero, List.set_cons_succ]
  refine tk 1 (some 28) (.pointer (some ⟨g, 0, none⟩)) rfl rfl (by kernel_rfl) (by kernel_rfl) (by kernel_rfl) (fun _ _ _ h => h) (.inl ⟨by rfl, fun _ _ => by go_simp⟩) S1 ?_
  simp only [Act.put, List.setIfInBounds_toArray, List.set_cons_zero, List.set_cons_succ]
  refine tk 2 (some 29) (.pointer (some ⟨g, 0, none⟩)) rfl rfl (by kernel_rfl) (by kernel_rfl) (by kernel_rfl) (fun _ _ _ h => h) (.inl ⟨by rfl, fun _ _ => by go_simp⟩) S1 ?_
  simp only [Act.put, List.setIfInBounds_toArray, List.set_cons_zero, List.set_cons_succ]
  refine tk 3 (some 30) (.pointer (some ⟨g, 0, none⟩)) rfl rfl (by kernel_rfl) (by kernel_rfl) (by kernel_rfl) (fun _ _ _ h => h) (.inl ⟨by rfl, fun _ _ => by go_simp⟩) S1 ?_
  simp only [Act.put, List.setIfInBounds_toArray, List.set_cons_zero, List.set_cons_succ]
  refine tk 4 (some 31) (.pointer (some ⟨g, 0, none⟩)) rfl rfl (by kernel_rfl) (by kernel_rfl) (by kernel_rfl) (fun _ _ _ h => h) (.inl ⟨by rfl, fun _ _ => by go_simp⟩) S1 ?_
  simp only [Act.put, List.setIfInBounds_toArray, List.set_cons_zero, List.set_cons_succ]
  refine tk 5 (some 32) (.pointer (some ⟨g, 0, none⟩)) rfl rfl (by kernel_rfl) (by kernel_rfl) (by kernel_rfl) (fun _ _ _ h => h) (.inl ⟨by rfl, fun _ _ => by go_simp⟩) S1 ?_
  simp only [Act.put, List.setIfInBounds_toArray, List.set_cons_zero, List.set_cons_succ]
  refine tk 6 (some 33) (.pointer (some ⟨g, 2, none⟩)) rfl rfl (by kernel_rfl) (by kernel_rfl) (by kernel_rfl) (fun _ _ _ h => h) (.inl ⟨by rfl, fun _ _ => by go_simp⟩) S1 ?_
  simp only [Act.put, List.setIfInBounds_toArray, List.set_cons_zero, List.set_cons_succ]
  refine tk 9 (some 36) (.int .i64 T) rfl rfl (by kernel_rfl) (by kernel_rfl) (by kernel_rfl) (fun _ _ _ h => h) (.inl ⟨by rfl, fun _ _ => by go_simp⟩) S1 ?_
  simp only [Act.put, List.setIfInBounds_toArray, List.set_cons_zero, List.set_cons_succ]
  refine tk 10 (some 37) (ov lf) rfl rfl (by kernel_rfl) (by kernel_rfl) (by kernel_rfl) (fun _ _ _ h => h) (ylo rfl rfl (fun w h => h.2) rfl) S1 ?_
  simp only [Act.put, List.setIfInBounds_toArray, List.set_cons_zero, List.set_cons_succ]
  refine rd_l1 7 (some 34) (.int .u64 y.sl) 24 (p := ⟨g, 2, none⟩) (by kernel_rfl) rfl rfl rfl rfl Tryz.isAgg24 (Q1.out.cell fun _ _ _ _ _ _ => rfl) rfl S1 ?_
  simp only [Act.put, List.setIfInBounds_toArray, List.set_cons_zero, List.set_cons_succ]
  refine tk 8 (some 35) (.int .u64 S1v) rfl rfl (by kernel_rfl) (by kernel_rfl) (by kernel_rfl) (fun _ _ _ h => h) (.inl ⟨by rfl, fun _ _ => by go_simp; try rw [eS]⟩) S1 ?_
  simp only [Act.put, List.setIfInBounds_toArray, List.set_cons_zero, List.set_cons_succ]
  refine tk 11 (some 38) (.pointer (some ⟨g, 0, none⟩)) rfl rfl (by kernel_rfl) (by kernel_rfl) (by kernel_rfl) (fun _ _ _ h => h) (.inl ⟨by rfl, fun _ _ => by go_simp⟩) S1 ?_
  simp only [Act.put, List.setIfInBounds_toArray, List.set_cons_zero, List.set_cons_succ]
  refine tk 12 (some 39) (.pointer (some ⟨g, 0, none⟩)) rfl rfl (by kernel_rfl) (by kernel_rfl) (by kernel_rfl) (fun _ _ _ h => h) (.inl ⟨by rfl, fun _ _ => by go_simp⟩) S1 ?_
  simp only [Act.put, List.setIfInBounds_toArray, List.set_cons_zero, List.set_cons_succ]
  refine tk 13 (some 40) (.pointer (some ⟨g, 2, none⟩)) rfl rfl (by kernel_rfl) (by kernel_rfl) (by kernel_rfl) (fun _ _ _ h => h) (.inl ⟨by rfl, fun _ _ => by go_simp⟩) S1 ?_
  simp only [Act.put, List.setIfInBounds_toArray, List.set_cons_zero, List.set_cons_succ]
  refine rd_ws1 { y with sl := S1v } 14 2 (.int .u64 S1v) 24 (by kernel_rfl) rfl rfl rfl rfl rfl Q1.out (by kernel_rfl) rfl rfl rfl (fun _ _ _ _ _ _ => rfl) (by omega) rfl ?_
  intro w2 Q2 k2
  have Q2 := hid Q2
  have L2 : Hid (Var w2 b (enco lf)) := hid (L1.out.same (k2.block b hb))
  have S2 : SE K' base g y m l1 b lf w2 := ⟨⟨_, _, _, Q2.out⟩, L2.out.1⟩
  refine ⟨S2, ?_⟩
  refine tk 15 (some 41) (.pointer (some ⟨g, 0, none⟩)) rfl rfl (by kernel_rfl) (by kernel_rfl) (by kernel_rfl) (fun _ _ _ h => h) (.inl ⟨by rfl, fun _ _ => by go_simp⟩) S2 ?_
  simp only [Act.put, List.setIfInBounds_toArray, List.set_cons_zero, List.set_cons_succ]
  refine tk 16 (some 42) (.pointer (some ⟨g, 0, none⟩)) rfl rfl (by kernel_rfl) (by kernel_rfl) (by kernel_rfl) (fun _ _ _ h => h) (.inl ⟨by rfl, fun _ _ => by go_simp⟩) S2 ?_
  simp only [Act.put, List.setIfInBounds_toArray, List.set_cons_zero, List.set_cons_succ]
  refine tk 17 (some 43) (.pointer (some ⟨g, 3, none⟩)) rfl rfl (by kernel_rfl) (by kernel_rfl) (by kernel_rfl) (fun _ _ _ h => h) (.inl ⟨by rfl, fun _ _ => by go_simp⟩) S2 ?_
  simp only [Act.put, List.setIfInBounds_toArray, List.set_cons_zero, List.set_cons_succ]
  refine rd_ws1 { y with sl := S1v, st := T } 18 3 (.int .i64 T) 2 (by kernel_rfl) rfl rfl rfl rfl rfl Q2.out (by kernel_rfl) rfl rfl rfl (fun _ _ _ _ _ _ => rfl) (by omega) rfl ?_
  intro w3 Q3 k3
  have Q3 := hid Q3
  have L3 : Hid (Var w3 b (enco lf)) := hid (L2.out.same (k3.block b hb))
  have S3 : SE K' base g y m l1 b lf w3 := ⟨⟨_, _, _, Q3.out⟩, L3.out.1⟩
  refine ⟨S3, ?_⟩
  refine tk 19 (some 44) (.pointer (some ⟨g, 0, none⟩)) rfl rfl (by kernel_rfl) (by kernel_rfl) (by kernel_rfl) (fun _ _ _ h => h) (.inl ⟨by rfl, fun _ _ => by go_simp⟩) S3 ?_
  simp only [Act.put, List.setIfInBounds_toArray, List.set_cons_zero, List.set_cons_succ]
  refine tk 20 (some 45) (.pointer (some ⟨g, 0, none⟩)) rfl rfl (by kernel_rfl) (by kernel_rfl) (by kernel_rfl) (fun _ _ _ h => h) (.inl ⟨by rfl, fun _ _ => by go_simp⟩) S3 ?_
  simp only [Act.put, List.setIfInBounds_toArray, List.set_cons_zero, List.set_cons_succ]
  refine tk 21 (some 46) (.pointer (some ⟨g, 4, none⟩)) rfl rfl (by kernel_rfl) (by kernel_rfl) (by kernel_rfl) (fun _ _ _ h => h) (.inl ⟨by rfl, fun _ _ => by go_simp⟩) S3 ?_
  simp only [Act.put, List.setIfInBounds_toArray, List.set_cons_zero, List.set_cons_succ]
  refine rd_wsn { y with sl := S1v, st := T, o := lf } 22 4 (enco lf) 26 (by kernel_rfl) rfl rfl rfl rfl rfl Q3.out (by rw [size26]; rfl) (O6.enco_one _) rfl (fun _ _ _ _ _ _ => rfl) (by show 4 + 3 ≤ 20; omega) rfl ?_
  intro w4 Q4 k4
  have L4 : Hid (Var w4 b (enco lf)) := hid (L3.out.same (k4.block b hb))
  refine ⟨⟨⟨_, _, _, Q4⟩, L4.out.1⟩, ?_⟩
  refine wpAnyH_done (by kernel_rfl) ?_ _
  have Q4 := hid Q4
  have K4 := hid (KB6.out.trans ((k2.trans (k3.trans k4)).mono hj))
  go_wp2_with (first
    | (go_at_call 82; (with_reducible refine (HB.out _ w4 Q4.out).mono ?_); rintro e w5 ⟨rfl, W5, k5⟩))
  go_ret
  exact ⟨rfl, W5.mono hj, K4.out.trans (k5.mono hj)⟩
set_option maxRecDepth 100000 in
theorem end_max (K : Nat → Prop) (base g : Nat) (x : Nd) (m : Md) (l : List Ac) (w : World) (h : Wk w K base g x m l) (hs : x.sl = 4294967296) :
    Calls Tryz.prog 41 #[.pointer (some ⟨g, 0, none⟩)] w (RetW K base g x m l (.int .i64 2) w) := by
  have H := hid h
  have c2 : w.cell? ⟨g, 2, none⟩ = some (.int .u64 4294967296) := by have := h.cell (j := 2) (v := .int .u64 x.sl) fun _ _ _ _ _ _ => rfl; rwa [hs] at this
  clear h hs
  go_enter Tryz.func41, Tryz.ntmps41
  go_wp2_with fail
  go_ret
  exact ⟨rfl, H.out, Kept.refl _ _⟩
set_option maxRecDepth 100000 in
set_option maxHeartbeats 1000000 in
theorem end_time (K : Nat → Prop) (base g : Nat) (x : Nd) (m : Md) (l : List Ac) (w : World) (h : Wk w K base g x m l) (k : NdOk m x) (hs : ¬ x.sl = 4294967296) (hE : timeE x (m.s + x.co) = 2) :
    Calls Tryz.prog 41 #[.pointer (some ⟨g, 0, none⟩)] w (RetW K base g x m l (.int .i64 2) w) := by
  have H := hid h
  obtain ⟨q0, q1⟩ := len_in k
  have HS := hid (fun (w1 : World) (h : Wk w1 K base g x m l) => length_w K base g x m l w1 h _ rfl (by omega) (by omega))
  have HT := hid (fun (w1 : World) (h : Wk w1 K base g x m l) => time_any K base g x m l (m.s + x.co) w1 h ⟨k.ho, k.t0, k.t1⟩ q0 q1)
  rw [hE] at HT
  have e1 : (x.sl == 4294967296) = false := by simp [hs]
  clear h k hs hE q0 q1
  generalize timeT x (m.s + x.co) = T at *
  generalize O6.aft x.o (m.s + x.co) = lf at *
  generalize m.s + x.co = L at *
  have c2 : w.cell? ⟨g, 2, none⟩ = some (.int .u64 x.sl) := H.out.cell fun _ _ _ _ _ _ => rfl
  generalize x.sl = s0 at *
  go_enter Tryz.func41, Tryz.ntmps41
  go_wp2_with (first
    | (refine wpList_gst 26 (enco lf) rfl _ _ rfl rfl rfl v3 (by show 0 + 3 ≤ 3; omega) (by rw [size26]; rfl) (O6.enco_one _) ?_; intro w4 v4 b4 o4 s4; have B4 : Hid (Below w.heap.size w w4) := hid (B3.out.trans (b4.mono B2.out.size)))
    | (refine wpList_galloc 26 (enco oz) zero26 rfl rfl ?_; intro w3 v3 b3 s3; have B3 : Hid (Below w.heap.size w w3) := hid (B2.out.trans (b3.mono B2.out.size)))
    | (go_at_call 79; (with_reducible refine (HT.out w1 W1.out).mono ?_); rintro e w2 ⟨rfl, b2⟩; have B2 : Hid (Below w.heap.size w w2) := hid (B1.out.trans (b2.mono B1.out.size)))
    | (go_at_call 78; (with_reducible refine (HS.out w H.out).mono ?_); rintro e w1 ⟨rfl, b1⟩; have W1 := hid (H.out.below b1); have B1 := hid b1))
  go_ret
  exact ⟨rfl, H.out.below B4.out, H.out.keptb B4.out⟩
/-- Its slot does not end: there is no slot more, or the time goes over. -/
def stuck (m : Md) (x : Nd) : Prop := x.sl = 4294967296 ∨ timeE x (m.s + x.co) = 2
instance (m : Md) (x : Nd) : Decidable (stuck m x) := by unfold stuck; infer_instance
def endN (m : Md) (x : Nd) : Nd := if stuck m x then x else beginN m (midN m x)
def endL (m : Md) (x : Nd) : List Ac := if stuck m x then [] else leaveL m x ++ syncL m (leaveN m x) ++ beginL m (midN m x)
def endE (m : Md) (x : Nd) : Int := if stuck m x then 2 else beginE m (midN m x)
theorem end_any (K : Nat → Prop) (base g : Nat) (x : Nd) (m : Md) (l : List Ac) (w : World) (h : Wk w K base g x m l) (hl : l.length ≤ 900) (k : NdOk m x) :
    Calls Tryz.prog 41 #[.pointer (some ⟨g, 0, none⟩)] w (RetW K base g (endN m x) m (l ++ endL m x) (.int .i64 (endE m x)) w) := by
  by_cases hs : stuck m x
  · rw [show endN m x = x from if_pos hs, show endL m x = [] from if_pos hs, show endE m x = 2 from if_pos hs, List.append_nil]
    by_cases h2 : x.sl = 4294967296
    · exact end_max K base g x m l w h h2
    · exact end_time K base g x m l w h k h2 (hs.resolve_left h2)
  · rw [show endN m x = _ from if_neg hs, show endL m x = _ from if_neg hs, show endE m x = _ from if_neg hs, ← List.append_assoc, ← List.append_assoc]
    have h2 : ¬ x.sl = 4294967296 := fun e => hs (.inl e)
    exact end_ok K base g x m l w h hl k h2 ((timeE_or x _).resolve_right fun e => hs (.inr e))
theorem NdOk.end {m : Md} {x : Nd} (k : NdOk m x) : NdOk m (endN m x) := by
  unfold endN
  split
  · exact k
  · next hs => exact (k.mid (fun e => hs (.inl e)) ((timeE_or x _).resolve_right fun e => hs (.inr e))).begin
end Go.Proofs.YtlgedfljmgedfaaGreat
namespace Go.Proofs.YtlgedfljmgedfaaGreat
open Go Go.RowKit
open M10 (hid Md encm mv mz Oth range_keep there_keep range_other there_other setCells_oth setCells_size there_set Ty enct tv tz Fr encf fv fz)
open O6 (Oc enco ov oz)
open T9 (sv)
/-! ### More operations in a region that draws, carried out when they come up -/
section
variable {ops : Array Oper} {S : World → Prop} {o : Oper} {a : Act} {w : World} {K' : Act → World → Prop} {Q : Exit → Act → World → Prop} {fuel : Nat} {listed : Array Bool} {g : Nat} {cs : List Value}
theorem rd_al (i : Nat) (d : Option Tmp) (ty : TypeId) (cs : List Value) (hz : ∀ w, (zeroValue ty).run Tryz.prog w = .ok (.agg cs.toArray) w) (hr : Region.ready .any ops listed = [i]) (hi : ops[i]? = some o) (hd : o.dst = d) (ho : o.op = .alloc ty) (hw : Region.wanted o (yielded ops a.tmps) = true)
    (h : ∀ w', Var w' w.heap.size cs → Below w.heap.size w w' → Hid (w'.heap.size = w.heap.size + 1) → S w' ∧ wpAnyH Tryz.prog .any ops Q S fuel (listed.setIfInBounds i true) (a.put d (.pointer (some ⟨w.heap.size, 0, none⟩))) w') : wpAnyH Tryz.prog .any ops Q S (fuel + 1) listed a w := by
  subst hd
  refine wpAnyH_ready hr (by simp) (AllReadyH.cons hi (fun K hK => ?_) AllReadyH.nil)
  rw [if_pos hw]
  have := h _ (var_new w cs ty) ((Below.refl _ _).alloc (Nat.le_refl _) _) (hid (by simp))
  unfold Oper.wp execOp
  simp only [ho, Sem.run_bind, Instr.alloc, hz, newVar, newRow, run_newObj_alloc, Sem.run_pure, Result.andThen_ok]
  exact hK.out _ _ this.1 fun _ => this.2
theorem rd_gst (i : Nat) (off : Nat) (vs : List Value) (ty : TypeId) {y z : Operand} (hr : Region.ready .any ops listed = [i]) (hi : ops[i]? = some o) (hd : o.dst = none) (ho : o.op = .store ty y z) (hx : a.eval y = .pointer (some ⟨g, off, none⟩)) (hy : a.eval z = .agg vs.toArray) (hv : Var w g cs) (hn : off + vs.length ≤ cs.length) (hs : (Tryz.prog.info? ty).map (·.size) = some vs.length) (h1 : ∀ u ∈ vs, u.oneCell' = true) (hw : Region.wanted o (yielded ops a.tmps) = true)
    (h : ∀ w', Var w' g (setv cs off vs) → Below g w w' → Oth g w w' → Hid (w'.heap.size = w.heap.size) → S w' ∧ wpAnyH Tryz.prog .any ops Q S fuel (listed.setIfInBounds i true) a w') : wpAnyH Tryz.prog .any ops Q S (fuel + 1) listed a w := by
  refine wpAnyH_ready hr (by simp) (AllReadyH.cons hi (fun K hK => ?_) AllReadyH.nil)
  rw [if_pos hw]
  have := h _ (hv.set off vs hn) (setCells_oth g _ _ _).1 (setCells_oth g _ _ _).2 (hid (setCells_size _ _ _ _))
  refine wp_store_mid ty y z ho g off vs.toArray hx hy (hv.there (by simpa using hn)) (by simpa using hs) (all_oneCell_toArray h1) ?_
  rw [show a.put o.dst undef = a by rw [hd]; rfl]
  exact hK.out _ _ this.1 fun _ => this.2
theorem rd_gst1 (i : Nat) (off : Nat) (v : Value) (ty : TypeId) {y z : Operand} (hr : Region.ready .any ops listed = [i]) (hi : ops[i]? = some o) (hd : o.dst = none) (ho : o.op = .store ty y z) (hx : a.eval y = .pointer (some ⟨g, off, none⟩)) (hy : a.eval z = v) (hv : Var w g cs) (hn : off < cs.length) (hs : (Tryz.prog.info? ty).map (·.size) = some 1) (hc : v.cells = #[v]) (h1 : v.oneCell' = true) (hw : Region.wanted o (yielded ops a.tmps) = true)
    (h : ∀ w', Var w' g (setv cs off [v]) → Below g w w' → Oth g w w' → Hid (w'.heap.size = w.heap.size) → S w' ∧ wpAnyH Tryz.prog .any ops Q S fuel (listed.setIfInBounds i true) a w') : wpAnyH Tryz.prog .any ops Q S (fuel + 1) listed a w := by
  refine wpAnyH_ready hr (by simp) (AllReadyH.cons hi (fun K hK => ?_) AllReadyH.nil)
  rw [if_pos hw]
  have hrun := run_store1 ty g off v w hs hc h1 (hv.there (by omega))
  have := h _ (hv.set off [v] (by simp; omega)) (setCells_oth g _ _ _).1 (setCells_oth g _ _ _).2 (hid (setCells_size _ _ _ _))
  unfold Oper.wp execOp
  simp only [ho, hx, hy, Sem.run_bind, Sem.run_pure, Result.andThen_ok, hrun]
  show K (a.put o.dst undef) _
  rw [show a.put o.dst undef = a by rw [hd]; rfl]
  exact hK.out _ _ this.1 fun _ => this.2
theorem wp_bsA {z : Operand} {u : Ac} (ho : o.op = .buildSlice 37 1 #[(0, z)]) (hx : a.eval z = av u) (h : K' (a.put o.dst (.slice (some ⟨w.heap.size, 0, none⟩) 1 1)) (w.alloc (.cells (enca u).toArray 66))) : o.wp Tryz.prog a w K' Q := by
  unfold av enca at hx
  unfold enca at h
  unfold Oper.wp execOp
  simp only [ho, List.map_toArray, List.map_cons, List.map_nil, hx]
  simp [go_sem]
  exact h
/-- A load of one cell, and a slice of one act made: in either order. -/
theorem rd_lb (i j : Nat) (di dj : Option Tmp) (v : Value) (ty : TypeId) (u : Ac) {oi oj : Oper} {p : Addr} {y z : Operand}
    (hr : Region.ready .any ops listed = [i, j]) (hri : Region.ready .any ops (listed.setIfInBounds i true) = [j]) (hrj : Region.ready .any ops (listed.setIfInBounds j true) = [i])
    (hi : ops[i]? = some oi) (hj : ops[j]? = some oj) (hdi : oi.dst = di) (hdj : oj.dst = dj)
    (hoi : oi.op = .load ty y) (hxi : a.eval y = .pointer (some p)) (hxi' : (a.put dj (.slice (some ⟨w.heap.size, 0, none⟩) 1 1)).eval y = .pointer (some p)) (ha : ∀ w, (isAgg ty).run Tryz.prog w = .ok false w) (hc : w.cell? p = some v)
    (hoj : oj.op = .buildSlice 37 1 #[(0, z)]) (hxj : a.eval z = av u) (hxj' : (a.put di v).eval z = av u)
    (hwi : Region.wanted oi (yielded ops a.tmps) = true) (hwi' : Region.wanted oi (yielded ops (a.put dj (.slice (some ⟨w.heap.size, 0, none⟩) 1 1)).tmps) = true) (hwj : Region.wanted oj (yielded ops a.tmps) = true) (hwj' : Region.wanted oj (yielded ops (a.put di v).tmps) = true)
    (hS : S w) (hS2 : S (w.alloc (.cells (enca u).toArray 66)))
    (hl : (listed.setIfInBounds j true).setIfInBounds i true = (listed.setIfInBounds i true).setIfInBounds j true)
    (hp : (a.put dj (.slice (some ⟨w.heap.size, 0, none⟩) 1 1)).put di v = (a.put di v).put dj (.slice (some ⟨w.heap.size, 0, none⟩) 1 1))
    (h : wpAnyH Tryz.prog .any ops Q S fuel ((listed.setIfInBounds i true).setIfInBounds j true) ((a.put di v).put dj (.slice (some ⟨w.heap.size, 0, none⟩) 1 1)) (w.alloc (.cells (enca u).toArray 66))) :
    wpAnyH Tryz.prog .any ops Q S (fuel + 2) listed a w := by
  subst hdi hdj
  have hb : p.block < w.heap.size := World.block_lt_of_cell? w _ hc
  have hc' : (w.alloc (.cells (enca u).toArray 66)).cell? p = some v := (((Below.refl _ w).alloc (Nat.le_refl _) _).cell hb).trans hc
  refine wpAnyH_ready hr (by simp) (AllReadyH.cons hi (fun K hK => ?_) (AllReadyH.cons hj (fun K hK => ?_) AllReadyH.nil))
  · rw [if_pos hwi]
    refine wp_l1 ty hoi hxi ha hc (hK.out _ _ hS fun _ => ?_)
    refine wpAnyH_ready hri (by simp) (AllReadyH.cons hj (fun K hK => ?_) AllReadyH.nil)
    rw [if_pos hwj']
    exact wp_bsA hoj hxj' (hK.out _ _ hS2 fun _ => h)
  · rw [if_pos hwj]
    refine wp_bsA hoj hxj (hK.out _ _ hS2 fun _ => ?_)
    refine wpAnyH_ready hrj (by simp) (AllReadyH.cons hi (fun K hK => ?_) AllReadyH.nil)
    rw [if_pos hwi']
    refine wp_l1 ty hoi hxi' ha hc' (hK.out _ _ hS2 fun _ => ?_)
    rw [hl, hp]
    exact h
/-- An act appended onto the call's own list. -/
theorem rd_pushA (i : Nat) (d : Option Tmp) (s y : Operand) (hr : Region.ready .any ops listed = [i]) (hi : ops[i]? = some o) (hd : o.dst = d) (ho : o.op = .call { callee := .builtin .append, args := #[s, y], argTypes := #[37, 37] }) {base n c : Nat} {A : Option Addr} {l : List Ac} {v : Ac} (hs : a.eval s = .slice A n c) (hown : OwnR w base 66 8 A n c (flat l))
    (hx : a.eval y = .slice (some ⟨w.heap.size, 0, none⟩) 1 1) (hn : n ≤ 100000) (hbase : base ≤ w.heap.size) (hw : Region.wanted o (yielded ops a.tmps) = true)
    (h : ∀ A' c' w', OwnR w' base 66 8 A' (n + 1) c' (flat (l ++ [v])) → w.grownBy w' (ob A) → (ob A' = ob A ∨ ob A' = some (w.heap.size + 1)) → S w' ∧ wpAnyH Tryz.prog .any ops Q S fuel (listed.setIfInBounds i true) (a.put d (.slice A' (n + 1) c')) w') :
    wpAnyH Tryz.prog .any ops Q S (fuel + 1) listed a (w.alloc (.cells (enca v).toArray 66)) := by
  subst hd
  refine wpAnyH_ready hr (by simp) (AllReadyH.cons hi (fun K hK => ?_) AllReadyH.nil)
  rw [if_pos hw]
  obtain ⟨i0, hi0, hi1, hi2, hi3⟩ := info_parts info66
  have hmul : (n + 1) * 64 ≤ 140737488355328 := by omega
  obtain ⟨v', w', hrun, h2, h3, _, h5⟩ := run_append_own_at (P := Tryz.prog) (w.alloc (.cells (enca v).toArray 66)) base 37 o.type 66 i0 (av az) 8 64 Tryz.underlying37 hi0 hi1 hi2 hi3 rfl (by omega) (.slice A n c) n (flat l) (hown.alloc _) ⟨w.heap.size, 0, none⟩ 1 1 (enca v) (by rw [enca_len])
    (fun j u hu => by
      rw [T9.plain_add]
      exact (var_new w (enca v) 66).1 j u hu)
    (enca_one v) (by unfold maxLen; omega) hmul (by simp; omega)
  have hsz : (w.alloc (.cells (enca v).toArray 66)).heap.size = w.heap.size + 1 := by simp
  rw [ob_of] at h3 h5
  have hg : w.grownBy w' (ob A) := ⟨h3.os, h3.tape, h3.output, by have := h3.size; rw [hsz] at this; omega, fun k hk hne => (h3.block k (by rw [hsz]; omega) hne).trans (Below.heap_alloc _ _ _ hk)⟩
  have hfin : ∃ A' c', v' = .slice A' (n + 1) c' := by
    rcases h2.2 with ⟨rfl, h0⟩ | ⟨g, cap, cur, rfl, r⟩
    · omega
    · exact ⟨_, _, rfl⟩
  obtain ⟨A', c', rfl⟩ := hfin
  rw [ob_of, hsz] at h5
  have := h A' c' w' ((show flat l ++ enca v = flat (l ++ [v]) by rw [flat_app]; simp [flat]) ▸ h2) hg h5
  unfold Oper.wp execOp
  simp only [ho, resolve, invoke, builtin, Sem.run_bind, Sem.run_pure, Result.andThen_ok, List.map_toArray, List.map_cons, List.map_nil, hs, hx, hrun]
  exact hK.out _ _ this.1 fun _ => this.2
end
end Go.Proofs.YtlgedfljmgedfaaGreat
