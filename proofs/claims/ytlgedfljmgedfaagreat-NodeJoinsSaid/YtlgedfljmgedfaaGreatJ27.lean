/-
  Texts NM of this seat, as far as they are used.
-/
import Derived.Test.YtlgedfljmgedfaaGreatJ26
namespace Go.Proofs.YtlgedfljmgedfaaGreat
open Go Go.RowKit
open M10 (hid Md encm mv mz Oth range_keep there_keep range_other there_other setCells_oth setCells_size there_set Ty enct tv tz Fr encf fv fz)
open O6 (Oc enco ov oz)
open T9 (sv)
/-! ### A call and what makes memory, in either order -/
section
variable {ops : Array Oper} {S : World → Prop} {oi oj : Oper} {a : Act} {w : World} {Q : Exit → Act → World → Prop} {fuel : Nat} {listed : Array Bool}
theorem rd_ca (i j : Nat) (di dj : Option Tmp) (f : FuncId) (args : Array Value) (v : Value) (ty : TypeId) (cs : List Value) {R : World → Prop} (hr : Region.ready .any ops listed = [i, j]) (hi : ops[i]? = some oi) (hj : ops[j]? = some oj) (hdi : oi.dst = di) (hdj : oj.dst = dj)
    (he : (execOp a.eval oi).run Tryz.prog w = .ok (.enter f args) w) (hc : Calls Tryz.prog f args w fun e w' => e = .returned v ∧ R w') (hz : ∀ w, (zeroValue ty).run Tryz.prog w = .ok (.agg cs.toArray) w) (ho : oj.op = .alloc ty) (hwi : Region.wanted oi (yielded ops a.tmps) = true) (hwj : Region.wanted oj (yielded ops a.tmps) = true)
    (hA : ∀ w', R w' → S w' ∧ wpAnyH Tryz.prog .any ops Q S fuel (listed.setIfInBounds i true) (a.put di v) w')
    (hB : ∀ w', Var w' w.heap.size cs → Below w.heap.size w w' → Hid (w'.heap.size = w.heap.size + 1) → S w' ∧ wpAnyH Tryz.prog .any ops Q S fuel (listed.setIfInBounds j true) (a.put dj (.pointer (some ⟨w.heap.size, 0, none⟩))) w') : wpAnyH Tryz.prog .any ops Q S (fuel + 1) listed a w := by
  subst hdi hdj
  refine wpAnyH_ready hr (by simp) (AllReadyH.cons hi (fun K hK => ?_) (AllReadyH.cons hj (fun K hK => ?_) AllReadyH.nil))
  · rw [if_pos hwi]
    unfold Oper.wp
    rw [he]
    refine hc.mono ?_
    rintro e w' ⟨rfl, h2⟩
    exact hK.out _ _ (hA w' h2).1 fun _ => (hA w' h2).2
  · rw [if_pos hwj]
    have := hB _ (var_new w cs ty) ((Below.refl _ _).alloc (Nat.le_refl _) _) (hid (by simp))
    unfold Oper.wp execOp
    simp only [ho, Sem.run_bind, Instr.alloc, hz, newVar, newRow, run_newObj_alloc, Sem.run_pure, Result.andThen_ok]
    exact hK.out _ _ this.1 fun _ => this.2
theorem wp_bsI {K' : Act → World → Prop} {o : Oper} {y : Operand} (ho : o.op = .buildSlice 30 1 #[(0, y)]) {v : Int} (hx : a.eval y = .int .i64 v) (h : K' (a.put o.dst (.slice (some ⟨w.heap.size, 0, none⟩) 1 1)) (w.alloc (.cells #[.int .i64 v] 2))) : o.wp Tryz.prog a w K' Q := by
  unfold Oper.wp execOp
  simp only [ho, List.map_toArray, List.map_cons, List.map_nil, hx]
  simp [go_sem]
  exact h
/-- A list of one number made. -/
def New1 (N base : Nat) (A : Option Addr) (v : Int) (w : World) : Prop := OwnR w base 2 1 A 1 1 (sv [v]) ∧ ∃ p, A = some ⟨p, 0, none⟩ ∧ N ≤ p
theorem New1.below {N base : Nat} {A : Option Addr} {v : Int} {w w' : World} (h : New1 N base A v w) (hb : Below w.heap.size w w') : New1 N base A v w' := ⟨h.1.below hb, h.2⟩
theorem new1 (base : Nat) (v : Int) (w : World) (hb : base ≤ w.heap.size) : New1 w.heap.size base (some ⟨w.heap.size, 0, none⟩) v (w.alloc (.cells #[.int .i64 v] 2)) :=
  ⟨World.ownsRow_lit w #[.int .i64 v] 1 hb (by unfold maxLen; omega) rfl, _, rfl, Nat.le_refl _⟩
theorem rd_bs (j : Nat) (dj : Option Tmp) (v : Int) {y : Operand} (base : Nat) (hr : Region.ready .any ops listed = [j]) (hj : ops[j]? = some oj) (hdj : oj.dst = dj) (ho : oj.op = .buildSlice 30 1 #[(0, y)]) (hx : a.eval y = .int .i64 v) (hwj : Region.wanted oj (yielded ops a.tmps) = true) (hb : base ≤ w.heap.size)
    (hB : ∀ w' A, New1 w.heap.size base A v w' → Below w.heap.size w w' → S w' ∧ wpAnyH Tryz.prog .any ops Q S fuel (listed.setIfInBounds j true) (a.put dj (.slice A 1 1)) w') : wpAnyH Tryz.prog .any ops Q S (fuel + 1) listed a w := by
  subst hdj
  refine wpAnyH_ready hr (by simp) (AllReadyH.cons hj (fun K hK => ?_) AllReadyH.nil)
  rw [if_pos hwj]
  have := hB _ _ (new1 base v w hb) ((Below.refl _ _).alloc (Nat.le_refl _) _)
  exact wp_bsI ho hx (hK.out _ _ this.1 fun _ => this.2)
theorem rd_cb (i j : Nat) (di dj : Option Tmp) (f : FuncId) (args : Array Value) (v : Value) (u : Int) {y : Operand} (base : Nat) {R : World → Prop} (hr : Region.ready .any ops listed = [i, j]) (hi : ops[i]? = some oi) (hj : ops[j]? = some oj) (hdi : oi.dst = di) (hdj : oj.dst = dj)
    (he : (execOp a.eval oi).run Tryz.prog w = .ok (.enter f args) w) (hc : Calls Tryz.prog f args w fun e w' => e = .returned v ∧ R w') (ho : oj.op = .buildSlice 30 1 #[(0, y)]) (hx : a.eval y = .int .i64 u) (hwi : Region.wanted oi (yielded ops a.tmps) = true) (hwj : Region.wanted oj (yielded ops a.tmps) = true) (hb : base ≤ w.heap.size)
    (hA : ∀ w', R w' → S w' ∧ wpAnyH Tryz.prog .any ops Q S fuel (listed.setIfInBounds i true) (a.put di v) w')
    (hB : ∀ w' A, New1 w.heap.size base A u w' → Below w.heap.size w w' → S w' ∧ wpAnyH Tryz.prog .any ops Q S fuel (listed.setIfInBounds j true) (a.put dj (.slice A 1 1)) w') : wpAnyH Tryz.prog .any ops Q S (fuel + 1) listed a w := by
  subst hdi hdj
  refine wpAnyH_ready hr (by simp) (AllReadyH.cons hi (fun K hK => ?_) (AllReadyH.cons hj (fun K hK => ?_) AllReadyH.nil))
  · rw [if_pos hwi]
    unfold Oper.wp
    rw [he]
    refine hc.mono ?_
    rintro e w' ⟨rfl, h2⟩
    exact hK.out _ _ (hA w' h2).1 fun _ => (hA w' h2).2
  · rw [if_pos hwj]
    have := hB _ _ (new1 base u w hb) ((Below.refl _ _).alloc (Nat.le_refl _) _)
    exact wp_bsI ho hx (hK.out _ _ this.1 fun _ => this.2)
/-- The node stored whole. -/
theorem rd_wN (i : Nat) (y : Nd) {K : Nat → Prop} {base g : Nat} {x : Nd} {m : Md} {l : List Ac} {A A' B : Option Addr} {n n' c c' k d : Nat} {p z : Operand} (hr : Region.ready .any ops listed = [i]) (hi : ops[i]? = some oi) (hd : oi.dst = none) (ho : oi.op = .store 32 p z) (hx : a.eval p = .pointer (some ⟨g, 0, none⟩)) (hy : a.eval z = nv y A' n' c') (hw : Region.wanted oi (yielded ops a.tmps) = true)
    (hv : WkU w K base g x m l A n c B k d) (ow : OwnR w base 2 1 A' n' c' (sv y.dv)) (hA : ∀ b, ob A' = some b → ¬ K b ∧ b ≠ g ∧ ob B ≠ some b)
    (h : ∀ w', Wk w' K base g y m l → Kept K w w' → S w' ∧ wpAnyH Tryz.prog .any ops Q S fuel (listed.setIfInBounds i true) a w') : wpAnyH Tryz.prog .any ops Q S (fuel + 1) listed a w := by
  refine wpAnyH_ready hr (by simp) (AllReadyH.cons hi (fun K hK => ?_) AllReadyH.nil)
  rw [if_pos hw]
  obtain ⟨r1, r2⟩ := hv.setN y ow hA
  refine wp_store_mid 32 p z ho g 0 (encn y A' n' c').toArray hx hy (hv.var.there (by show 0 + 14 ≤ 20; omega)) size32 (all_oneCell_toArray (encn_one _ _ _ _)) ?_
  rw [show a.put oi.dst undef = a by rw [hd]; rfl]
  exact hK.out _ _ (h _ r1 r2).1 fun _ => (h _ r1 r2).2
end
/-! ### join -/
theorem lead_in {m : Md} {x : Nd} (k : NdOk m x) : (0 ≤ O6.psO x.o m.l ∧ O6.psO x.o m.l ≤ 100000000000000000 ∧ 0 ≤ m.l ∧ m.l ≤ 67108864) ∧ (0 ≤ O6.psO x.o m.s ∧ O6.psO x.o m.s ≤ 100000000000000000 ∧ 0 ≤ m.s ∧ m.s ≤ 67108864) := by
  obtain ⟨h1, h2, h3, h4, h5, h6, h7, h8, h9⟩ := k.hm
  obtain ⟨a, b⟩ := ps_in k.ho (n := m.l) (by omega) (by omega)
  obtain ⟨c, d⟩ := ps_in k.ho (n := m.s) (by omega) (by omega)
  exact ⟨⟨a, b, by omega, by omega⟩, c, d, by omega, by omega⟩
set_option maxRecDepth 100000 in
set_option maxHeartbeats 2000000 in
theorem join_other (K : Nat → Prop) (base g : Nat) (x : Nd) (m : Md) (l : List Ac) (f : Fr) (now began : Int) (w : World) (h : Wk w K base g x m l) (k : NdOk m x) (hf : M10.OkF f) (hO : ¬ (f.s : Int) % m.n = f.f) :
    Calls Tryz.prog 48 #[.pointer (some ⟨g, 0, none⟩), fv f, .int .i64 now, .int .i64 began] w (RetW K base g x m l (.int .i64 0) w) := by
  have H := hid h
  have T0 := hid (fun (w1 : World) (d : Nat) (os : Array Obj) => Calls.regrown_of (d := d) (os := os) (own_okm (y := m) (f.s : Int) (Sort.grow (redrawn w1 d) os) k.hm (by omega) (by have := hf.2.2.2; omega)))
  have e1 : ((f.s : Int) % m.n != f.f) = true := by simp [hO]
  clear h k hf hO
  generalize (f.s : Int) % m.n = O at *
  go_enter Tryz.func48, Tryz.ntmps48
  go_wp2_with (first
    | (refine wpList_gbox 54 (encf f) rfl (.tmp 1) rfl rfl ?_; intro w1 v1 b1 s1))
  have hbs : w.heap.size < w1.heap.size := v1.lt (by show 0 < 4; omega)
  have W1 := hid (H.out.add (b := w.heap.size) b1 (Nat.le_refl _) hbs)
  have K1 := hid (H.out.keptb b1)
  have V1 := hid v1
  obtain ⟨K', hK'⟩ : ∃ K' : Nat → Prop, K' = (fun k => K k ∨ k = w.heap.size) := ⟨_, rfl⟩
  have hj : ∀ i, K i → K' i := by rw [hK']; exact fun _ h => .inl h
  have hb : K' w.heap.size := by rw [hK']; exact .inr rfl
  rw [← hK'] at W1
  clear hK' hbs b1 s1 v1
  generalize w.heap.size = b at *
  have c2 : Hid (w1.cell? ⟨b, 2, none⟩ = some (.int .u64 (f.s : Int))) := hid (V1.out.cell rfl)
  refine wp_region_quiet_below (by kernel_rfl) (by kernel_rfl) ?_
  repeat (first | go_big_quiet_skip | refine wpQuiet_wm rfl rfl rfl W1.out ?_ | refine wpQuiet_gl1 24 rfl rfl rfl Tryz.isAgg24 c2.out ?_ | quiet_step (with_reducible exact T0.out _ _ _))
  refine wpQuiet_nil ?_
  intro _ hw'
  obtain ⟨⟨dq, osq⟩, hw''⟩ := hw'
  subst hw''
  have W2 := hid (W1.out.below (below_regrown w1 dq osq))
  have K2 := hid (K1.out.trans ((W1.out.keptb (below_regrown w1 dq osq)).mono hj))
  have V2 : Hid (Var (Sort.grow (redrawn w1 dq) osq) b (encf f)) := hid (V1.out.below (below_regrown w1 dq osq) (V1.out.lt (by show 0 < 4; omega)))
  generalize Sort.grow (redrawn w1 dq) osq = w2 at *
  clear c2 T0 W1 K1 V1 H
  have d1 : w2.cell? ⟨b, 1, none⟩ = some (.int .i64 f.f) := V2.out.cell rfl
  go_wp2_with fail
  go_ret
  exact ⟨rfl, W2.out.mono hj, K2.out⟩
set_option maxRecDepth 100000 in
set_option maxHeartbeats 2000000 in
theorem join_early (K : Nat → Prop) (base g : Nat) (x : Nd) (m : Md) (l : List Ac) (f : Fr) (now began : Int) (w : World) (h : Wk w K base g x m l) (_hl : l.length ≤ 900) (k : NdOk m x) (hf : M10.OkF f) (hO : (f.s : Int) % m.n = f.f) (hb0 : 0 ≤ began) (hb1 : began ≤ now) (hn : now ≤ 1152921504606846976) (hs : began - O6.psO x.o m.l < 0) :
    Calls Tryz.prog 48 #[.pointer (some ⟨g, 0, none⟩), fv f, .int .i64 now, .int .i64 began] w (RetW K base g x m l (.int .i64 0) w) := by
  have H := hid h
  have T0 := hid (fun (w1 : World) (d : Nat) (os : Array Obj) => Calls.regrown_of (d := d) (os := os) (own_okm (y := m) (f.s : Int) (Sort.grow (redrawn w1 d) os) k.hm (by omega) (by have := hf.2.2.2; omega)))
  have e1 : ((f.s : Int) % m.n != f.f) = false := by simp [hO]
  obtain ⟨⟨l0, l1, l2, l3⟩, n0, n1, n2, n3⟩ := lead_in k
  have HR4 := hid (fun w => O6.run_ok x.o m.l w k.ho (by omega) (by omega) (by omega))
  have HR5 := hid (fun w => O6.run_ok x.o m.s w k.ho (by omega) (by omega) (by omega))
  have eS : IntKind.i64.wrap (began - O6.psO x.o m.l) = began - O6.psO x.o m.l := by rw [IntKind.wrap_i64]; omega
  have e2 : decide (began - O6.psO x.o m.l < 0) = true := by simp [hs]
  clear h k _hl hf hO hb0 hb1 hn l0 l1 l2 l3 n0 n1 n2 n3 hs
  generalize O6.psO x.o m.l = L at *
  generalize O6.psO x.o m.s = N at *
  generalize O6.aft x.o m.l = lfL at *
  generalize O6.aft x.o m.s = lfN at *
  generalize (f.s : Int) % m.n = O at *
  go_enter Tryz.func48, Tryz.ntmps48
  go_wp2_with (first
    | (refine wpList_gbox 54 (encf f) rfl (.tmp 1) rfl rfl ?_; intro w1 v1 b1 s1))
  have hbs : w.heap.size < w1.heap.size := v1.lt (by show 0 < 4; omega)
  have W1 := hid (H.out.add (b := w.heap.size) b1 (Nat.le_refl _) hbs)
  have K1 := hid (H.out.keptb b1)
  have V1 := hid v1
  obtain ⟨K', hK'⟩ : ∃ K' : Nat → Prop, K' = (fun k => K k ∨ k = w.heap.size) := ⟨_, rfl⟩
  have hj : ∀ i, K i → K' i := by rw [hK']; exact fun _ h => .inl h
  have hb : K' w.heap.size := by rw [hK']; exact .inr rfl
  rw [← hK'] at W1
  clear hK' hbs b1 s1 v1
  generalize w.heap.size = b at *
  have c2 : Hid (w1.cell? ⟨b, 2, none⟩ = some (.int .u64 (f.s : Int))) := hid (V1.out.cell rfl)
  refine wp_region_quiet_below (by kernel_rfl) (by kernel_rfl) ?_
  repeat (first | go_big_quiet_skip | refine wpQuiet_wm rfl rfl rfl W1.out ?_ | refine wpQuiet_gl1 24 rfl rfl rfl Tryz.isAgg24 c2.out ?_ | quiet_step (with_reducible exact T0.out _ _ _))
  refine wpQuiet_nil ?_
  intro _ hw'
  obtain ⟨⟨dq, osq⟩, hw''⟩ := hw'
  subst hw''
  have W2 := hid (W1.out.below (below_regrown w1 dq osq))
  have K2 := hid (K1.out.trans ((W1.out.keptb (below_regrown w1 dq osq)).mono hj))
  have V2 : Hid (Var (Sort.grow (redrawn w1 dq) osq) b (encf f)) := hid (V1.out.below (below_regrown w1 dq osq) (V1.out.lt (by show 0 < 4; omega)))
  generalize Sort.grow (redrawn w1 dq) osq = w2 at *
  clear c2 T0 W1 K1 V1 H
  have d1 : w2.cell? ⟨b, 1, none⟩ = some (.int .i64 f.f) := V2.out.cell rfl
  go_wp2_with fail
  go_cut [11, 12, 13] (fun v11 v12 v13 wx => ∃ p, v11 = .int .i64 L ∧ v12 = .pointer (some ⟨p, 0, none⟩) ∧ v13 = .int .i64 0 ∧ Hid (Wk wx K' base g x m l) ∧ Hid (Kept K w wx) ∧ Hid (Var wx b (encf f)))
  case first =>
    have Q2 := hid W2.out.drew
    have k2 := hid (K2.out.trans ((W2.out.keptb (Below.refl _ _).drew).mono hj))
    have L2 := hid V2.out.drew
    have S0 : Wk w2.drew K' base g x m l := Q2.out
    refine wp_region_held_drew (S := fun w' => Wk w' K' base g x m l) (by kernel_rfl) S0 (fun _ => ?_)
    refine tk 0 (some 33) (.pointer (some ⟨g, 0, none⟩)) rfl rfl (by kernel_rfl) (by kernel_rfl) (by kernel_rfl) (fun _ _ _ h => h) (.inl ⟨by rfl, fun _ _ => by go_simp⟩) S0 ?_
    simp only [Act.put, List.setIfInBounds_toArray, List.set_cons_zero, List.set_cons_succ]
    refine tk 1 (some 34) (.pointer (some ⟨g, 0, none⟩)) rfl rfl (by kernel_rfl) (by kernel_rfl) (by kernel_rfl) (fun _ _ _ h => h) (.inl ⟨by rfl, fun _ _ => by go_simp⟩) S0 ?_
    simp only [Act.put, List.setIfInBounds_toArray, List.set_cons_zero, List.set_cons_succ]
    refine tk 2 (some 35) (.pointer (some ⟨g, 0, none⟩)) rfl rfl (by kernel_rfl) (by kernel_rfl) (by kernel_rfl) (fun _ _ _ h => h) (.inl ⟨by rfl, fun _ _ => by go_simp⟩) S0 ?_
    simp only [Act.put, List.setIfInBounds_toArray, List.set_cons_zero, List.set_cons_succ]
    refine tk 3 (some 36) (.pointer (some ⟨g, 4, none⟩)) rfl rfl (by kernel_rfl) (by kernel_rfl) (by kernel_rfl) (fun _ _ _ h => h) (.inl ⟨by rfl, fun _ _ => by go_simp⟩) S0 ?_
    simp only [Act.put, List.setIfInBounds_toArray, List.set_cons_zero, List.set_cons_succ]
    refine tk 4 (some 37) (ov x.o) rfl rfl (by kernel_rfl) (by kernel_rfl) (by kernel_rfl) (fun _ _ _ h => h) (ylo rfl rfl (fun w h => h.osc) rfl) S0 ?_
    simp only [Act.put, List.setIfInBounds_toArray, List.set_cons_zero, List.set_cons_succ]
    refine tk 5 (some 38) (.pointer (some ⟨g, 0, none⟩)) rfl rfl (by kernel_rfl) (by kernel_rfl) (by kernel_rfl) (fun _ _ _ h => h) (.inl ⟨by rfl, fun _ _ => by go_simp⟩) S0 ?_
    simp only [Act.put, List.setIfInBounds_toArray, List.set_cons_zero, List.set_cons_succ]
    refine tk 6 (some 39) (.pointer (some ⟨g, 0, none⟩)) rfl rfl (by kernel_rfl) (by kernel_rfl) (by kernel_rfl) (fun _ _ _ h => h) (.inl ⟨by rfl, fun _ _ => by go_simp⟩) S0 ?_
    simp only [Act.put, List.setIfInBounds_toArray, List.set_cons_zero, List.set_cons_succ]
    refine tk 7 (some 40) (.pointer (some ⟨g, 14, none⟩)) rfl rfl (by kernel_rfl) (by kernel_rfl) (by kernel_rfl) (fun _ _ _ h => h) (.inl ⟨by rfl, fun _ _ => by go_simp⟩) S0 ?_
    simp only [Act.put, List.setIfInBounds_toArray, List.set_cons_zero, List.set_cons_succ]
    refine tk 8 (some 41) (.pointer (some ⟨g, 16, none⟩)) rfl rfl (by kernel_rfl) (by kernel_rfl) (by kernel_rfl) (fun _ _ _ h => h) (.inl ⟨by rfl, fun _ _ => by go_simp⟩) S0 ?_
    simp only [Act.put, List.setIfInBounds_toArray, List.set_cons_zero, List.set_cons_succ]
    refine tk 9 (some 42) (.int .i64 m.l) rfl rfl (by kernel_rfl) (by kernel_rfl) (by kernel_rfl) (fun _ _ _ h => h) (yl1 2 (p := ⟨g, 16, none⟩) (v := .int .i64 m.l) rfl rfl Tryz.isAgg2 (fun w h => h.cell (j := 16) fun _ _ _ _ _ _ => rfl) rfl) S0 ?_
    simp only [Act.put, List.setIfInBounds_toArray, List.set_cons_zero, List.set_cons_succ]
    refine rd_ca 10 15 (some 43) (some 12) 91 #[ov x.o, .int .i64 m.l] _ 26 (enco oz) (by kernel_rfl) rfl rfl rfl rfl (by unfold execOp; simp [go_sem] <;> rfl) (HR4.out _) zero26 rfl rfl rfl (fun w5 b5 => ⟨(Q2.out.below b5), ?_⟩) (fun w5 v5 b5 s5 => ⟨(Q2.out.below b5), ?_⟩)
    · simp only [Act.put, List.setIfInBounds_toArray, List.set_cons_zero, List.set_cons_succ]
      have S1 : Wk w5 K' base g x m l := Q2.out.below b5
      refine tk 11 (some 32) (.tuple #[.int .i64 L, ov lfL, .int .i64 0]) rfl rfl (by kernel_rfl) (by kernel_rfl) (by kernel_rfl) (fun _ _ _ h => h) (.inl ⟨by rfl, fun _ _ => by go_simp⟩) S1 ?_
      simp only [Act.put, List.setIfInBounds_toArray, List.set_cons_zero, List.set_cons_succ]
      refine tk 12 (some 44) (.int .i64 L) rfl rfl (by kernel_rfl) (by kernel_rfl) (by kernel_rfl) (fun _ _ _ h => h) (.inl ⟨by rfl, fun _ _ => by go_simp⟩) S1 ?_
      simp only [Act.put, List.setIfInBounds_toArray, List.set_cons_zero, List.set_cons_succ]
      refine tk 13 (some 45) (ov lfL) rfl rfl (by kernel_rfl) (by kernel_rfl) (by kernel_rfl) (fun _ _ _ h => h) (.inl ⟨by rfl, fun _ _ => by go_simp⟩) S1 ?_
      simp only [Act.put, List.setIfInBounds_toArray, List.set_cons_zero, List.set_cons_succ]
      refine tk 14 (some 46) (.int .i64 0) rfl rfl (by kernel_rfl) (by kernel_rfl) (by kernel_rfl) (fun _ _ _ h => h) (.inl ⟨by rfl, fun _ _ => by go_simp⟩) S1 ?_
      simp only [Act.put, List.setIfInBounds_toArray, List.set_cons_zero, List.set_cons_succ]
      refine rd_al 15 (some 12) 26 (enco oz) zero26 (by kernel_rfl) rfl rfl rfl rfl ?_
      intro w6 v6 b6 s6
      have S2 : Wk w6 K' base g x m l := S1.below b6
      refine ⟨S2, ?_⟩
      simp only [Act.put, List.setIfInBounds_toArray, List.set_cons_zero, List.set_cons_succ]
      have hb5 := b5.size
      have b56 : Below w5.heap.size w5 w6 := b6
      have BB : Below w2.drew.heap.size w2.drew w6 := b5.trans (b56.mono hb5)
      have hN : w2.drew.heap.size ≤ w5.heap.size := hb5
      refine tk 16 (some 11) (.int .i64 L) rfl rfl (by kernel_rfl) (by kernel_rfl) (by kernel_rfl) (fun _ _ _ h => h) (.inl ⟨by rfl, fun _ _ => by go_simp⟩) S2 ?_
      simp only [Act.put, List.setIfInBounds_toArray, List.set_cons_zero, List.set_cons_succ]
      refine rd_gst 17 0 (enco lfL) 26 (by kernel_rfl) rfl rfl rfl rfl rfl v6 (by show 0 + 3 ≤ 3; omega) (by rw [size26]; rfl) (O6.enco_one _) rfl ?_
      intro w7 v7 b7 o7 s7
      have BC : Below w2.drew.heap.size w2.drew w7 := BB.trans (b7.mono hN)
      have S3 : Wk w7 K' base g x m l := Q2.out.below BC
      refine ⟨S3, ?_⟩
      refine tk 18 (some 13) (.int .i64 0) rfl rfl (by kernel_rfl) (by kernel_rfl) (by kernel_rfl) (fun _ _ _ h => h) (.inl ⟨by rfl, fun _ _ => by go_simp⟩) S3 ?_
      simp only [Act.put, List.setIfInBounds_toArray, List.set_cons_zero, List.set_cons_succ]
      refine wpAnyH_done (by kernel_rfl) ?_ _
      go_wp2_with fail
      go_meet
      exact ⟨_, rfl, rfl, rfl, hid S3, hid (k2.out.trans ((Q2.out.keptb BC).mono hj)), hid (L2.out.below BC (L2.out.lt (by show 0 < 4; omega)))⟩
    · simp only [Act.put, List.setIfInBounds_toArray, List.set_cons_zero, List.set_cons_succ]
      have S1 : Wk w5 K' base g x m l := Q2.out.below b5
      refine rd_cl 10 (some 43) 91 #[ov x.o, .int .i64 m.l] _ (by kernel_rfl) rfl rfl (by unfold execOp; simp [go_sem] <;> rfl) (HR4.out _) rfl ?_
      intro w6 b6
      have S2 : Wk w6 K' base g x m l := S1.below b6
      refine ⟨S2, ?_⟩
      simp only [Act.put, List.setIfInBounds_toArray, List.set_cons_zero, List.set_cons_succ]
      refine tk 11 (some 32) (.tuple #[.int .i64 L, ov lfL, .int .i64 0]) rfl rfl (by kernel_rfl) (by kernel_rfl) (by kernel_rfl) (fun _ _ _ h => h) (.inl ⟨by rfl, fun _ _ => by go_simp⟩) S2 ?_
      simp only [Act.put, List.setIfInBounds_toArray, List.set_cons_zero, List.set_cons_succ]
      refine tk 12 (some 44) (.int .i64 L) rfl rfl (by kernel_rfl) (by kernel_rfl) (by kernel_rfl) (fun _ _ _ h => h) (.inl ⟨by rfl, fun _ _ => by go_simp⟩) S2 ?_
      simp only [Act.put, List.setIfInBounds_toArray, List.set_cons_zero, List.set_cons_succ]
      refine tk 13 (some 45) (ov lfL) rfl rfl (by kernel_rfl) (by kernel_rfl) (by kernel_rfl) (fun _ _ _ h => h) (.inl ⟨by rfl, fun _ _ => by go_simp⟩) S2 ?_
      simp only [Act.put, List.setIfInBounds_toArray, List.set_cons_zero, List.set_cons_succ]
      refine tk 14 (some 46) (.int .i64 0) rfl rfl (by kernel_rfl) (by kernel_rfl) (by kernel_rfl) (fun _ _ _ h => h) (.inl ⟨by rfl, fun _ _ => by go_simp⟩) S2 ?_
      simp only [Act.put, List.setIfInBounds_toArray, List.set_cons_zero, List.set_cons_succ]
      have v6 : Var w6 w2.drew.heap.size (enco oz) := v5.below b6 (v5.lt (by show 0 < 3; omega))
      have BB : Below w2.drew.heap.size w2.drew w6 := b5.trans (b6.mono b5.size)
      have hN : w2.drew.heap.size ≤ w2.drew.heap.size := Nat.le_refl _
      refine tk 16 (some 11) (.int .i64 L) rfl rfl (by kernel_rfl) (by kernel_rfl) (by kernel_rfl) (fun _ _ _ h => h) (.inl ⟨by rfl, fun _ _ => by go_simp⟩) S2 ?_
      simp only [Act.put, List.setIfInBounds_toArray, List.set_cons_zero, List.set_cons_succ]
      refine rd_gst 17 0 (enco lfL) 26 (by kernel_rfl) rfl rfl rfl rfl rfl v6 (by show 0 + 3 ≤ 3; omega) (by rw [size26]; rfl) (O6.enco_one _) rfl ?_
      intro w7 v7 b7 o7 s7
      have BC : Below w2.drew.heap.size w2.drew w7 := BB.trans (b7.mono hN)
      have S3 : Wk w7 K' base g x m l := Q2.out.below BC
      refine ⟨S3, ?_⟩
      refine tk 18 (some 13) (.int .i64 0) rfl rfl (by kernel_rfl) (by kernel_rfl) (by kernel_rfl) (fun _ _ _ h => h) (.inl ⟨by rfl, fun _ _ => by go_simp⟩) S3 ?_
      simp only [Act.put, List.setIfInBounds_toArray, List.set_cons_zero, List.set_cons_succ]
      refine wpAnyH_done (by kernel_rfl) ?_ _
      go_wp2_with fail
      go_meet
      exact ⟨_, rfl, rfl, rfl, hid S3, hid (k2.out.trans ((Q2.out.keptb BC).mono hj)), hid (L2.out.below BC (L2.out.lt (by show 0 < 4; omega)))⟩
  clear W2 K2 V2 d1 HR4
  obtain ⟨p12, rfl, rfl, rfl, W2, K2, V2⟩ := hcut
  go_wp2_with fail
  go_cut [14, 15, 16] (fun v11 v12 v13 wx => ∃ p, v11 = .int .i64 N ∧ v12 = .pointer (some ⟨p, 0, none⟩) ∧ v13 = .int .i64 0 ∧ Hid (Wk wx K' base g x m l) ∧ Hid (Kept K w wx) ∧ Hid (Var wx b (encf f)))
  case first =>
    have Q2 := hid W2.out.drew
    have k2 := hid (K2.out.trans ((W2.out.keptb (Below.refl _ _).drew).mono hj))
    have L2 := hid V2.out.drew
    have S0 : Wk wc.drew K' base g x m l := Q2.out
    refine wp_region_held_drew (S := fun w' => Wk w' K' base g x m l) (by kernel_rfl) S0 (fun _ => ?_)
    refine tk 0 (some 48) (.pointer (some ⟨g, 0, none⟩)) rfl rfl (by kernel_rfl) (by kernel_rfl) (by kernel_rfl) (fun _ _ _ h => h) (.inl ⟨by rfl, fun _ _ => by go_simp⟩) S0 ?_
    simp only [Act.put, List.setIfInBounds_toArray, List.set_cons_zero, List.set_cons_succ]
    refine tk 1 (some 49) (.pointer (some ⟨g, 0, none⟩)) rfl rfl (by kernel_rfl) (by kernel_rfl) (by kernel_rfl) (fun _ _ _ h => h) (.inl ⟨by rfl, fun _ _ => by go_simp⟩) S0 ?_
    simp only [Act.put, List.setIfInBounds_toArray, List.set_cons_zero, List.set_cons_succ]
    refine tk 2 (some 50) (.pointer (some ⟨g, 0, none⟩)) rfl rfl (by kernel_rfl) (by kernel_rfl) (by kernel_rfl) (fun _ _ _ h => h) (.inl ⟨by rfl, fun _ _ => by go_simp⟩) S0 ?_
    simp only [Act.put, List.setIfInBounds_toArray, List.set_cons_zero, List.set_cons_succ]
    refine tk 3 (some 51) (.pointer (some ⟨g, 4, none⟩)) rfl rfl (by kernel_rfl) (by kernel_rfl) (by kernel_rfl) (fun _ _ _ h => h) (.inl ⟨by rfl, fun _ _ => by go_simp⟩) S0 ?_
    simp only [Act.put, List.setIfInBounds_toArray, List.set_cons_zero, List.set_cons_succ]
    refine tk 4 (some 52) (ov x.o) rfl rfl (by kernel_rfl) (by kernel_rfl) (by kernel_rfl) (fun _ _ _ h => h) (ylo rfl rfl (fun w h => h.osc) rfl) S0 ?_
    simp only [Act.put, List.setIfInBounds_toArray, List.set_cons_zero, List.set_cons_succ]
    refine tk 5 (some 53) (.pointer (some ⟨g, 0, none⟩)) rfl rfl (by kernel_rfl) (by kernel_rfl) (by kernel_rfl) (fun _ _ _ h => h) (.inl ⟨by rfl, fun _ _ => by go_simp⟩) S0 ?_
    simp only [Act.put, List.setIfInBounds_toArray, List.set_cons_zero, List.set_cons_succ]
    refine tk 6 (some 54) (.pointer (some ⟨g, 0, none⟩)) rfl rfl (by kernel_rfl) (by kernel_rfl) (by kernel_rfl) (fun _ _ _ h => h) (.inl ⟨by rfl, fun _ _ => by go_simp⟩) S0 ?_
    simp only [Act.put, List.setIfInBounds_toArray, List.set_cons_zero, List.set_cons_succ]
    refine tk 7 (some 55) (.pointer (some ⟨g, 14, none⟩)) rfl rfl (by kernel_rfl) (by kernel_rfl) (by kernel_rfl) (fun _ _ _ h => h) (.inl ⟨by rfl, fun _ _ => by go_simp⟩) S0 ?_
    simp only [Act.put, List.setIfInBounds_toArray, List.set_cons_zero, List.set_cons_succ]
    refine tk 8 (some 56) (.pointer (some ⟨g, 15, none⟩)) rfl rfl (by kernel_rfl) (by kernel_rfl) (by kernel_rfl) (fun _ _ _ h => h) (.inl ⟨by rfl, fun _ _ => by go_simp⟩) S0 ?_
    simp only [Act.put, List.setIfInBounds_toArray, List.set_cons_zero, List.set_cons_succ]
    refine tk 9 (some 57) (.int .i64 m.s) rfl rfl (by kernel_rfl) (by kernel_rfl) (by kernel_rfl) (fun _ _ _ h => h) (yl1 2 (p := ⟨g, 15, none⟩) (v := .int .i64 m.s) rfl rfl Tryz.isAgg2 (fun w h => h.cell (j := 15) fun _ _ _ _ _ _ => rfl) rfl) S0 ?_
    simp only [Act.put, List.setIfInBounds_toArray, List.set_cons_zero, List.set_cons_succ]
    refine rd_ca 10 15 (some 58) (some 15) 91 #[ov x.o, .int .i64 m.s] _ 26 (enco oz) (by kernel_rfl) rfl rfl rfl rfl (by unfold execOp; simp [go_sem] <;> rfl) (HR5.out _) zero26 rfl rfl rfl (fun w5 b5 => ⟨(Q2.out.below b5), ?_⟩) (fun w5 v5 b5 s5 => ⟨(Q2.out.below b5), ?_⟩)
    · simp only [Act.put, List.setIfInBounds_toArray, List.set_cons_zero, List.set_cons_succ]
      have S1 : Wk w5 K' base g x m l := Q2.out.below b5
      refine tk 11 (some 47) (.tuple #[.int .i64 N, ov lfN, .int .i64 0]) rfl rfl (by kernel_rfl) (by kernel_rfl) (by kernel_rfl) (fun _ _ _ h => h) (.inl ⟨by rfl, fun _ _ => by go_simp⟩) S1 ?_
      simp only [Act.put, List.setIfInBounds_toArray, List.set_cons_zero, List.set_cons_succ]
      refine tk 12 (some 59) (.int .i64 N) rfl rfl (by kernel_rfl) (by kernel_rfl) (by kernel_rfl) (fun _ _ _ h => h) (.inl ⟨by rfl, fun _ _ => by go_simp⟩) S1 ?_
      simp only [Act.put, List.setIfInBounds_toArray, List.set_cons_zero, List.set_cons_succ]
      refine tk 13 (some 60) (ov lfN) rfl rfl (by kernel_rfl) (by kernel_rfl) (by kernel_rfl) (fun _ _ _ h => h) (.inl ⟨by rfl, fun _ _ => by go_simp⟩) S1 ?_
      simp only [Act.put, List.setIfInBounds_toArray, List.set_cons_zero, List.set_cons_succ]
      refine tk 14 (some 61) (.int .i64 0) rfl rfl (by kernel_rfl) (by kernel_rfl) (by kernel_rfl) (fun _ _ _ h => h) (.inl ⟨by rfl, fun _ _ => by go_simp⟩) S1 ?_
      simp only [Act.put, List.setIfInBounds_toArray, List.set_cons_zero, List.set_cons_succ]
      refine rd_al 15 (some 15) 26 (enco oz) zero26 (by kernel_rfl) rfl rfl rfl rfl ?_
      intro w6 v6 b6 s6
      have S2 : Wk w6 K' base g x m l := S1.below b6
      refine ⟨S2, ?_⟩
      simp only [Act.put, List.setIfInBounds_toArray, List.set_cons_zero, List.set_cons_succ]
      have hb5 := b5.size
      have b56 : Below w5.heap.size w5 w6 := b6
      have BB : Below wc.drew.heap.size wc.drew w6 := b5.trans (b56.mono hb5)
      have hN : wc.drew.heap.size ≤ w5.heap.size := hb5
      refine tk 16 (some 14) (.int .i64 N) rfl rfl (by kernel_rfl) (by kernel_rfl) (by kernel_rfl) (fun _ _ _ h => h) (.inl ⟨by rfl, fun _ _ => by go_simp⟩) S2 ?_
      simp only [Act.put, List.setIfInBounds_toArray, List.set_cons_zero, List.set_cons_succ]
      refine rd_gst 17 0 (enco lfN) 26 (by kernel_rfl) rfl rfl rfl rfl rfl v6 (by show 0 + 3 ≤ 3; omega) (by rw [size26]; rfl) (O6.enco_one _) rfl ?_
      intro w7 v7 b7 o7 s7
      have BC : Below wc.drew.heap.size wc.drew w7 := BB.trans (b7.mono hN)
      have S3 : Wk w7 K' base g x m l := Q2.out.below BC
      refine ⟨S3, ?_⟩
      refine tk 18 (some 16) (.int .i64 0) rfl rfl (by kernel_rfl) (by kernel_rfl) (by kernel_rfl) (fun _ _ _ h => h) (.inl ⟨by rfl, fun _ _ => by go_simp⟩) S3 ?_
      simp only [Act.put, List.setIfInBounds_toArray, List.set_cons_zero, List.set_cons_succ]
      refine wpAnyH_done (by kernel_rfl) ?_ _
      go_wp2_with fail
      go_meet
      exact ⟨_, rfl, rfl, rfl, hid S3, hid (k2.out.trans ((Q2.out.keptb BC).mono hj)), hid (L2.out.below BC (L2.out.lt (by show 0 < 4; omega)))⟩
    · simp only [Act.put, List.setIfInBounds_toArray, List.set_cons_zero, List.set_cons_succ]
      have S1 : Wk w5 K' base g x m l := Q2.out.below b5
      refine rd_cl 10 (some 58) 91 #[ov x.o, .int .i64 m.s] _ (by kernel_rfl) rfl rfl (by unfold execOp; simp [go_sem] <;> rfl) (HR5.out _) rfl ?_
      intro w6 b6
      have S2 : Wk w6 K' base g x m l := S1.below b6
      refine ⟨S2, ?_⟩
      simp only [Act.put, List.setIfInBounds_toArray, List.set_cons_zero, List.set_cons_succ]
      refine tk 11 (some 47) (.tuple #[.int .i64 N, ov lfN, .int .i64 0]) rfl rfl (by kernel_rfl) (by kernel_rfl) (by kernel_rfl) (fun _ _ _ h => h) (.inl ⟨by rfl, fun _ _ => by go_simp⟩) S2 ?_
      simp only [Act.put, List.setIfInBounds_toArray, List.set_cons_zero, List.set_cons_succ]
      refine tk 12 (some 59) (.int .i64 N) rfl rfl (by kernel_rfl) (by kernel_rfl) (by kernel_rfl) (fun _ _ _ h => h) (.inl ⟨by rfl, fun _ _ => by go_simp⟩) S2 ?_
      simp only [Act.put, List.setIfInBounds_toArray, List.set_cons_zero, List.set_cons_succ]
      refine tk 13 (some 60) (ov lfN) rfl rfl (by kernel_rfl) (by kernel_rfl) (by kernel_rfl) (fun _ _ _ h => h) (.inl ⟨by rfl, fun _ _ => by go_simp⟩) S2 ?_
      simp only [Act.put, List.setIfInBounds_toArray, List.set_cons_zero, List.set_cons_succ]
      refine tk 14 (some 61) (.int .i64 0) rfl rfl (by kernel_rfl) (by kernel_rfl) (by kernel_rfl) (fun _ _ _ h => h) (.inl ⟨by rfl, fun _ _ => by go_simp⟩) S2 ?_
      simp only [Act.put, List.setIfInBounds_toArray, List.set_cons_zero, List.set_cons_succ]
      have v6 : Var w6 wc.drew.heap.size (enco oz) := v5.below b6 (v5.lt (by show 0 < 3; omega))
      have BB : Below wc.drew.heap.size wc.drew w6 := b5.trans (b6.mono b5.size)
      have hN : wc.drew.heap.size ≤ wc.drew.heap.size := Nat.le_refl _
      refine tk 16 (some 14) (.int .i64 N) rfl rfl (by kernel_rfl) (by kernel_rfl) (by kernel_rfl) (fun _ _ _ h => h) (.inl ⟨by rfl, fun _ _ => by go_simp⟩) S2 ?_
      simp only [Act.put, List.setIfInBounds_toArray, List.set_cons_zero, List.set_cons_succ]
      refine rd_gst 17 0 (enco lfN) 26 (by kernel_rfl) rfl rfl rfl rfl rfl v6 (by show 0 + 3 ≤ 3; omega) (by rw [size26]; rfl) (O6.enco_one _) rfl ?_
      intro w7 v7 b7 o7 s7
      have BC : Below wc.drew.heap.size wc.drew w7 := BB.trans (b7.mono hN)
      have S3 : Wk w7 K' base g x m l := Q2.out.below BC
      refine ⟨S3, ?_⟩
      refine tk 18 (some 16) (.int .i64 0) rfl rfl (by kernel_rfl) (by kernel_rfl) (by kernel_rfl) (fun _ _ _ h => h) (.inl ⟨by rfl, fun _ _ => by go_simp⟩) S3 ?_
      simp only [Act.put, List.setIfInBounds_toArray, List.set_cons_zero, List.set_cons_succ]
      refine wpAnyH_done (by kernel_rfl) ?_ _
      go_wp2_with fail
      go_meet
      exact ⟨_, rfl, rfl, rfl, hid S3, hid (k2.out.trans ((Q2.out.keptb BC).mono hj)), hid (L2.out.below BC (L2.out.lt (by show 0 < 4; omega)))⟩
  clear W2 K2 V2 HR5
  obtain ⟨p15, rfl, rfl, rfl, W4, K4, V4⟩ := hcut
  go_wp2_with fail
  go_ret
  exact ⟨rfl, W4.out.mono hj, K4.out⟩
set_option maxRecDepth 100000 in
set_option maxHeartbeats 2000000 in
theorem join_late (K : Nat → Prop) (base g : Nat) (x : Nd) (m : Md) (l : List Ac) (f : Fr) (now began : Int) (w : World) (h : Wk w K base g x m l) (_hl : l.length ≤ 900) (k : NdOk m x) (hf : M10.OkF f) (hO : (f.s : Int) % m.n = f.f) (hb0 : 0 ≤ began) (hb1 : began ≤ now) (hn : now ≤ 1152921504606846976) (hs : 0 ≤ began - O6.psO x.o m.l) (ht : began - O6.psO x.o m.l + O6.psO x.o m.s ≤ now) :
    Calls Tryz.prog 48 #[.pointer (some ⟨g, 0, none⟩), fv f, .int .i64 now, .int .i64 began] w (RetW K base g x m l (.int .i64 0) w) := by
  have H := hid h
  have T0 := hid (fun (w1 : World) (d : Nat) (os : Array Obj) => Calls.regrown_of (d := d) (os := os) (own_okm (y := m) (f.s : Int) (Sort.grow (redrawn w1 d) os) k.hm (by omega) (by have := hf.2.2.2; omega)))
  have e1 : ((f.s : Int) % m.n != f.f) = false := by simp [hO]
  obtain ⟨⟨l0, l1, l2, l3⟩, n0, n1, n2, n3⟩ := lead_in k
  have HR4 := hid (fun w => O6.run_ok x.o m.l w k.ho (by omega) (by omega) (by omega))
  have HR5 := hid (fun w => O6.run_ok x.o m.s w k.ho (by omega) (by omega) (by omega))
  have eS : IntKind.i64.wrap (began - O6.psO x.o m.l) = began - O6.psO x.o m.l := by rw [IntKind.wrap_i64]; omega
  have e2 : decide (began - O6.psO x.o m.l < 0) = false := by simp; omega
  have eT : IntKind.i64.wrap (began - O6.psO x.o m.l + O6.psO x.o m.s) = began - O6.psO x.o m.l + O6.psO x.o m.s := by rw [IntKind.wrap_i64]; omega
  have e3 : decide (began - O6.psO x.o m.l + O6.psO x.o m.s ≤ now) = true := by simp [ht]
  clear h k _hl hf hO hb0 hb1 hn l0 l1 l2 l3 n0 n1 n2 n3 hs ht
  generalize O6.psO x.o m.l = L at *
  generalize O6.psO x.o m.s = N at *
  generalize O6.aft x.o m.l = lfL at *
  generalize O6.aft x.o m.s = lfN at *
  generalize (f.s : Int) % m.n = O at *
  go_enter Tryz.func48, Tryz.ntmps48
  go_wp2_with (first
    | (refine wpList_gbox 54 (encf f) rfl (.tmp 1) rfl rfl ?_; intro w1 v1 b1 s1))
  have hbs : w.heap.size < w1.heap.size := v1.lt (by show 0 < 4; omega)
  have W1 := hid (H.out.add (b := w.heap.size) b1 (Nat.le_refl _) hbs)
  have K1 := hid (H.out.keptb b1)
  have V1 := hid v1
  obtain ⟨K', hK'⟩ : ∃ K' : Nat → Prop, K' = (fun k => K k ∨ k = w.heap.size) := ⟨_, rfl⟩
  have hj : ∀ i, K i → K' i := by rw [hK']; exact fun _ h => .inl h
  have hb : K' w.heap.size := by rw [hK']; exact .inr rfl
  rw [← hK'] at W1
  clear hK' hbs b1 s1 v1
  generalize w.heap.size = b at *
  have c2 : Hid (w1.cell? ⟨b, 2, none⟩ = some (.int .u64 (f.s : Int))) := hid (V1.out.cell rfl)
  refine wp_region_quiet_below (by kernel_rfl) (by kernel_rfl) ?_
  repeat (first | go_big_quiet_skip | refine wpQuiet_wm rfl rfl rfl W1.out ?_ | refine wpQuiet_gl1 24 rfl rfl rfl Tryz.isAgg24 c2.out ?_ | quiet_step (with_reducible exact T0.out _ _ _))
  refine wpQuiet_nil ?_
  intro _ hw'
  obtain ⟨⟨dq, osq⟩, hw''⟩ := hw'
  subst hw''
  have W2 := hid (W1.out.below (below_regrown w1 dq osq))
  have K2 := hid (K1.out.trans ((W1.out.keptb (below_regrown w1 dq osq)).mono hj))
  have V2 : Hid (Var (Sort.grow (redrawn w1 dq) osq) b (encf f)) := hid (V1.out.below (below_regrown w1 dq osq) (V1.out.lt (by show 0 < 4; omega)))
  generalize Sort.grow (redrawn w1 dq) osq = w2 at *
  clear c2 T0 W1 K1 V1 H
  have d1 : w2.cell? ⟨b, 1, none⟩ = some (.int .i64 f.f) := V2.out.cell rfl
  go_wp2_with fail
  go_cut [11, 12, 13] (fun v11 v12 v13 wx => ∃ p, v11 = .int .i64 L ∧ v12 = .pointer (some ⟨p, 0, none⟩) ∧ v13 = .int .i64 0 ∧ Hid (Wk wx K' base g x m l) ∧ Hid (Kept K w wx) ∧ Hid (Var wx b (encf f)))
  case first =>
    have Q2 := hid W2.out.drew
    have k2 := hid (K2.out.trans ((W2.out.keptb (Below.refl _ _).drew).mono hj))
    have L2 := hid V2.out.drew
    have S0 : Wk w2.drew K' base g x m l := Q2.out
    refine wp_region_held_drew (S := fun w' => Wk w' K' base g x m l) (by kernel_rfl) S0 (fun _ => ?_)
    refine tk 0 (some 33) (.pointer (some ⟨g, 0, none⟩)) rfl rfl (by kernel_rfl) (by kernel_rfl) (by kernel_rfl) (fun _ _ _ h => h) (.inl ⟨by rfl, fun _ _ => by go_simp⟩) S0 ?_
    simp only [Act.put, List.setIfInBounds_toArray, List.set_cons_zero, List.set_cons_succ]
    refine tk 1 (some 34) (.pointer (some ⟨g, 0, none⟩)) rfl rfl (by kernel_rfl) (by kernel_rfl) (by kernel_rfl) (fun _ _ _ h => h) (.inl ⟨by rfl, fun _ _ => by go_simp⟩) S0 ?_
    simp only [Act.put, List.setIfInBounds_toArray, List.set_cons_zero, List.set_cons_succ]
    refine tk 2 (some 35) (.pointer (some ⟨g, 0, none⟩)) rfl rfl (by kernel_rfl) (by kernel_rfl) (by kernel_rfl) (fun _ _ _ h => h) (.inl ⟨by rfl, fun _ _ => by go_simp⟩) S0 ?_
    simp only [Act.put, List.setIfInBounds_toArray, List.set_cons_zero, List.set_cons_succ]
    refine tk 3 (some 36) (.pointer (some ⟨g, 4, none⟩)) rfl rfl (by kernel_rfl) (by kernel_rfl) (by kernel_rfl) (fun _ _ _ h => h) (.inl ⟨by rfl, fun _ _ => by go_simp⟩) S0 ?_
    simp only [Act.put, List.setIfInBounds_toArray, List.set_cons_zero, List.set_cons_succ]
    refine tk 4 (some 37) (ov x.o) rfl rfl (by kernel_rfl) (by kernel_rfl) (by kernel_rfl) (fun _ _ _ h => h) (ylo rfl rfl (fun w h => h.osc) rfl) S0 ?_
    simp only [Act.put, List.setIfInBounds_toArray, List.set_cons_zero, List.set_cons_succ]
    refine tk 5 (some 38) (.pointer (some ⟨g, 0, none⟩)) rfl rfl (by kernel_rfl) (by kernel_rfl) (by kernel_rfl) (fun _ _ _ h => h) (.inl ⟨by rfl, fun _ _ => by go_simp⟩) S0 ?_
    simp only [Act.put, List.setIfInBounds_toArray, List.set_cons_zero, List.set_cons_succ]
    refine tk 6 (some 39) (.pointer (some ⟨g, 0, none⟩)) rfl rfl (by kernel_rfl) (by kernel_rfl) (by kernel_rfl) (fun _ _ _ h => h) (.inl ⟨by rfl, fun _ _ => by go_simp⟩) S0 ?_
    simp only [Act.put, List.setIfInBounds_toArray, List.set_cons_zero, List.set_cons_succ]
    refine tk 7 (some 40) (.pointer (some ⟨g, 14, none⟩)) rfl rfl (by kernel_rfl) (by kernel_rfl) (by kernel_rfl) (fun _ _ _ h => h) (.inl ⟨by rfl, fun _ _ => by go_simp⟩) S0 ?_
    simp only [Act.put, List.setIfInBounds_toArray, List.set_cons_zero, List.set_cons_succ]
    refine tk 8 (some 41) (.pointer (some ⟨g, 16, none⟩)) rfl rfl (by kernel_rfl) (by kernel_rfl) (by kernel_rfl) (fun _ _ _ h => h) (.inl ⟨by rfl, fun _ _ => by go_simp⟩) S0 ?_
    simp only [Act.put, List.setIfInBounds_toArray, List.set_cons_zero, List.set_cons_succ]
    refine tk 9 (some 42) (.int .i64 m.l) rfl rfl (by kernel_rfl) (by kernel_rfl) (by kernel_rfl) (fun _ _ _ h => h) (yl1 2 (p := ⟨g, 16, none⟩) (v := .int .i64 m.l) rfl rfl Tryz.isAgg2 (fun w h => h.cell (j := 16) fun _ _ _ _ _ _ => rfl) rfl) S0 ?_
    simp only [Act.put, List.setIfInBounds_toArray, List.set_cons_zero, List.set_cons_succ]
    refine rd_ca 10 15 (some 43) (some 12) 91 #[ov x.o, .int .i64 m.l] _ 26 (enco oz) (by kernel_rfl) rfl rfl rfl rfl (by unfold execOp; simp [go_sem] <;> rfl) (HR4.out _) zero26 rfl rfl rfl (fun w5 b5 => ⟨(Q2.out.below b5), ?_⟩) (fun w5 v5 b5 s5 => ⟨(Q2.out.below b5), ?_⟩)
    · simp only [Act.put, List.setIfInBounds_toArray, List.set_cons_zero, List.set_cons_succ]
      have S1 : Wk w5 K' base g x m l := Q2.out.below b5
      refine tk 11 (some 32) (.tuple #[.int .i64 L, ov lfL, .int .i64 0]) rfl rfl (by kernel_rfl) (by kernel_rfl) (by kernel_rfl) (fun _ _ _ h => h) (.inl ⟨by rfl, fun _ _ => by go_simp⟩) S1 ?_
      simp only [Act.put, List.setIfInBounds_toArray, List.set_cons_zero, List.set_cons_succ]
      refine tk 12 (some 44) (.int .i64 L) rfl rfl (by kernel_rfl) (by kernel_rfl) (by kernel_rfl) (fun _ _ _ h => h) (.inl ⟨by rfl, fun _ _ => by go_simp⟩) S1 ?_
      simp only [Act.put, List.setIfInBounds_toArray, List.set_cons_zero, List.set_cons_succ]
      refine tk 13 (some 45) (ov lfL) rfl rfl (by kernel_rfl) (by kernel_rfl) (by kernel_rfl) (fun _ _ _ h => h) (.inl ⟨by rfl, fun _ _ => by go_simp⟩) S1 ?_
      simp only [Act.put, List.setIfInBounds_toArray, List.set_cons_zero, List.set_cons_succ]
      refine tk 14 (some 46) (.int .i64 0) rfl rfl (by kernel_rfl) (by kernel_rfl) (by kernel_rfl) (fun _ _ _ h => h) (.inl ⟨by rfl, fun _ _ => by go_simp⟩) S1 ?_
      simp only [Act.put, List.setIfInBounds_toArray, List.set_cons_zero, List.set_cons_succ]
      refine rd_al 15 (some 12) 26 (enco oz) zero26 (by kernel_rfl) rfl rfl rfl rfl ?_
      intro w6 v6 b6 s6
      have S2 : Wk w6 K' base g x m l := S1.below b6
      refine ⟨S2, ?_⟩
      simp only [Act.put, List.setIfInBounds_toArray, List.set_cons_zero, List.set_cons_succ]
      have hb5 := b5.size
      have b56 : Below w5.heap.size w5 w6 := b6
      have BB : Below w2.drew.heap.size w2.drew w6 := b5.trans (b56.mono hb5)
      have hN : w2.drew.heap.size ≤ w5.heap.size := hb5
      refine tk 16 (some 11) (.int .i64 L) rfl rfl (by kernel_rfl) (by kernel_rfl) (by kernel_rfl) (fun _ _ _ h => h) (.inl ⟨by rfl, fun _ _ => by go_simp⟩) S2 ?_
      simp only [Act.put, List.setIfInBounds_toArray, List.set_cons_zero, List.set_cons_succ]
      refine rd_gst 17 0 (enco lfL) 26 (by kernel_rfl) rfl rfl rfl rfl rfl v6 (by show 0 + 3 ≤ 3; omega) (by rw [size26]; rfl) (O6.enco_one _) rfl ?_
      intro w7 v7 b7 o7 s7
      have BC : Below w2.drew.heap.size w2.drew w7 := BB.trans (b7.mono hN)
      have S3 : Wk w7 K' base g x m l := Q2.out.below BC
      refine ⟨S3, ?_⟩
      refine tk 18 (some 13) (.int .i64 0) rfl rfl (by kernel_rfl) (by kernel_rfl) (by kernel_rfl) (fun _ _ _ h => h) (.inl ⟨by rfl, fun _ _ => by go_simp⟩) S3 ?_
      simp only [Act.put, List.setIfInBounds_toArray, List.set_cons_zero, List.set_cons_succ]
      refine wpAnyH_done (by kernel_rfl) ?_ _
      go_wp2_with fail
      go_meet
      exact ⟨_, rfl, rfl, rfl, hid S3, hid (k2.out.trans ((Q2.out.keptb BC).mono hj)), hid (L2.out.below BC (L2.out.lt (by show 0 < 4; omega)))⟩
    · simp only [Act.put, List.setIfInBounds_toArray, List.set_cons_zero, List.set_cons_succ]
      have S1 : Wk w5 K' base g x m l := Q2.out.below b5
      refine rd_cl 10 (some 43) 91 #[ov x.o, .int .i64 m.l] _ (by kernel_rfl) rfl rfl (by unfold execOp; simp [go_sem] <;> rfl) (HR4.out _) rfl ?_
      intro w6 b6
      have S2 : Wk w6 K' base g x m l := S1.below b6
      refine ⟨S2, ?_⟩
      simp only [Act.put, List.setIfInBounds_toArray, List.set_cons_zero, List.set_cons_succ]
      refine tk 11 (some 32) (.tuple #[.int .i64 L, ov lfL, .int .i64 0]) rfl rfl (by kernel_rfl) (by kernel_rfl) (by kernel_rfl) (fun _ _ _ h => h) (.inl ⟨by rfl, fun _ _ => by go_simp⟩) S2 ?_
      simp only [Act.put, List.setIfInBounds_toArray, List.set_cons_zero, List.set_cons_succ]
      refine tk 12 (some 44) (.int .i64 L) rfl rfl (by kernel_rfl) (by kernel_rfl) (by kernel_rfl) (fun _ _ _ h => h) (.inl ⟨by rfl, fun _ _ => by go_simp⟩) S2 ?_
      simp only [Act.put, List.setIfInBounds_toArray, List.set_cons_zero, List.set_cons_succ]
      refine tk 13 (some 45) (ov lfL) rfl rfl (by kernel_rfl) (by kernel_rfl) (by kernel_rfl) (fun _ _ _ h => h) (.inl ⟨by rfl, fun _ _ => by go_simp⟩) S2 ?_
      simp only [Act.put, List.setIfInBounds_toArray, List.set_cons_zero, List.set_cons_succ]
      refine tk 14 (some 46) (.int .i64 0) rfl rfl (by kernel_rfl) (by kernel_rfl) (by kernel_rfl) (fun _ _ _ h => h) (.inl ⟨by rfl, fun _ _ => by go_simp⟩) S2 ?_
      simp only [Act.put, List.setIfInBounds_toArray, List.set_cons_zero, List.set_cons_succ]
      have v6 : Var w6 w2.drew.heap.size (enco oz) := v5.below b6 (v5.lt (by show 0 < 3; omega))
      have BB : Below w2.drew.heap.size w2.drew w6 := b5.trans (b6.mono b5.size)
      have hN : w2.drew.heap.size ≤ w2.drew.heap.size := Nat.le_refl _
      refine tk 16 (some 11) (.int .i64 L) rfl rfl (by kernel_rfl) (by kernel_rfl) (by kernel_rfl) (fun _ _ _ h => h) (.inl ⟨by rfl, fun _ _ => by go_simp⟩) S2 ?_
      simp only [Act.put, List.setIfInBounds_toArray, List.set_cons_zero, List.set_cons_succ]
      refine rd_gst 17 0 (enco lfL) 26 (by kernel_rfl) rfl rfl rfl rfl rfl v6 (by show 0 + 3 ≤ 3; omega) (by rw [size26]; rfl) (O6.enco_one _) rfl ?_
      intro w7 v7 b7 o7 s7
      have BC : Below w2.drew.heap.size w2.drew w7 := BB.trans (b7.mono hN)
      have S3 : Wk w7 K' base g x m l := Q2.out.below BC
      refine ⟨S3, ?_⟩
      refine tk 18 (some 13) (.int .i64 0) rfl rfl (by kernel_rfl) (by kernel_rfl) (by kernel_rfl) (fun _ _ _ h => h) (.inl ⟨by rfl, fun _ _ => by go_simp⟩) S3 ?_
      simp only [Act.put, List.setIfInBounds_toArray, List.set_cons_zero, List.set_cons_succ]
      refine wpAnyH_done (by kernel_rfl) ?_ _
      go_wp2_with fail
      go_meet
      exact ⟨_, rfl, rfl, rfl, hid S3, hid (k2.out.trans ((Q2.out.keptb BC).mono hj)), hid (L2.out.below BC (L2.out.lt (by show 0 < 4; omega)))⟩
  clear W2 K2 V2 d1 HR4
  obtain ⟨p12, rfl, rfl, rfl, W2, K2, V2⟩ := hcut
  go_wp2_with fail
  go_cut [14, 15, 16] (fun v11 v12 v13 wx => ∃ p, v11 = .int .i64 N ∧ v12 = .pointer (some ⟨p, 0, none⟩) ∧ v13 = .int .i64 0 ∧ Hid (Wk wx K' base g x m l) ∧ Hid (Kept K w wx) ∧ Hid (Var wx b (encf f)))
  case first =>
    have Q2 := hid W2.out.drew
    have k2 := hid (K2.out.trans ((W2.out.keptb (Below.refl _ _).drew).mono hj))
    have L2 := hid V2.out.drew
    have S0 : Wk wc.drew K' base g x m l := Q2.out
    refine wp_region_held_drew (S := fun w' => Wk w' K' base g x m l) (by kernel_rfl) S0 (fun _ => ?_)
    refine tk 0 (some 48) (.pointer (some ⟨g, 0, none⟩)) rfl rfl (by kernel_rfl) (by kernel_rfl) (by kernel_rfl) (fun _ _ _ h => h) (.inl ⟨by rfl, fun _ _ => by go_simp⟩) S0 ?_
    simp only [Act.put, List.setIfInBounds_toArray, List.set_cons_zero, List.set_cons_succ]
    refine tk 1 (some 49) (.pointer (some ⟨g, 0, none⟩)) rfl rfl (by kernel_rfl) (by kernel_rfl) (by kernel_rfl) (fun _ _ _ h => h) (.inl ⟨by rfl, fun _ _ => by go_simp⟩) S0 ?_
    simp only [Act.put, List.setIfInBounds_toArray, List.set_cons_zero, List.set_cons_succ]
    refine tk 2 (some 50) (.pointer (some ⟨g, 0, none⟩)) rfl rfl (by kernel_rfl) (by kernel_rfl) (by kernel_rfl) (fun _ _ _ h => h) (.inl ⟨by rfl, fun _ _ => by go_simp⟩) S0 ?_
    simp only [Act.put, List.setIfInBounds_toArray, List.set_cons_zero, List.set_cons_succ]
    refine tk 3 (some 51) (.pointer (some ⟨g, 4, none⟩)) rfl rfl (by kernel_rfl) (by kernel_rfl) (by kernel_rfl) (fun _ _ _ h => h) (.inl ⟨by rfl, fun _ _ => by go_simp⟩) S0 ?_
    simp only [Act.put, List.setIfInBounds_toArray, List.set_cons_zero, List.set_cons_succ]
    refine tk 4 (some 52) (ov x.o) rfl rfl (by kernel_rfl) (by kernel_rfl) (by kernel_rfl) (fun _ _ _ h => h) (ylo rfl rfl (fun w h => h.osc) rfl) S0 ?_
    simp only [Act.put, List.setIfInBounds_toArray, List.set_cons_zero, List.set_cons_succ]
    refine tk 5 (some 53) (.pointer (some ⟨g, 0, none⟩)) rfl rfl (by kernel_rfl) (by kernel_rfl) (by kernel_rfl) (fun _ _ _ h => h) (.inl ⟨by rfl, fun _ _ => by go_simp⟩) S0 ?_
    simp only [Act.put, List.setIfInBounds_toArray, List.set_cons_zero, List.set_cons_succ]
    refine tk 6 (some 54) (.pointer (some ⟨g, 0, none⟩)) rfl rfl (by kernel_rfl) (by kernel_rfl) (by kernel_rfl) (fun _ _ _ h => h) (.inl ⟨by rfl, fun _ _ => by go_simp⟩) S0 ?_
    simp only [Act.put, List.setIfInBounds_toArray, List.set_cons_zero, List.set_cons_succ]
    refine tk 7 (some 55) (.pointer (some ⟨g, 14, none⟩)) rfl rfl (by kernel_rfl) (by kernel_rfl) (by kernel_rfl) (fun _ _ _ h => h) (.inl ⟨by rfl, fun _ _ => by go_simp⟩) S0 ?_
    simp only [Act.put, List.setIfInBounds_toArray, List.set_cons_zero, List.set_cons_succ]
    refine tk 8 (some 56) (.pointer (some ⟨g, 15, none⟩)) rfl rfl (by kernel_rfl) (by kernel_rfl) (by kernel_rfl) (fun _ _ _ h => h) (.inl ⟨by rfl, fun _ _ => by go_simp⟩) S0 ?_
    simp only [Act.put, List.setIfInBounds_toArray, List.set_cons_zero, List.set_cons_succ]
    refine tk 9 (some 57) (.int .i64 m.s) rfl rfl (by kernel_rfl) (by kernel_rfl) (by kernel_rfl) (fun _ _ _ h => h) (yl1 2 (p := ⟨g, 15, none⟩) (v := .int .i64 m.s) rfl rfl Tryz.isAgg2 (fun w h => h.cell (j := 15) fun _ _ _ _ _ _ => rfl) rfl) S0 ?_
    simp only [Act.put, List.setIfInBounds_toArray, List.set_cons_zero, List.set_cons_succ]
    refine rd_ca 10 15 (some 58) (some 15) 91 #[ov x.o, .int .i64 m.s] _ 26 (enco oz) (by kernel_rfl) rfl rfl rfl rfl (by unfold execOp; simp [go_sem] <;> rfl) (HR5.out _) zero26 rfl rfl rfl (fun w5 b5 => ⟨(Q2.out.below b5), ?_⟩) (fun w5 v5 b5 s5 => ⟨(Q2.out.below b5), ?_⟩)
    · simp only [Act.put, List.setIfInBounds_toArray, List.set_cons_zero, List.set_cons_succ]
      have S1 : Wk w5 K' base g x m l := Q2.out.below b5
      refine tk 11 (some 47) (.tuple #[.int .i64 N, ov lfN, .int .i64 0]) rfl rfl (by kernel_rfl) (by kernel_rfl) (by kernel_rfl) (fun _ _ _ h => h) (.inl ⟨by rfl, fun _ _ => by go_simp⟩) S1 ?_
      simp only [Act.put, List.setIfInBounds_toArray, List.set_cons_zero, List.set_cons_succ]
      refine tk 12 (some 59) (.int .i64 N) rfl rfl (by kernel_rfl) (by kernel_rfl) (by kernel_rfl) (fun _ _ _ h => h) (.inl ⟨by rfl, fun _ _ => by go_simp⟩) S1 ?_
      simp only [Act.put, List.setIfInBounds_toArray, List.set_cons_zero, List.set_cons_succ]
      refine tk 13 (some 60) (ov lfN) rfl rfl (by kernel_rfl) (by kernel_rfl) (by kernel_rfl) (fun _ _ _ h => h) (.inl ⟨by rfl, fun _ _ => by go_simp⟩) S1 ?_
      simp only [Act.put, List.setIfInBounds_toArray, List.set_cons_zero, List.set_cons_succ]
      refine tk 14 (some 61) (.int .i64 0) rfl rfl (by kernel_rfl) (by kernel_rfl) (by kernel_rfl) (fun _ _ _ h => h) (.inl ⟨by rfl, fun _ _ => by go_simp⟩) S1 ?_
      simp only [Act.put, List.setIfInBounds_toArray, List.set_cons_zero, List.set_cons_succ]
      refine rd_al 15 (some 15) 26 (enco oz) zero26 (by kernel_rfl) rfl rfl rfl rfl ?_
      intro w6 v6 b6 s6
      have S2 : Wk w6 K' base g x m l := S1.below b6
      refine ⟨S2, ?_⟩
      simp only [Act.put, List.setIfInBounds_toArray, List.set_cons_zero, List.set_cons_succ]
      have hb5 := b5.size
      have b56 : Below w5.heap.size w5 w6 := b6
      have BB : Below wc.drew.heap.size wc.drew w6 := b5.trans (b56.mono hb5)
      have hN : wc.drew.heap.size ≤ w5.heap.size := hb5
      refine tk 16 (some 14) (.int .i64 N) rfl rfl (by kernel_rfl) (by kernel_rfl) (by kernel_rfl) (fun _ _ _ h => h) (.inl ⟨by rfl, fun _ _ => by go_simp⟩) S2 ?_
      simp only [Act.put, List.setIfInBounds_toArray, List.set_cons_zero, List.set_cons_succ]
      refine rd_gst 17 0 (enco lfN) 26 (by kernel_rfl) rfl rfl rfl rfl rfl v6 (by show 0 + 3 ≤ 3; omega) (by rw [size26]; rfl) (O6.enco_one _) rfl ?_
      intro w7 v7 b7 o7 s7
      have BC : Below wc.drew.heap.size wc.drew w7 := BB.trans (b7.mono hN)
      have S3 : Wk w7 K' base g x m l := Q2.out.below BC
      refine ⟨S3, ?_⟩
      refine tk 18 (some 16) (.int .i64 0) rfl rfl (by kernel_rfl) (by kernel_rfl) (by kernel_rfl) (fun _ _ _ h => h) (.inl ⟨by rfl, fun _ _ => by go_simp⟩) S3 ?_
      simp only [Act.put, List.setIfInBounds_toArray, List.set_cons_zero, List.set_cons_succ]
      refine wpAnyH_done (by kernel_rfl) ?_ _
      go_wp2_with fail
      go_meet
      exact ⟨_, rfl, rfl, rfl, hid S3, hid (k2.out.trans ((Q2.out.keptb BC).mono hj)), hid (L2.out.below BC (L2.out.lt (by show 0 < 4; omega)))⟩
    · simp only [Act.put, List.setIfInBounds_toArray, List.set_cons_zero, List.set_cons_succ]
      have S1 : Wk w5 K' base g x m l := Q2.out.below b5
      refine rd_cl 10 (some 58) 91 #[ov x.o, .int .i64 m.s] _ (by kernel_rfl) rfl rfl (by unfold execOp; simp [go_sem] <;> rfl) (HR5.out _) rfl ?_
      intro w6 b6
      have S2 : Wk w6 K' base g x m l := S1.below b6
      refine ⟨S2, ?_⟩
      simp only [Act.put, List.setIfInBounds_toArray, List.set_cons_zero, List.set_cons_succ]
      refine tk 11 (some 47) (.tuple #[.int .i64 N, ov lfN, .int .i64 0]) rfl rfl (by kernel_rfl) (by kernel_rfl) (by kernel_rfl) (fun _ _ _ h => h) (.inl ⟨by rfl, fun _ _ => by go_simp⟩) S2 ?_
      simp only [Act.put, List.setIfInBounds_toArray, List.set_cons_zero, List.set_cons_succ]
      refine tk 12 (some 59) (.int .i64 N) rfl rfl (by kernel_rfl) (by kernel_rfl) (by kernel_rfl) (fun _ _ _ h => h) (.inl ⟨by rfl, fun _ _ => by go_simp⟩) S2 ?_
      simp only [Act.put, List.setIfInBounds_toArray, List.set_cons_zero, List.set_cons_succ]
      refine tk 13 (some 60) (ov lfN) rfl rfl (by kernel_rfl) (by kernel_rfl) (by kernel_rfl) (fun _ _ _ h => h) (.inl ⟨by rfl, fun _ _ => by go_simp⟩) S2 ?_
      simp only [Act.put, List.setIfInBounds_toArray, List.set_cons_zero, List.set_cons_succ]
      refine tk 14 (some 61) (.int .i64 0) rfl rfl (by kernel_rfl) (by kernel_rfl) (by kernel_rfl) (fun _ _ _ h => h) (.inl ⟨by rfl, fun _ _ => by go_simp⟩) S2 ?_
      simp only [Act.put, List.setIfInBounds_toArray, List.set_cons_zero, List.set_cons_succ]
      have v6 : Var w6 wc.drew.heap.size (enco oz) := v5.below b6 (v5.lt (by show 0 < 3; omega))
      have BB : Below wc.drew.heap.size wc.drew w6 := b5.trans (b6.mono b5.size)
      have hN : wc.drew.heap.size ≤ wc.drew.heap.size := Nat.le_refl _
      refine tk 16 (some 14) (.int .i64 N) rfl rfl (by kernel_rfl) (by kernel_rfl) (by kernel_rfl) (fun _ _ _ h => h) (.inl ⟨by rfl, fun _ _ => by go_simp⟩) S2 ?_
      simp only [Act.put, List.setIfInBounds_toArray, List.set_cons_zero, List.set_cons_succ]
      refine rd_gst 17 0 (enco lfN) 26 (by kernel_rfl) rfl rfl rfl rfl rfl v6 (by show 0 + 3 ≤ 3; omega) (by rw [size26]; rfl) (O6.enco_one _) rfl ?_
      intro w7 v7 b7 o7 s7
      have BC : Below wc.drew.heap.size wc.drew w7 := BB.trans (b7.mono hN)
      have S3 : Wk w7 K' base g x m l := Q2.out.below BC
      refine ⟨S3, ?_⟩
      refine tk 18 (some 16) (.int .i64 0) rfl rfl (by kernel_rfl) (by kernel_rfl) (by kernel_rfl) (fun _ _ _ h => h) (.inl ⟨by rfl, fun _ _ => by go_simp⟩) S3 ?_
      simp only [Act.put, List.setIfInBounds_toArray, List.set_cons_zero, List.set_cons_succ]
      refine wpAnyH_done (by kernel_rfl) ?_ _
      go_wp2_with fail
      go_meet
      exact ⟨_, rfl, rfl, rfl, hid S3, hid (k2.out.trans ((Q2.out.keptb BC).mono hj)), hid (L2.out.below BC (L2.out.lt (by show 0 < 4; omega)))⟩
  clear W2 K2 V2 HR5
  obtain ⟨p15, rfl, rfl, rfl, W4, K4, V4⟩ := hcut
  go_wp2_with fail
  go_ret
  exact ⟨rfl, W4.out.mono hj, K4.out⟩
end Go.Proofs.YtlgedfljmgedfaaGreat
