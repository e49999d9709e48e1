/-
  Texts NL of this seat, as far as they are used.
-/
import Derived.Test.YtlgedfljmgedfaaGreatJ25
namespace Go.Proofs.YtlgedfljmgedfaaGreat
open Go Go.RowKit
open M10 (hid Md encm mv mz Oth range_keep there_keep range_other there_other setCells_oth setCells_size there_set Ty enct tv tz Fr encf fv fz)
open O6 (Oc enco ov oz)
open T9 (sv)
/-! ### judge -/
/-- By how many ticks a frame is late; whether it is in time; what is judged. -/
def tkN (x : Nd) (began : Int) : Int := O6.tkO x.o (began - x.st)
def offD (m : Md) (x : Nd) (began : Int) : Int := tkN x began - m.l
def offI (m : Md) (x : Nd) (began : Int) : Prop := -m.d ≤ offD m x began ∧ offD m x began ≤ m.d
instance (m : Md) (x : Nd) (b : Int) : Decidable (offI m x b) := by unfold offI; infer_instance
def verd (m : Md) (x : Nd) (f : Fr) : Int := M10.judV m x.id x.sl x.mb f
theorem verd_in (m : Md) (x : Nd) (f : Fr) : 0 ≤ verd m x f ∧ verd m x f ≤ 3 := by
  unfold verd M10.judV M10.jV
  (repeat' split) <;> omega
theorem tkO_in {o : Oc} (h : O6.Ok o) {n : Int} (n0 : 0 ≤ n) : 0 ≤ O6.tkO o n ∧ O6.tkO o n ≤ 1099511627776 := by
  obtain ⟨p, d, r⟩ := o
  obtain ⟨h1, h2, h3, h4, h5, h6⟩ := h
  simp only at h1 h2 h3 h4 h5 h6
  have hr := O6.rate_range h1 h2 h3 h4
  unfold O6.tkO
  have : 0 ≤ (n * 1000000000 + (999999999 - r)) / (p * (1000000000 + d)) := Int.ediv_nonneg (by omega) (by omega)
  simp only
  omega
theorem off_okm {m : Md} {x : Nd} (k : NdOk m x) (w : World) (began : Int) (h0 : x.st ≤ began) (_h1 : began ≤ 1152921504606846976) :
    Calls Tryz.prog 94 #[mv m, .int .i64 (tkN x began)] w fun e w' => e = .returned (.tuple #[.int .i64 (offD m x began), .bool (decide (offI m x began)), .int .i64 0]) ∧ Below w.heap.size w w' := by
  obtain ⟨t0, t1⟩ := tkO_in k.ho (n := began - x.st) (by omega)
  have hm := k.hm
  obtain ⟨n, s, ll, f, d⟩ := m
  obtain ⟨h1, h2, h3, h4, h5, h6, h7, h8, h9⟩ := id hm
  simp only at h1 h2 h3 h4 h5 h6 h7 h8 h9
  have t0 : 0 ≤ tkN x began := t0
  have t1 : tkN x began ≤ 1099511627776 := t1
  by_cases hd : -d ≤ tkN x began - ll
  · have := M10.off_in n s ll f d (tkN x began) (tkN x began - ll) (decide (tkN x began - ll ≤ d)) w hm (by omega) (by omega) rfl (by simp; omega) rfl
    rw [show decide (offI ⟨n, s, ll, f, d⟩ x began) = decide (tkN x began - ll ≤ d) from decide_eq_decide.2 ⟨fun h => h.2, fun h => ⟨hd, h⟩⟩]
    exact this
  · have := M10.off_early n s ll f d (tkN x began) (tkN x began - ll) w hm (by omega) (by omega) rfl (by simp; omega)
    rw [show decide (offI ⟨n, s, ll, f, d⟩ x began) = false from decide_eq_false fun h => hd h.1]
    exact this
theorem judge_okm {m : Md} {x : Nd} (k : NdOk m x) (f : Fr) (hf : M10.OkF f) (w : World) :
    Calls Tryz.prog 95 #[mv m, .int .i64 x.id, .int .u16 (x.mb : Int), .int .u64 x.sl, fv f] w fun e w' => e = .returned (.tuple #[.int .i64 (verd m x f), .int .i64 0]) ∧ Below w.heap.size w w' := by
  have := M10.judge_any m x.id x.sl x.mb f w k.s0 k.mb
  rw [show M10.judE m x.id x.sl f = 0 from if_pos ⟨⟨k.hm, k.s1, k.i0, k.i1⟩, hf⟩] at this
  exact this
/-- A node at work, its verdict whatever it is, and a frame's variable; its tally whatever it is. -/
def SV (K : Nat → Prop) (base g : Nat) (x : Nd) (m : Md) (l : List Ac) (b : Nat) (f : Fr) (w : World) : Prop := (∃ v : Int, Wk w K base g { x with vd := v } m l) ∧ w.rangeAt b 0 (encf f)
def ST (K : Nat → Prop) (base g : Nat) (x : Nd) (m : Md) (l : List Ac) (w : World) : Prop := ∃ t : Ty, Wk w K base g { x with t := t } m l
section
variable {w : World} {K : Nat → Prop} {base g b : Nat} {x : Nd} {m : Md} {l : List Ac} {f : Fr}
theorem SV.cell (h : SV K base g x m l b f w) {j : Nat} {v : Value} (hc : ∀ q A n c B k d, (encw { x with vd := q } A n c m B k d)[j]? = some v) : w.cell? ⟨g, j, none⟩ = some v := by
  obtain ⟨⟨q, h⟩, _⟩ := h
  exact h.cell (hc q)
theorem SV.md (h : SV K base g x m l b f w) : w.rangeAt g 14 (encm m) := by
  obtain ⟨⟨q, h⟩, _⟩ := h
  exact h.md
theorem ST.cell (h : ST K base g x m l w) {j : Nat} {v : Value} (hc : ∀ q A n c B k d, (encw { x with t := q } A n c m B k d)[j]? = some v) : w.cell? ⟨g, j, none⟩ = some v := by
  obtain ⟨q, h⟩ := h
  exact h.cell (hc q)
end
set_option maxRecDepth 100000 in
set_option maxHeartbeats 2000000 in
theorem judge_own (K : Nat → Prop) (base g : Nat) (x : Nd) (m : Md) (l : List Ac) (f : Fr) (began : Int) (w : World) (h : Wk w K base g x m l) (k : NdOk m x) (hO : x.sl % m.n = x.id) :
    Calls Tryz.prog 49 #[.pointer (some ⟨g, 0, none⟩), fv f, .int .i64 began] w (RetW K base g x m l (.tuple #[]) w) := by
  have H := hid h
  have T0 := hid (fun (K : Nat → Prop) (w1 : World) (h : Wk w1 K base g x m l) (d : Nat) (os : Array Obj) => Calls.regrown_of (d := d) (os := os) (owner_w K base g x m l (Sort.grow (redrawn w1 d) os) (h.below (below_regrown w1 d os)) k.hm k.s0 k.s1))
  have e1 : (x.sl % m.n == x.id) = true := by simp [hO]
  clear hO
  clear h k
  generalize x.sl % m.n = O at *
  go_enter Tryz.func49, Tryz.ntmps49
  go_wp2_with (first
    | (refine wpList_gbox 54 (encf f) rfl (.tmp 1) rfl rfl ?_; intro w1 v1 b1 s1))
  have hbs : w.heap.size < w1.heap.size := v1.lt (by show 0 < 4; omega)
  have W1 := hid (H.out.add (b := w.heap.size) b1 (Nat.le_refl _) hbs)
  have K1 := hid (H.out.keptb b1)
  have V1 := hid v1
  obtain ⟨K', hK'⟩ : ∃ K' : Nat → Prop, K' = (fun k => K k ∨ k = w.heap.size) := ⟨_, rfl⟩
  have hj : ∀ i, K i → K' i := by rw [hK']; exact fun _ h => .inl h
  have hb : K' w.heap.size := by rw [hK']; exact .inr rfl
  rw [← hK'] at W1
  clear hK' hbs b1 s1 v1
  generalize w.heap.size = b at *
  have c0 : Hid (w1.cell? ⟨g, 0, none⟩ = some (.int .i64 x.id)) := hid (W1.out.cell fun _ _ _ _ _ _ => rfl)
  have c13 : Hid (w1.cell? ⟨g, 13, none⟩ = some (.int .i64 x.vd)) := hid (W1.out.cell fun _ _ _ _ _ _ => rfl)
  have c3 : Hid (w1.cell? ⟨g, 3, none⟩ = some (.int .i64 x.st)) := hid (W1.out.cell fun _ _ _ _ _ _ => rfl)
  refine wp_region_quiet_below (by kernel_rfl) (by kernel_rfl) ?_
  repeat (first | go_big_quiet_skip | refine wpQuiet_gl1 3 rfl rfl rfl Tryz.isAgg3 c0.out ?_ | refine wpQuiet_gl1 3 rfl rfl rfl Tryz.isAgg3 c13.out ?_ | refine wpQuiet_gl1 2 rfl rfl rfl Tryz.isAgg2 c3.out ?_ | quiet_step (with_reducible exact T0.out K' w1 W1.out _ _))
  refine wpQuiet_nil ?_
  intro _ hw'
  obtain ⟨⟨dq, osq⟩, hw''⟩ := hw'
  subst hw''
  have W2 := hid (W1.out.below (below_regrown w1 dq osq))
  have K2 := hid (K1.out.trans ((W1.out.keptb (below_regrown w1 dq osq)).mono hj))
  have V2 : Hid (Var (Sort.grow (redrawn w1 dq) osq) b (encf f)) := hid (V1.out.below (below_regrown w1 dq osq) (V1.out.lt (by show 0 < 4; omega)))
  generalize Sort.grow (redrawn w1 dq) osq = w2 at *
  clear c0 c13 c3 T0 W1 K1 V1 H
  go_wp2_with fail
  first | go_end0 | refine bodyPost_ret (results_none rfl _ _ _) rfl ?_
  exact ⟨rfl, W2.out.mono hj, K2.out⟩
set_option maxRecDepth 100000 in
set_option maxHeartbeats 2000000 in
theorem judge_again (K : Nat → Prop) (base g : Nat) (x : Nd) (m : Md) (l : List Ac) (f : Fr) (began : Int) (w : World) (h : Wk w K base g x m l) (k : NdOk m x) (hO : ¬ x.sl % m.n = x.id) (hv : ¬ x.vd = 0) :
    Calls Tryz.prog 49 #[.pointer (some ⟨g, 0, none⟩), fv f, .int .i64 began] w (RetW K base g x m l (.tuple #[]) w) := by
  have H := hid h
  have T0 := hid (fun (K : Nat → Prop) (w1 : World) (h : Wk w1 K base g x m l) (d : Nat) (os : Array Obj) => Calls.regrown_of (d := d) (os := os) (owner_w K base g x m l (Sort.grow (redrawn w1 d) os) (h.below (below_regrown w1 d os)) k.hm k.s0 k.s1))
  have e1 : (x.sl % m.n == x.id) = false := by simp [hO]
  have e2 : (x.vd != 0) = true := by simp [hv]
  clear hO hv
  clear h k
  generalize x.sl % m.n = O at *
  go_enter Tryz.func49, Tryz.ntmps49
  go_wp2_with (first
    | (refine wpList_gbox 54 (encf f) rfl (.tmp 1) rfl rfl ?_; intro w1 v1 b1 s1))
  have hbs : w.heap.size < w1.heap.size := v1.lt (by show 0 < 4; omega)
  have W1 := hid (H.out.add (b := w.heap.size) b1 (Nat.le_refl _) hbs)
  have K1 := hid (H.out.keptb b1)
  have V1 := hid v1
  obtain ⟨K', hK'⟩ : ∃ K' : Nat → Prop, K' = (fun k => K k ∨ k = w.heap.size) := ⟨_, rfl⟩
  have hj : ∀ i, K i → K' i := by rw [hK']; exact fun _ h => .inl h
  have hb : K' w.heap.size := by rw [hK']; exact .inr rfl
  rw [← hK'] at W1
  clear hK' hbs b1 s1 v1
  generalize w.heap.size = b at *
  have c0 : Hid (w1.cell? ⟨g, 0, none⟩ = some (.int .i64 x.id)) := hid (W1.out.cell fun _ _ _ _ _ _ => rfl)
  have c13 : Hid (w1.cell? ⟨g, 13, none⟩ = some (.int .i64 x.vd)) := hid (W1.out.cell fun _ _ _ _ _ _ => rfl)
  have c3 : Hid (w1.cell? ⟨g, 3, none⟩ = some (.int .i64 x.st)) := hid (W1.out.cell fun _ _ _ _ _ _ => rfl)
  refine wp_region_quiet_below (by kernel_rfl) (by kernel_rfl) ?_
  repeat (first | go_big_quiet_skip | refine wpQuiet_gl1 3 rfl rfl rfl Tryz.isAgg3 c0.out ?_ | refine wpQuiet_gl1 3 rfl rfl rfl Tryz.isAgg3 c13.out ?_ | refine wpQuiet_gl1 2 rfl rfl rfl Tryz.isAgg2 c3.out ?_ | quiet_step (with_reducible exact T0.out K' w1 W1.out _ _))
  refine wpQuiet_nil ?_
  intro _ hw'
  obtain ⟨⟨dq, osq⟩, hw''⟩ := hw'
  subst hw''
  have W2 := hid (W1.out.below (below_regrown w1 dq osq))
  have K2 := hid (K1.out.trans ((W1.out.keptb (below_regrown w1 dq osq)).mono hj))
  have V2 : Hid (Var (Sort.grow (redrawn w1 dq) osq) b (encf f)) := hid (V1.out.below (below_regrown w1 dq osq) (V1.out.lt (by show 0 < 4; omega)))
  generalize Sort.grow (redrawn w1 dq) osq = w2 at *
  clear c0 c13 c3 T0 W1 K1 V1 H
  go_wp2_with fail
  first | go_end0 | refine bodyPost_ret (results_none rfl _ _ _) rfl ?_
  exact ⟨rfl, W2.out.mono hj, K2.out⟩
set_option maxRecDepth 100000 in
set_option maxHeartbeats 2000000 in
theorem judge_early (K : Nat → Prop) (base g : Nat) (x : Nd) (m : Md) (l : List Ac) (f : Fr) (began : Int) (w : World) (h : Wk w K base g x m l) (k : NdOk m x) (hO : ¬ x.sl % m.n = x.id) (hv : x.vd = 0) (hb0 : began < x.st) :
    Calls Tryz.prog 49 #[.pointer (some ⟨g, 0, none⟩), fv f, .int .i64 began] w (RetW K base g x m l (.tuple #[]) w) := by
  have H := hid h
  have T0 := hid (fun (K : Nat → Prop) (w1 : World) (h : Wk w1 K base g x m l) (d : Nat) (os : Array Obj) => Calls.regrown_of (d := d) (os := os) (owner_w K base g x m l (Sort.grow (redrawn w1 d) os) (h.below (below_regrown w1 d os)) k.hm k.s0 k.s1))
  have e1 : (x.sl % m.n == x.id) = false := by simp [hO]
  have e2 : (x.vd != 0) = false := by simp [hv]
  have e3 : decide (began < x.st) = true := by simp [hb0]
  clear hO hv hb0
  clear h k
  generalize x.sl % m.n = O at *
  go_enter Tryz.func49, Tryz.ntmps49
  go_wp2_with (first
    | (refine wpList_gbox 54 (encf f) rfl (.tmp 1) rfl rfl ?_; intro w1 v1 b1 s1))
  have hbs : w.heap.size < w1.heap.size := v1.lt (by show 0 < 4; omega)
  have W1 := hid (H.out.add (b := w.heap.size) b1 (Nat.le_refl _) hbs)
  have K1 := hid (H.out.keptb b1)
  have V1 := hid v1
  obtain ⟨K', hK'⟩ : ∃ K' : Nat → Prop, K' = (fun k => K k ∨ k = w.heap.size) := ⟨_, rfl⟩
  have hj : ∀ i, K i → K' i := by rw [hK']; exact fun _ h => .inl h
  have hb : K' w.heap.size := by rw [hK']; exact .inr rfl
  rw [← hK'] at W1
  clear hK' hbs b1 s1 v1
  generalize w.heap.size = b at *
  have c0 : Hid (w1.cell? ⟨g, 0, none⟩ = some (.int .i64 x.id)) := hid (W1.out.cell fun _ _ _ _ _ _ => rfl)
  have c13 : Hid (w1.cell? ⟨g, 13, none⟩ = some (.int .i64 x.vd)) := hid (W1.out.cell fun _ _ _ _ _ _ => rfl)
  have c3 : Hid (w1.cell? ⟨g, 3, none⟩ = some (.int .i64 x.st)) := hid (W1.out.cell fun _ _ _ _ _ _ => rfl)
  refine wp_region_quiet_below (by kernel_rfl) (by kernel_rfl) ?_
  repeat (first | go_big_quiet_skip | refine wpQuiet_gl1 3 rfl rfl rfl Tryz.isAgg3 c0.out ?_ | refine wpQuiet_gl1 3 rfl rfl rfl Tryz.isAgg3 c13.out ?_ | refine wpQuiet_gl1 2 rfl rfl rfl Tryz.isAgg2 c3.out ?_ | quiet_step (with_reducible exact T0.out K' w1 W1.out _ _))
  refine wpQuiet_nil ?_
  intro _ hw'
  obtain ⟨⟨dq, osq⟩, hw''⟩ := hw'
  subst hw''
  have W2 := hid (W1.out.below (below_regrown w1 dq osq))
  have K2 := hid (K1.out.trans ((W1.out.keptb (below_regrown w1 dq osq)).mono hj))
  have V2 : Hid (Var (Sort.grow (redrawn w1 dq) osq) b (encf f)) := hid (V1.out.below (below_regrown w1 dq osq) (V1.out.lt (by show 0 < 4; omega)))
  generalize Sort.grow (redrawn w1 dq) osq = w2 at *
  clear c0 c13 c3 T0 W1 K1 V1 H
  go_wp2_with fail
  first | go_end0 | refine bodyPost_ret (results_none rfl _ _ _) rfl ?_
  exact ⟨rfl, W2.out.mono hj, K2.out⟩
set_option maxRecDepth 100000 in
set_option maxHeartbeats 2000000 in
theorem judge_odd (K : Nat → Prop) (base g : Nat) (x : Nd) (m : Md) (l : List Ac) (f : Fr) (began : Int) (w : World) (h : Wk w K base g x m l) (hl : l.length ≤ 900) (k : NdOk m x) (hO : ¬ x.sl % m.n = x.id) (hv : x.vd = 0) (hb0 : x.st ≤ began) (hb1 : began ≤ 1152921504606846976) (hi : ¬ offI m x began) :
    Calls Tryz.prog 49 #[.pointer (some ⟨g, 0, none⟩), fv f, .int .i64 began] w (RetW K base g x m (l ++ [note 7 (offD m x began)]) (.tuple #[]) w) := by
  have H := hid h
  have T0 := hid (fun (K : Nat → Prop) (w1 : World) (h : Wk w1 K base g x m l) (d : Nat) (os : Array Obj) => Calls.regrown_of (d := d) (os := os) (owner_w K base g x m l (Sort.grow (redrawn w1 d) os) (h.below (below_regrown w1 d os)) k.hm k.s0 k.s1))
  have e1 : (x.sl % m.n == x.id) = false := by simp [hO]
  have e2 : (x.vd != 0) = false := by simp [hv]
  have e3 : decide (began < x.st) = false := by simp; omega
  have eN : IntKind.i64.wrap (began - x.st) = began - x.st := by rw [IntKind.wrap_i64]; have := k.t0; omega
  have T1 := hid (fun (w1 : World) (d : Nat) (os : Array Obj) => Calls.regrown_of (d := d) (os := os) (O6.ticks_ok x.o (began - x.st) (Sort.grow (redrawn w1 d) os) k.ho (by omega) (by have := k.t0; omega)))
  have HF := hid (fun w => off_okm k w began hb0 hb1)
  have eB : decide (offI m x began) = false := decide_eq_false hi
  rw [eB] at HF
  have HN := hid (fun (K : Nat → Prop) (w1 : World) (h : Wk w1 K base g x m l) => note_any K base g x m l 7 (offD m x began) w1 h (by omega))
  unfold offD tkN at *
  clear h k hl hO hv hb0 hb1 hi eB
  generalize O6.tkO x.o (began - x.st) = tt at *
  generalize x.sl % m.n = O at *
  generalize tt - m.l = D at *
  go_enter Tryz.func49, Tryz.ntmps49
  go_wp2_with (first
    | (refine wpList_gbox 54 (encf f) rfl (.tmp 1) rfl rfl ?_; intro w1 v1 b1 s1))
  have hbs : w.heap.size < w1.heap.size := v1.lt (by show 0 < 4; omega)
  have W1 := hid (H.out.add (b := w.heap.size) b1 (Nat.le_refl _) hbs)
  have K1 := hid (H.out.keptb b1)
  have V1 := hid v1
  obtain ⟨K', hK'⟩ : ∃ K' : Nat → Prop, K' = (fun k => K k ∨ k = w.heap.size) := ⟨_, rfl⟩
  have hj : ∀ i, K i → K' i := by rw [hK']; exact fun _ h => .inl h
  have hb : K' w.heap.size := by rw [hK']; exact .inr rfl
  rw [← hK'] at W1
  clear hK' hbs b1 s1 v1
  generalize w.heap.size = b at *
  have c0 : Hid (w1.cell? ⟨g, 0, none⟩ = some (.int .i64 x.id)) := hid (W1.out.cell fun _ _ _ _ _ _ => rfl)
  have c13 : Hid (w1.cell? ⟨g, 13, none⟩ = some (.int .i64 x.vd)) := hid (W1.out.cell fun _ _ _ _ _ _ => rfl)
  have c3 : Hid (w1.cell? ⟨g, 3, none⟩ = some (.int .i64 x.st)) := hid (W1.out.cell fun _ _ _ _ _ _ => rfl)
  refine wp_region_quiet_below (by kernel_rfl) (by kernel_rfl) ?_
  repeat (first | go_big_quiet_skip | refine wpQuiet_gl1 3 rfl rfl rfl Tryz.isAgg3 c0.out ?_ | refine wpQuiet_gl1 3 rfl rfl rfl Tryz.isAgg3 c13.out ?_ | refine wpQuiet_gl1 2 rfl rfl rfl Tryz.isAgg2 c3.out ?_ | quiet_step (with_reducible exact T0.out K' w1 W1.out _ _))
  refine wpQuiet_nil ?_
  intro _ hw'
  obtain ⟨⟨dq, osq⟩, hw''⟩ := hw'
  subst hw''
  have W2 := hid (W1.out.below (below_regrown w1 dq osq))
  have K2 := hid (K1.out.trans ((W1.out.keptb (below_regrown w1 dq osq)).mono hj))
  have V2 : Hid (Var (Sort.grow (redrawn w1 dq) osq) b (encf f)) := hid (V1.out.below (below_regrown w1 dq osq) (V1.out.lt (by show 0 < 4; omega)))
  generalize Sort.grow (redrawn w1 dq) osq = w2 at *
  clear c0 c13 c3 T0 W1 K1 V1 H
  go_wp2_with fail
  have c3 : Hid (w2.cell? ⟨g, 3, none⟩ = some (.int .i64 x.st)) := hid (W2.out.cell fun _ _ _ _ _ _ => rfl)
  refine wp_region_quiet_below (by kernel_rfl) (by kernel_rfl) ?_
  repeat (first | refine wpQuiet_wo rfl rfl rfl W2.out ?_ | refine wpQuiet_gl1 2 rfl rfl rfl Tryz.isAgg2 c3.out ?_ | quiet_step (with_reducible exact T1.out w2 _ _))
  refine wpQuiet_nil ?_
  intro _ hw'
  obtain ⟨⟨dq, osq⟩, hw''⟩ := hw'
  subst hw''
  have W3 := hid (W2.out.below (below_regrown w2 dq osq))
  have K3 := hid (K2.out.trans ((W2.out.keptb (below_regrown w2 dq osq)).mono hj))
  have V3 : Hid (Var (Sort.grow (redrawn w2 dq) osq) b (encf f)) := hid (V2.out.below (below_regrown w2 dq osq) (V2.out.lt (by show 0 < 4; omega)))
  generalize Sort.grow (redrawn w2 dq) osq = w3 at *
  clear c3 T1 W2 K2 V2
  go_wp2_with (first
    | (go_at_call 72; (with_reducible refine (HN.out K' w4 W4.out).mono ?_); rintro e w5 ⟨rfl, W5, k5⟩)
    | (go_at_call 94; (with_reducible refine (HF.out w3).mono ?_); rintro e w4 ⟨rfl, b4⟩; have W4 := hid (W3.out.below b4); have K4 := hid (K3.out.trans ((W3.out.keptb b4).mono hj)); have V4 : Hid (Var w4 b (encf f)) := hid (V3.out.below b4 (V3.out.lt (by show 0 < 4; omega))))
    | (refine wpList_lm _ rfl rfl W3.out.md rfl ?_))
  first | go_end0 | refine bodyPost_ret (results_none rfl _ _ _) rfl ?_
  exact ⟨rfl, W5.mono hj, K4.out.trans (k5.mono hj)⟩
set_option maxRecDepth 100000 in
set_option maxHeartbeats 2000000 in
theorem judge_wrong (K : Nat → Prop) (base g : Nat) (x : Nd) (m : Md) (l : List Ac) (f : Fr) (began : Int) (w : World) (h : Wk w K base g x m l) (hl : l.length ≤ 900) (k : NdOk m x) (hO : ¬ x.sl % m.n = x.id) (hv : x.vd = 0) (hb0 : x.st ≤ began) (hb1 : began ≤ 1152921504606846976) (hf : M10.OkF f) (hi : offI m x began) (hV : verd m x f = 3) :
    Calls Tryz.prog 49 #[.pointer (some ⟨g, 0, none⟩), fv f, .int .i64 began] w (RetW K base g { x with vd := verd m x f, t := M10.cntT x.t (verd m x f) } m (l ++ [note 5 f.f]) (.tuple #[]) w) := by
  have H := hid h
  have T0 := hid (fun (K : Nat → Prop) (w1 : World) (h : Wk w1 K base g x m l) (d : Nat) (os : Array Obj) => Calls.regrown_of (d := d) (os := os) (owner_w K base g x m l (Sort.grow (redrawn w1 d) os) (h.below (below_regrown w1 d os)) k.hm k.s0 k.s1))
  have e1 : (x.sl % m.n == x.id) = false := by simp [hO]
  have e2 : (x.vd != 0) = false := by simp [hv]
  have e3 : decide (began < x.st) = false := by simp; omega
  have eN : IntKind.i64.wrap (began - x.st) = began - x.st := by rw [IntKind.wrap_i64]; have := k.t0; omega
  have T1 := hid (fun (w1 : World) (d : Nat) (os : Array Obj) => Calls.regrown_of (d := d) (os := os) (O6.ticks_ok x.o (began - x.st) (Sort.grow (redrawn w1 d) os) k.ho (by omega) (by have := k.t0; omega)))
  have HF := hid (fun w => off_okm k w began hb0 hb1)
  have eB : decide (offI m x began) = true := decide_eq_true hi
  rw [eB] at HF
  have HJ := hid (fun w => judge_okm k f hf w)
  have HC := hid (fun w => M10.count_any x.t (verd m x f) w ⟨by have := verd_in m x f; omega, by have := verd_in m x f; omega⟩)
  unfold M10.RetT at HC
  generalize verd m x f = V at *
  have HN := hid (fun (K : Nat → Prop) (w1 : World) (h : Wk w1 K base g { x with vd := V, t := M10.cntT x.t V } m l) => note_any K base g { x with vd := V, t := M10.cntT x.t V } m l 5 f.f w1 h (by omega))
  have e5 : (V == 3) = true := by simp [hV]
  generalize M10.cntT x.t V = C at *
  generalize M10.cntE x.t V = CE at *
  unfold offD tkN at *
  clear h k hl hO hv hb0 hb1 hf hi eB hV
  generalize O6.tkO x.o (began - x.st) = tt at *
  generalize x.sl % m.n = O at *
  generalize tt - m.l = D at *
  go_enter Tryz.func49, Tryz.ntmps49
  go_wp2_with (first
    | (refine wpList_gbox 54 (encf f) rfl (.tmp 1) rfl rfl ?_; intro w1 v1 b1 s1))
  have hbs : w.heap.size < w1.heap.size := v1.lt (by show 0 < 4; omega)
  have W1 := hid (H.out.add (b := w.heap.size) b1 (Nat.le_refl _) hbs)
  have K1 := hid (H.out.keptb b1)
  have V1 := hid v1
  obtain ⟨K', hK'⟩ : ∃ K' : Nat → Prop, K' = (fun k => K k ∨ k = w.heap.size) := ⟨_, rfl⟩
  have hj : ∀ i, K i → K' i := by rw [hK']; exact fun _ h => .inl h
  have hb : K' w.heap.size := by rw [hK']; exact .inr rfl
  rw [← hK'] at W1
  clear hK' hbs b1 s1 v1
  generalize w.heap.size = b at *
  have c0 : Hid (w1.cell? ⟨g, 0, none⟩ = some (.int .i64 x.id)) := hid (W1.out.cell fun _ _ _ _ _ _ => rfl)
  have c13 : Hid (w1.cell? ⟨g, 13, none⟩ = some (.int .i64 x.vd)) := hid (W1.out.cell fun _ _ _ _ _ _ => rfl)
  have c3 : Hid (w1.cell? ⟨g, 3, none⟩ = some (.int .i64 x.st)) := hid (W1.out.cell fun _ _ _ _ _ _ => rfl)
  refine wp_region_quiet_below (by kernel_rfl) (by kernel_rfl) ?_
  repeat (first | go_big_quiet_skip | refine wpQuiet_gl1 3 rfl rfl rfl Tryz.isAgg3 c0.out ?_ | refine wpQuiet_gl1 3 rfl rfl rfl Tryz.isAgg3 c13.out ?_ | refine wpQuiet_gl1 2 rfl rfl rfl Tryz.isAgg2 c3.out ?_ | quiet_step (with_reducible exact T0.out K' w1 W1.out _ _))
  refine wpQuiet_nil ?_
  intro _ hw'
  obtain ⟨⟨dq, osq⟩, hw''⟩ := hw'
  subst hw''
  have W2 := hid (W1.out.below (below_regrown w1 dq osq))
  have K2 := hid (K1.out.trans ((W1.out.keptb (below_regrown w1 dq osq)).mono hj))
  have V2 : Hid (Var (Sort.grow (redrawn w1 dq) osq) b (encf f)) := hid (V1.out.below (below_regrown w1 dq osq) (V1.out.lt (by show 0 < 4; omega)))
  generalize Sort.grow (redrawn w1 dq) osq = w2 at *
  clear c0 c13 c3 T0 W1 K1 V1 H
  go_wp2_with fail
  have c3 : Hid (w2.cell? ⟨g, 3, none⟩ = some (.int .i64 x.st)) := hid (W2.out.cell fun _ _ _ _ _ _ => rfl)
  refine wp_region_quiet_below (by kernel_rfl) (by kernel_rfl) ?_
  repeat (first | refine wpQuiet_wo rfl rfl rfl W2.out ?_ | refine wpQuiet_gl1 2 rfl rfl rfl Tryz.isAgg2 c3.out ?_ | quiet_step (with_reducible exact T1.out w2 _ _))
  refine wpQuiet_nil ?_
  intro _ hw'
  obtain ⟨⟨dq, osq⟩, hw''⟩ := hw'
  subst hw''
  have W3 := hid (W2.out.below (below_regrown w2 dq osq))
  have K3 := hid (K2.out.trans ((W2.out.keptb (below_regrown w2 dq osq)).mono hj))
  have V3 : Hid (Var (Sort.grow (redrawn w2 dq) osq) b (encf f)) := hid (V2.out.below (below_regrown w2 dq osq) (V2.out.lt (by show 0 < 4; omega)))
  generalize Sort.grow (redrawn w2 dq) osq = w3 at *
  clear c3 T1 W2 K2 V2
  go_wp2_with (first
    | (go_at_call 94; (with_reducible refine (HF.out w3).mono ?_); rintro e w4 ⟨rfl, b4⟩; have W4 := hid (W3.out.below b4); have K4 := hid (K3.out.trans ((W3.out.keptb b4).mono hj)); have V4 : Hid (Var w4 b (encf f)) := hid (V3.out.below b4 (V3.out.lt (by show 0 < 4; omega))))
    | (refine wpList_lm _ rfl rfl W3.out.md rfl ?_))
  have Q4 := hid W4.out.drew
  have L4 := hid V4.out.drew
  have k4 := hid (K4.out.trans ((W4.out.keptb (Below.refl _ _).drew).mono hj))
  have S6 : SV K' base g x m l b f w4.drew := ⟨⟨_, Q4.out⟩, L4.out.1⟩
  clear W3 K3 V3 W4 K4 V4
  refine wp_region_held_drew (S := SV K' base g x m l b f) (by kernel_rfl) S6 (fun _ => ?_)
  refine tk 0 (some 68) (.pointer (some ⟨g, 0, none⟩)) rfl rfl (by kernel_rfl) (by kernel_rfl) (by kernel_rfl) (fun _ _ _ h => h) (.inl ⟨by rfl, fun _ _ => by go_simp⟩) S6 ?_
  simp only [Act.put, List.setIfInBounds_toArray, List.set_cons_zero, List.set_cons_succ]
  refine tk 1 (some 69) (.pointer (some ⟨g, 0, none⟩)) rfl rfl (by kernel_rfl) (by kernel_rfl) (by kernel_rfl) (fun _ _ _ h => h) (.inl ⟨by rfl, fun _ _ => by go_simp⟩) S6 ?_
  simp only [Act.put, List.setIfInBounds_toArray, List.set_cons_zero, List.set_cons_succ]
  refine tk 2 (some 70) (.pointer (some ⟨g, 0, none⟩)) rfl rfl (by kernel_rfl) (by kernel_rfl) (by kernel_rfl) (fun _ _ _ h => h) (.inl ⟨by rfl, fun _ _ => by go_simp⟩) S6 ?_
  simp only [Act.put, List.setIfInBounds_toArray, List.set_cons_zero, List.set_cons_succ]
  refine tk 3 (some 71) (.pointer (some ⟨g, 14, none⟩)) rfl rfl (by kernel_rfl) (by kernel_rfl) (by kernel_rfl) (fun _ _ _ h => h) (.inl ⟨by rfl, fun _ _ => by go_simp⟩) S6 ?_
  simp only [Act.put, List.setIfInBounds_toArray, List.set_cons_zero, List.set_cons_succ]
  refine tk 4 (some 72) (mv m) rfl rfl (by kernel_rfl) (by kernel_rfl) (by kernel_rfl) (fun _ _ _ h => h) (ylm rfl rfl (fun w h => h.md) rfl) S6 ?_
  simp only [Act.put, List.setIfInBounds_toArray, List.set_cons_zero, List.set_cons_succ]
  refine tk 5 (some 73) (.pointer (some ⟨g, 0, none⟩)) rfl rfl (by kernel_rfl) (by kernel_rfl) (by kernel_rfl) (fun _ _ _ h => h) (.inl ⟨by rfl, fun _ _ => by go_simp⟩) S6 ?_
  simp only [Act.put, List.setIfInBounds_toArray, List.set_cons_zero, List.set_cons_succ]
  refine tk 6 (some 74) (.pointer (some ⟨g, 0, none⟩)) rfl rfl (by kernel_rfl) (by kernel_rfl) (by kernel_rfl) (fun _ _ _ h => h) (.inl ⟨by rfl, fun _ _ => by go_simp⟩) S6 ?_
  simp only [Act.put, List.setIfInBounds_toArray, List.set_cons_zero, List.set_cons_succ]
  refine tk 7 (some 75) (.pointer (some ⟨g, 0, none⟩)) rfl rfl (by kernel_rfl) (by kernel_rfl) (by kernel_rfl) (fun _ _ _ h => h) (.inl ⟨by rfl, fun _ _ => by go_simp⟩) S6 ?_
  simp only [Act.put, List.setIfInBounds_toArray, List.set_cons_zero, List.set_cons_succ]
  refine tk 8 (some 76) (.pointer (some ⟨g, 0, none⟩)) rfl rfl (by kernel_rfl) (by kernel_rfl) (by kernel_rfl) (fun _ _ _ h => h) (.inl ⟨by rfl, fun _ _ => by go_simp⟩) S6 ?_
  simp only [Act.put, List.setIfInBounds_toArray, List.set_cons_zero, List.set_cons_succ]
  refine tk 9 (some 77) (.int .i64 x.id) rfl rfl (by kernel_rfl) (by kernel_rfl) (by kernel_rfl) (fun _ _ _ h => h) (yl1 3 (p := ⟨g, 0, none⟩) (v := .int .i64 x.id) rfl rfl Tryz.isAgg3 (fun w h => h.cell (j := 0) fun _ _ _ _ _ _ _ => rfl) rfl) S6 ?_
  simp only [Act.put, List.setIfInBounds_toArray, List.set_cons_zero, List.set_cons_succ]
  refine tk 10 (some 78) (.pointer (some ⟨g, 0, none⟩)) rfl rfl (by kernel_rfl) (by kernel_rfl) (by kernel_rfl) (fun _ _ _ h => h) (.inl ⟨by rfl, fun _ _ => by go_simp⟩) S6 ?_
  simp only [Act.put, List.setIfInBounds_toArray, List.set_cons_zero, List.set_cons_succ]
  refine tk 11 (some 79) (.pointer (some ⟨g, 0, none⟩)) rfl rfl (by kernel_rfl) (by kernel_rfl) (by kernel_rfl) (fun _ _ _ h => h) (.inl ⟨by rfl, fun _ _ => by go_simp⟩) S6 ?_
  simp only [Act.put, List.setIfInBounds_toArray, List.set_cons_zero, List.set_cons_succ]
  refine tk 12 (some 80) (.pointer (some ⟨g, 0, none⟩)) rfl rfl (by kernel_rfl) (by kernel_rfl) (by kernel_rfl) (fun _ _ _ h => h) (.inl ⟨by rfl, fun _ _ => by go_simp⟩) S6 ?_
  simp only [Act.put, List.setIfInBounds_toArray, List.set_cons_zero, List.set_cons_succ]
  refine tk 13 (some 81) (.pointer (some ⟨g, 8, none⟩)) rfl rfl (by kernel_rfl) (by kernel_rfl) (by kernel_rfl) (fun _ _ _ h => h) (.inl ⟨by rfl, fun _ _ => by go_simp⟩) S6 ?_
  simp only [Act.put, List.setIfInBounds_toArray, List.set_cons_zero, List.set_cons_succ]
  refine tk 14 (some 82) (.int .u16 (x.mb : Int)) rfl rfl (by kernel_rfl) (by kernel_rfl) (by kernel_rfl) (fun _ _ _ h => h) (yl1 27 (p := ⟨g, 8, none⟩) (v := .int .u16 (x.mb : Int)) rfl rfl Tryz.isAgg27 (fun w h => h.cell (j := 8) fun _ _ _ _ _ _ _ => rfl) rfl) S6 ?_
  simp only [Act.put, List.setIfInBounds_toArray, List.set_cons_zero, List.set_cons_succ]
  refine tk 15 (some 83) (.pointer (some ⟨g, 0, none⟩)) rfl rfl (by kernel_rfl) (by kernel_rfl) (by kernel_rfl) (fun _ _ _ h => h) (.inl ⟨by rfl, fun _ _ => by go_simp⟩) S6 ?_
  simp only [Act.put, List.setIfInBounds_toArray, List.set_cons_zero, List.set_cons_succ]
  refine tk 16 (some 84) (.pointer (some ⟨g, 0, none⟩)) rfl rfl (by kernel_rfl) (by kernel_rfl) (by kernel_rfl) (fun _ _ _ h => h) (.inl ⟨by rfl, fun _ _ => by go_simp⟩) S6 ?_
  simp only [Act.put, List.setIfInBounds_toArray, List.set_cons_zero, List.set_cons_succ]
  refine tk 17 (some 85) (.pointer (some ⟨g, 0, none⟩)) rfl rfl (by kernel_rfl) (by kernel_rfl) (by kernel_rfl) (fun _ _ _ h => h) (.inl ⟨by rfl, fun _ _ => by go_simp⟩) S6 ?_
  simp only [Act.put, List.setIfInBounds_toArray, List.set_cons_zero, List.set_cons_succ]
  refine tk 18 (some 86) (.pointer (some ⟨g, 2, none⟩)) rfl rfl (by kernel_rfl) (by kernel_rfl) (by kernel_rfl) (fun _ _ _ h => h) (.inl ⟨by rfl, fun _ _ => by go_simp⟩) S6 ?_
  simp only [Act.put, List.setIfInBounds_toArray, List.set_cons_zero, List.set_cons_succ]
  refine tk 19 (some 87) (.int .u64 x.sl) rfl rfl (by kernel_rfl) (by kernel_rfl) (by kernel_rfl) (fun _ _ _ h => h) (yl1 24 (p := ⟨g, 2, none⟩) (v := .int .u64 x.sl) rfl rfl Tryz.isAgg24 (fun w h => h.cell (j := 2) fun _ _ _ _ _ _ _ => rfl) rfl) S6 ?_
  simp only [Act.put, List.setIfInBounds_toArray, List.set_cons_zero, List.set_cons_succ]
  refine tk 20 (some 88) (fv f) rfl rfl (by kernel_rfl) (by kernel_rfl) (by kernel_rfl) (fun _ _ _ h => h) (ylf rfl rfl (fun w h => h.2) rfl) S6 ?_
  simp only [Act.put, List.setIfInBounds_toArray, List.set_cons_zero, List.set_cons_succ]
  refine rd_cl 21 (some 89) 95 #[mv m, .int .i64 x.id, .int .u16 (x.mb : Int), .int .u64 x.sl, fv f] _ (by kernel_rfl) rfl rfl (by unfold execOp; simp [go_sem] <;> rfl) (HJ.out _) rfl ?_
  intro w5 b5
  have Q5 := hid (Q4.out.below b5)
  have L5 : Hid (Var w5 b (encf f)) := hid (L4.out.below b5 (L4.out.lt (by show 0 < 4; omega)))
  have k5 := hid (Q4.out.keptb b5)
  have S7 : SV K' base g x m l b f w5 := ⟨⟨_, Q5.out⟩, L5.out.1⟩
  refine ⟨S7, ?_⟩
  simp only [Act.put, List.setIfInBounds_toArray, List.set_cons_zero, List.set_cons_succ]
  refine tk 22 (some 67) (.tuple #[.int .i64 V, .int .i64 0]) rfl rfl (by kernel_rfl) (by kernel_rfl) (by kernel_rfl) (fun _ _ _ h => h) (.inl ⟨by rfl, fun _ _ => by go_simp⟩) S7 ?_
  simp only [Act.put, List.setIfInBounds_toArray, List.set_cons_zero, List.set_cons_succ]
  refine tk 23 (some 90) (.int .i64 V) rfl rfl (by kernel_rfl) (by kernel_rfl) (by kernel_rfl) (fun _ _ _ h => h) (.inl ⟨by rfl, fun _ _ => by go_simp⟩) S7 ?_
  simp only [Act.put, List.setIfInBounds_toArray, List.set_cons_zero, List.set_cons_succ]
  refine tk 24 (some 91) (.int .i64 0) rfl rfl (by kernel_rfl) (by kernel_rfl) (by kernel_rfl) (fun _ _ _ h => h) (.inl ⟨by rfl, fun _ _ => by go_simp⟩) S7 ?_
  simp only [Act.put, List.setIfInBounds_toArray, List.set_cons_zero, List.set_cons_succ]
  refine tk 25 (some 92) (.pointer (some ⟨g, 0, none⟩)) rfl rfl (by kernel_rfl) (by kernel_rfl) (by kernel_rfl) (fun _ _ _ h => h) (.inl ⟨by rfl, fun _ _ => by go_simp⟩) S7 ?_
  simp only [Act.put, List.setIfInBounds_toArray, List.set_cons_zero, List.set_cons_succ]
  refine tk 26 (some 93) (.pointer (some ⟨g, 0, none⟩)) rfl rfl (by kernel_rfl) (by kernel_rfl) (by kernel_rfl) (fun _ _ _ h => h) (.inl ⟨by rfl, fun _ _ => by go_simp⟩) S7 ?_
  simp only [Act.put, List.setIfInBounds_toArray, List.set_cons_zero, List.set_cons_succ]
  refine tk 27 (some 94) (.pointer (some ⟨g, 13, none⟩)) rfl rfl (by kernel_rfl) (by kernel_rfl) (by kernel_rfl) (fun _ _ _ h => h) (.inl ⟨by rfl, fun _ _ => by go_simp⟩) S7 ?_
  simp only [Act.put, List.setIfInBounds_toArray, List.set_cons_zero, List.set_cons_succ]
  refine rd_ws1 { x with vd := V } 28 13 (.int .i64 V) 3 (by kernel_rfl) rfl rfl rfl rfl rfl Q5.out (by kernel_rfl) rfl rfl rfl (fun _ _ _ _ _ _ => rfl) (by omega) rfl ?_
  intro w6 Q6 k6
  refine ⟨⟨⟨_, Q6⟩, (L5.out.same (k6.block b hb)).1⟩, ?_⟩
  refine wpAnyH_done (by kernel_rfl) ?_ _
  have Q6 := hid Q6
  have L6 : Hid (Var w6 b (encf f)) := hid (L5.out.same (k6.block b hb))
  have K6 := hid (k4.out.trans ((k5.out.trans k6).mono hj))
  clear Q4 L4 k4 S6 S7 Q5 L5 k5 k6
  go_wp2_with fail
  have Q7 := hid Q6.out.drew
  have L7 := hid L6.out.drew
  have K7 := hid (K6.out.trans ((Q6.out.keptb (Below.refl _ _).drew).mono hj))
  have S8 : ST K' base g { x with vd := V } m l w6.drew := ⟨_, Q7.out⟩
  clear Q6 L6 K6
  refine wp_region_held_drew (S := ST K' base g { x with vd := V } m l) (by kernel_rfl) S8 (fun _ => ?_)
  refine tk 0 (some 96) (.pointer (some ⟨g, 0, none⟩)) rfl rfl (by kernel_rfl) (by kernel_rfl) (by kernel_rfl) (fun _ _ _ h => h) (.inl ⟨by rfl, fun _ _ => by go_simp⟩) S8 ?_
  simp only [Act.put, List.setIfInBounds_toArray, List.set_cons_zero, List.set_cons_succ]
  refine tk 1 (some 97) (.pointer (some ⟨g, 0, none⟩)) rfl rfl (by kernel_rfl) (by kernel_rfl) (by kernel_rfl) (fun _ _ _ h => h) (.inl ⟨by rfl, fun _ _ => by go_simp⟩) S8 ?_
  simp only [Act.put, List.setIfInBounds_toArray, List.set_cons_zero, List.set_cons_succ]
  refine tk 2 (some 98) (.pointer (some ⟨g, 0, none⟩)) rfl rfl (by kernel_rfl) (by kernel_rfl) (by kernel_rfl) (fun _ _ _ h => h) (.inl ⟨by rfl, fun _ _ => by go_simp⟩) S8 ?_
  simp only [Act.put, List.setIfInBounds_toArray, List.set_cons_zero, List.set_cons_succ]
  refine tk 3 (some 99) (.pointer (some ⟨g, 0, none⟩)) rfl rfl (by kernel_rfl) (by kernel_rfl) (by kernel_rfl) (fun _ _ _ h => h) (.inl ⟨by rfl, fun _ _ => by go_simp⟩) S8 ?_
  simp only [Act.put, List.setIfInBounds_toArray, List.set_cons_zero, List.set_cons_succ]
  refine tk 4 (some 100) (.pointer (some ⟨g, 9, none⟩)) rfl rfl (by kernel_rfl) (by kernel_rfl) (by kernel_rfl) (fun _ _ _ h => h) (.inl ⟨by rfl, fun _ _ => by go_simp⟩) S8 ?_
  simp only [Act.put, List.setIfInBounds_toArray, List.set_cons_zero, List.set_cons_succ]
  refine tk 6 (some 102) (.pointer (some ⟨g, 0, none⟩)) rfl rfl (by kernel_rfl) (by kernel_rfl) (by kernel_rfl) (fun _ _ _ h => h) (.inl ⟨by rfl, fun _ _ => by go_simp⟩) S8 ?_
  simp only [Act.put, List.setIfInBounds_toArray, List.set_cons_zero, List.set_cons_succ]
  refine tk 7 (some 103) (.pointer (some ⟨g, 0, none⟩)) rfl rfl (by kernel_rfl) (by kernel_rfl) (by kernel_rfl) (fun _ _ _ h => h) (.inl ⟨by rfl, fun _ _ => by go_simp⟩) S8 ?_
  simp only [Act.put, List.setIfInBounds_toArray, List.set_cons_zero, List.set_cons_succ]
  refine tk 8 (some 104) (.pointer (some ⟨g, 0, none⟩)) rfl rfl (by kernel_rfl) (by kernel_rfl) (by kernel_rfl) (fun _ _ _ h => h) (.inl ⟨by rfl, fun _ _ => by go_simp⟩) S8 ?_
  simp only [Act.put, List.setIfInBounds_toArray, List.set_cons_zero, List.set_cons_succ]
  refine tk 9 (some 105) (.pointer (some ⟨g, 13, none⟩)) rfl rfl (by kernel_rfl) (by kernel_rfl) (by kernel_rfl) (fun _ _ _ h => h) (.inl ⟨by rfl, fun _ _ => by go_simp⟩) S8 ?_
  simp only [Act.put, List.setIfInBounds_toArray, List.set_cons_zero, List.set_cons_succ]
  refine tk 10 (some 106) (.int .i64 V) rfl rfl (by kernel_rfl) (by kernel_rfl) (by kernel_rfl) (fun _ _ _ h => h) (yl1 3 (p := ⟨g, 13, none⟩) (v := .int .i64 V) rfl rfl Tryz.isAgg3 (fun w h => h.cell (j := 13) fun _ _ _ _ _ _ _ => rfl) rfl) S8 ?_
  simp only [Act.put, List.setIfInBounds_toArray, List.set_cons_zero, List.set_cons_succ]
  refine rd_ls 5 (some 101) 29 (enct x.t) (by kernel_rfl) rfl rfl rfl rfl Q7.out.ty Tryz.underlying29 rfl (by rw [size29]; rfl) rfl S8 ?_
  simp only [Act.put, List.setIfInBounds_toArray, List.set_cons_zero, List.set_cons_succ]
  refine rd_cl 11 (some 107) 96 #[tv x.t, .int .i64 V] _ (by kernel_rfl) rfl rfl (by unfold execOp; simp [go_sem] <;> rfl) (HC.out _) rfl ?_
  intro w8 b8
  have Q8 := hid (Q7.out.below b8)
  have k8 := hid (Q7.out.keptb b8)
  have S9 : ST K' base g { x with vd := V } m l w8 := ⟨_, Q8.out⟩
  refine ⟨S9, ?_⟩
  simp only [Act.put, List.setIfInBounds_toArray, List.set_cons_zero, List.set_cons_succ]
  refine tk 12 (some 95) (.tuple #[tv C, .int .i64 CE]) rfl rfl (by kernel_rfl) (by kernel_rfl) (by kernel_rfl) (fun _ _ _ h => h) (.inl ⟨by rfl, fun _ _ => by go_simp⟩) S9 ?_
  simp only [Act.put, List.setIfInBounds_toArray, List.set_cons_zero, List.set_cons_succ]
  refine tk 13 (some 108) (tv C) rfl rfl (by kernel_rfl) (by kernel_rfl) (by kernel_rfl) (fun _ _ _ h => h) (.inl ⟨by rfl, fun _ _ => by go_simp⟩) S9 ?_
  simp only [Act.put, List.setIfInBounds_toArray, List.set_cons_zero, List.set_cons_succ]
  refine tk 14 (some 109) (.int .i64 CE) rfl rfl (by kernel_rfl) (by kernel_rfl) (by kernel_rfl) (fun _ _ _ h => h) (.inl ⟨by rfl, fun _ _ => by go_simp⟩) S9 ?_
  simp only [Act.put, List.setIfInBounds_toArray, List.set_cons_zero, List.set_cons_succ]
  refine tk 15 (some 110) (.pointer (some ⟨g, 0, none⟩)) rfl rfl (by kernel_rfl) (by kernel_rfl) (by kernel_rfl) (fun _ _ _ h => h) (.inl ⟨by rfl, fun _ _ => by go_simp⟩) S9 ?_
  simp only [Act.put, List.setIfInBounds_toArray, List.set_cons_zero, List.set_cons_succ]
  refine tk 16 (some 111) (.pointer (some ⟨g, 0, none⟩)) rfl rfl (by kernel_rfl) (by kernel_rfl) (by kernel_rfl) (fun _ _ _ h => h) (.inl ⟨by rfl, fun _ _ => by go_simp⟩) S9 ?_
  simp only [Act.put, List.setIfInBounds_toArray, List.set_cons_zero, List.set_cons_succ]
  refine tk 17 (some 112) (.pointer (some ⟨g, 9, none⟩)) rfl rfl (by kernel_rfl) (by kernel_rfl) (by kernel_rfl) (fun _ _ _ h => h) (.inl ⟨by rfl, fun _ _ => by go_simp⟩) S9 ?_
  simp only [Act.put, List.setIfInBounds_toArray, List.set_cons_zero, List.set_cons_succ]
  refine rd_wsn { x with vd := V, t := C } 18 9 (enct C) 29 (by kernel_rfl) rfl rfl rfl rfl rfl Q8.out (by rw [size29]; rfl) (M10.enct_one _) rfl (fun _ _ _ _ _ _ => rfl) (by show 9 + 2 ≤ 20; omega) rfl ?_
  intro w9 Q9 k9
  refine ⟨⟨_, Q9⟩, ?_⟩
  refine wpAnyH_done (by kernel_rfl) ?_ _
  have Q9 := hid Q9
  have L9 : Hid (Var w9 b (encf f)) := hid ((L7.out.below b8 (L7.out.lt (by show 0 < 4; omega))).same (k9.block b hb))
  have K9 := hid (K7.out.trans ((k8.out.trans k9).mono hj))
  have d13 : w9.cell? ⟨g, 13, none⟩ = some (.int .i64 V) := Q9.out.cell fun _ _ _ _ _ _ => rfl
  have d1 : w9.cell? ⟨b, 1, none⟩ = some (.int .i64 f.f) := L9.out.cell rfl
  clear Q7 L7 K7 S8 S9 Q8 b8 k8 k9
  go_wp2_with (first
    | (go_at_call 72; (with_reducible refine (HN.out K' w9 Q9.out).mono ?_); rintro e w10 ⟨rfl, W10, k10⟩; have W10 := hid W10; have K10 := hid (K9.out.trans (k10.mono hj))))
  first | go_end0 | refine bodyPost_ret (results_none rfl _ _ _) rfl ?_
  exact ⟨rfl, W10.out.mono hj, K10.out⟩
set_option maxRecDepth 100000 in
set_option maxHeartbeats 2000000 in
theorem judge_noack (K : Nat → Prop) (base g : Nat) (x : Nd) (m : Md) (l : List Ac) (f : Fr) (began : Int) (w : World) (h : Wk w K base g x m l) (hl : l.length ≤ 900) (k : NdOk m x) (hO : ¬ x.sl % m.n = x.id) (hv : x.vd = 0) (hb0 : x.st ≤ began) (hb1 : began ≤ 1152921504606846976) (hf : M10.OkF f) (hi : offI m x began) (hV : verd m x f = 2) :
    Calls Tryz.prog 49 #[.pointer (some ⟨g, 0, none⟩), fv f, .int .i64 began] w (RetW K base g { x with vd := verd m x f, t := M10.cntT x.t (verd m x f), dv := lateL m x.dv (offD m x began) } m (l ++ [note 6 f.f]) (.tuple #[]) w) := by
  have H := hid h
  have T0 := hid (fun (K : Nat → Prop) (w1 : World) (h : Wk w1 K base g x m l) (d : Nat) (os : Array Obj) => Calls.regrown_of (d := d) (os := os) (owner_w K base g x m l (Sort.grow (redrawn w1 d) os) (h.below (below_regrown w1 d os)) k.hm k.s0 k.s1))
  have e1 : (x.sl % m.n == x.id) = false := by simp [hO]
  have e2 : (x.vd != 0) = false := by simp [hv]
  have e3 : decide (began < x.st) = false := by simp; omega
  have eN : IntKind.i64.wrap (began - x.st) = began - x.st := by rw [IntKind.wrap_i64]; have := k.t0; omega
  have T1 := hid (fun (w1 : World) (d : Nat) (os : Array Obj) => Calls.regrown_of (d := d) (os := os) (O6.ticks_ok x.o (began - x.st) (Sort.grow (redrawn w1 d) os) k.ho (by omega) (by have := k.t0; omega)))
  have HF := hid (fun w => off_okm k w began hb0 hb1)
  have eB : decide (offI m x began) = true := decide_eq_true hi
  rw [eB] at HF
  have HJ := hid (fun w => judge_okm k f hf w)
  have HC := hid (fun w => M10.count_any x.t (verd m x f) w ⟨by have := verd_in m x f; omega, by have := verd_in m x f; omega⟩)
  unfold M10.RetT at HC
  generalize verd m x f = V at *
  have HN := hid (fun (K : Nat → Prop) (w1 : World) (h : Wk w1 K base g { x with vd := V, t := M10.cntT x.t V } m l) => note_any K base g { x with vd := V, t := M10.cntT x.t V } m l 6 f.f w1 h (by omega))
  have HL := hid (fun (K : Nat → Prop) (l : List Ac) (w1 : World) (h : Wk w1 K base g { x with vd := V, t := M10.cntT x.t V } m l) => late_w K base g { x with vd := V, t := M10.cntT x.t V } m l (offD m x began) w1 h k.hm.2.1)
  have e5 : (V == 3) = false := by simp [hV]
  have e6 : (V == 2) = true := by simp [hV]
  generalize M10.cntT x.t V = C at *
  generalize M10.cntE x.t V = CE at *
  unfold offD tkN at *
  clear h k hl hO hv hb0 hb1 hf hi eB hV
  generalize O6.tkO x.o (began - x.st) = tt at *
  generalize x.sl % m.n = O at *
  generalize tt - m.l = D at *
  go_enter Tryz.func49, Tryz.ntmps49
  go_wp2_with (first
    | (refine wpList_gbox 54 (encf f) rfl (.tmp 1) rfl rfl ?_; intro w1 v1 b1 s1))
  have hbs : w.heap.size < w1.heap.size := v1.lt (by show 0 < 4; omega)
  have W1 := hid (H.out.add (b := w.heap.size) b1 (Nat.le_refl _) hbs)
  have K1 := hid (H.out.keptb b1)
  have V1 := hid v1
  obtain ⟨K', hK'⟩ : ∃ K' : Nat → Prop, K' = (fun k => K k ∨ k = w.heap.size) := ⟨_, rfl⟩
  have hj : ∀ i, K i → K' i := by rw [hK']; exact fun _ h => .inl h
  have hb : K' w.heap.size := by rw [hK']; exact .inr rfl
  rw [← hK'] at W1
  clear hK' hbs b1 s1 v1
  generalize w.heap.size = b at *
  have c0 : Hid (w1.cell? ⟨g, 0, none⟩ = some (.int .i64 x.id)) := hid (W1.out.cell fun _ _ _ _ _ _ => rfl)
  have c13 : Hid (w1.cell? ⟨g, 13, none⟩ = some (.int .i64 x.vd)) := hid (W1.out.cell fun _ _ _ _ _ _ => rfl)
  have c3 : Hid (w1.cell? ⟨g, 3, none⟩ = some (.int .i64 x.st)) := hid (W1.out.cell fun _ _ _ _ _ _ => rfl)
  refine wp_region_quiet_below (by kernel_rfl) (by kernel_rfl) ?_
  repeat (first | go_big_quiet_skip | refine wpQuiet_gl1 3 rfl rfl rfl Tryz.isAgg3 c0.out ?_ | refine wpQuiet_gl1 3 rfl rfl rfl Tryz.isAgg3 c13.out ?_ | refine wpQuiet_gl1 2 rfl rfl rfl Tryz.isAgg2 c3.out ?_ | quiet_step (with_reducible exact T0.out K' w1 W1.out _ _))
  refine wpQuiet_nil ?_
  intro _ hw'
  obtain ⟨⟨dq, osq⟩, hw''⟩ := hw'
  subst hw''
  have W2 := hid (W1.out.below (below_regrown w1 dq osq))
  have K2 := hid (K1.out.trans ((W1.out.keptb (below_regrown w1 dq osq)).mono hj))
  have V2 : Hid (Var (Sort.grow (redrawn w1 dq) osq) b (encf f)) := hid (V1.out.below (below_regrown w1 dq osq) (V1.out.lt (by show 0 < 4; omega)))
  generalize Sort.grow (redrawn w1 dq) osq = w2 at *
  clear c0 c13 c3 T0 W1 K1 V1 H
  go_wp2_with fail
  have c3 : Hid (w2.cell? ⟨g, 3, none⟩ = some (.int .i64 x.st)) := hid (W2.out.cell fun _ _ _ _ _ _ => rfl)
  refine wp_region_quiet_below (by kernel_rfl) (by kernel_rfl) ?_
  repeat (first | refine wpQuiet_wo rfl rfl rfl W2.out ?_ | refine wpQuiet_gl1 2 rfl rfl rfl Tryz.isAgg2 c3.out ?_ | quiet_step (with_reducible exact T1.out w2 _ _))
  refine wpQuiet_nil ?_
  intro _ hw'
  obtain ⟨⟨dq, osq⟩, hw''⟩ := hw'
  subst hw''
  have W3 := hid (W2.out.below (below_regrown w2 dq osq))
  have K3 := hid (K2.out.trans ((W2.out.keptb (below_regrown w2 dq osq)).mono hj))
  have V3 : Hid (Var (Sort.grow (redrawn w2 dq) osq) b (encf f)) := hid (V2.out.below (below_regrown w2 dq osq) (V2.out.lt (by show 0 < 4; omega)))
  generalize Sort.grow (redrawn w2 dq) osq = w3 at *
  clear c3 T1 W2 K2 V2
  go_wp2_with (first
    | (go_at_call 94; (with_reducible refine (HF.out w3).mono ?_); rintro e w4 ⟨rfl, b4⟩; have W4 := hid (W3.out.below b4); have K4 := hid (K3.out.trans ((W3.out.keptb b4).mono hj)); have V4 : Hid (Var w4 b (encf f)) := hid (V3.out.below b4 (V3.out.lt (by show 0 < 4; omega))))
    | (refine wpList_lm _ rfl rfl W3.out.md rfl ?_))
  have Q4 := hid W4.out.drew
  have L4 := hid V4.out.drew
  have k4 := hid (K4.out.trans ((W4.out.keptb (Below.refl _ _).drew).mono hj))
  have S6 : SV K' base g x m l b f w4.drew := ⟨⟨_, Q4.out⟩, L4.out.1⟩
  clear W3 K3 V3 W4 K4 V4
  refine wp_region_held_drew (S := SV K' base g x m l b f) (by kernel_rfl) S6 (fun _ => ?_)
  refine tk 0 (some 68) (.pointer (some ⟨g, 0, none⟩)) rfl rfl (by kernel_rfl) (by kernel_rfl) (by kernel_rfl) (fun _ _ _ h => h) (.inl ⟨by rfl, fun _ _ => by go_simp⟩) S6 ?_
  simp only [Act.put, List.setIfInBounds_toArray, List.set_cons_zero, List.set_cons_succ]
  refine tk 1 (some 69) (.pointer (some ⟨g, 0, none⟩)) rfl rfl (by kernel_rfl) (by kernel_rfl) (by kernel_rfl) (fun _ _ _ h => h) (.inl ⟨by rfl, fun _ _ => by go_simp⟩) S6 ?_
  simp only [Act.put, List.setIfInBounds_toArray, List.set_cons_zero, List.set_cons_succ]
  refine tk 2 (some 70) (.pointer (some ⟨g, 0, none⟩)) rfl rfl (by kernel_rfl) (by kernel_rfl) (by kernel_rfl) (fun _ _ _ h => h) (.inl ⟨by rfl, fun _ _ => by go_simp⟩) S6 ?_
  simp only [Act.put, List.setIfInBounds_toArray, List.set_cons_zero, List.set_cons_succ]
  refine tk 3 (some 71) (.pointer (some ⟨g, 14, none⟩)) rfl rfl (by kernel_rfl) (by kernel_rfl) (by kernel_rfl) (fun _ _ _ h => h) (.inl ⟨by rfl, fun _ _ => by go_simp⟩) S6 ?_
  simp only [Act.put, List.setIfInBounds_toArray, List.set_cons_zero, List.set_cons_succ]
  refine tk 4 (some 72) (mv m) rfl rfl (by kernel_rfl) (by kernel_rfl) (by kernel_rfl) (fun _ _ _ h => h) (ylm rfl rfl (fun w h => h.md) rfl) S6 ?_
  simp only [Act.put, List.setIfInBounds_toArray, List.set_cons_zero, List.set_cons_succ]
  refine tk 5 (some 73) (.pointer (some ⟨g, 0, none⟩)) rfl rfl (by kernel_rfl) (by kernel_rfl) (by kernel_rfl) (fun _ _ _ h => h) (.inl ⟨by rfl, fun _ _ => by go_simp⟩) S6 ?_
  simp only [Act.put, List.setIfInBounds_toArray, List.set_cons_zero, List.set_cons_succ]
  refine tk 6 (some 74) (.pointer (some ⟨g, 0, none⟩)) rfl rfl (by kernel_rfl) (by kernel_rfl) (by kernel_rfl) (fun _ _ _ h => h) (.inl ⟨by rfl, fun _ _ => by go_simp⟩) S6 ?_
  simp only [Act.put, List.setIfInBounds_toArray, List.set_cons_zero, List.set_cons_succ]
  refine tk 7 (some 75) (.pointer (some ⟨g, 0, none⟩)) rfl rfl (by kernel_rfl) (by kernel_rfl) (by kernel_rfl) (fun _ _ _ h => h) (.inl ⟨by rfl, fun _ _ => by go_simp⟩) S6 ?_
  simp only [Act.put, List.setIfInBounds_toArray, List.set_cons_zero, List.set_cons_succ]
  refine tk 8 (some 76) (.pointer (some ⟨g, 0, none⟩)) rfl rfl (by kernel_rfl) (by kernel_rfl) (by kernel_rfl) (fun _ _ _ h => h) (.inl ⟨by rfl, fun _ _ => by go_simp⟩) S6 ?_
  simp only [Act.put, List.setIfInBounds_toArray, List.set_cons_zero, List.set_cons_succ]
  refine tk 9 (some 77) (.int .i64 x.id) rfl rfl (by kernel_rfl) (by kernel_rfl) (by kernel_rfl) (fun _ _ _ h => h) (yl1 3 (p := ⟨g, 0, none⟩) (v := .int .i64 x.id) rfl rfl Tryz.isAgg3 (fun w h => h.cell (j := 0) fun _ _ _ _ _ _ _ => rfl) rfl) S6 ?_
  simp only [Act.put, List.setIfInBounds_toArray, List.set_cons_zero, List.set_cons_succ]
  refine tk 10 (some 78) (.pointer (some ⟨g, 0, none⟩)) rfl rfl (by kernel_rfl) (by kernel_rfl) (by kernel_rfl) (fun _ _ _ h => h) (.inl ⟨by rfl, fun _ _ => by go_simp⟩) S6 ?_
  simp only [Act.put, List.setIfInBounds_toArray, List.set_cons_zero, List.set_cons_succ]
  refine tk 11 (some 79) (.pointer (some ⟨g, 0, none⟩)) rfl rfl (by kernel_rfl) (by kernel_rfl) (by kernel_rfl) (fun _ _ _ h => h) (.inl ⟨by rfl, fun _ _ => by go_simp⟩) S6 ?_
  simp only [Act.put, List.setIfInBounds_toArray, List.set_cons_zero, List.set_cons_succ]
  refine tk 12 (some 80) (.pointer (some ⟨g, 0, none⟩)) rfl rfl (by kernel_rfl) (by kernel_rfl) (by kernel_rfl) (fun _ _ _ h => h) (.inl ⟨by rfl, fun _ _ => by go_simp⟩) S6 ?_
  simp only [Act.put, List.setIfInBounds_toArray, List.set_cons_zero, List.set_cons_succ]
  refine tk 13 (some 81) (.pointer (some ⟨g, 8, none⟩)) rfl rfl (by kernel_rfl) (by kernel_rfl) (by kernel_rfl) (fun _ _ _ h => h) (.inl ⟨by rfl, fun _ _ => by go_simp⟩) S6 ?_
  simp only [Act.put, List.setIfInBounds_toArray, List.set_cons_zero, List.set_cons_succ]
  refine tk 14 (some 82) (.int .u16 (x.mb : Int)) rfl rfl (by kernel_rfl) (by kernel_rfl) (by kernel_rfl) (fun _ _ _ h => h) (yl1 27 (p := ⟨g, 8, none⟩) (v := .int .u16 (x.mb : Int)) rfl rfl Tryz.isAgg27 (fun w h => h.cell (j := 8) fun _ _ _ _ _ _ _ => rfl) rfl) S6 ?_
  simp only [Act.put, List.setIfInBounds_toArray, List.set_cons_zero, List.set_cons_succ]
  refine tk 15 (some 83) (.pointer (some ⟨g, 0, none⟩)) rfl rfl (by kernel_rfl) (by kernel_rfl) (by kernel_rfl) (fun _ _ _ h => h) (.inl ⟨by rfl, fun _ _ => by go_simp⟩) S6 ?_
  simp only [Act.put, List.setIfInBounds_toArray, List.set_cons_zero, List.set_cons_succ]
  refine tk 16 (some 84) (.pointer (some ⟨g, 0, none⟩)) rfl rfl (by kernel_rfl) (by kernel_rfl) (by kernel_rfl) (fun _ _ _ h => h) (.inl ⟨by rfl, fun _ _ => by go_simp⟩) S6 ?_
  simp only [Act.put, List.setIfInBounds_toArray, List.set_cons_zero, List.set_cons_succ]
  refine tk 17 (some 85) (.pointer (some ⟨g, 0, none⟩)) rfl rfl (by kernel_rfl) (by kernel_rfl) (by kernel_rfl) (fun _ _ _ h => h) (.inl ⟨by rfl, fun _ _ => by go_simp⟩) S6 ?_
  simp only [Act.put, List.setIfInBounds_toArray, List.set_cons_zero, List.set_cons_succ]
  refine tk 18 (some 86) (.pointer (some ⟨g, 2, none⟩)) rfl rfl (by kernel_rfl) (by kernel_rfl) (by kernel_rfl) (fun _ _ _ h => h) (.inl ⟨by rfl, fun _ _ => by go_simp⟩) S6 ?_
  simp only [Act.put, List.setIfInBounds_toArray, List.set_cons_zero, List.set_cons_succ]
  refine tk 19 (some 87) (.int .u64 x.sl) rfl rfl (by kernel_rfl) (by kernel_rfl) (by kernel_rfl) (fun _ _ _ h => h) (yl1 24 (p := ⟨g, 2, none⟩) (v := .int .u64 x.sl) rfl rfl Tryz.isAgg24 (fun w h => h.cell (j := 2) fun _ _ _ _ _ _ _ => rfl) rfl) S6 ?_
  simp only [Act.put, List.setIfInBounds_toArray, List.set_cons_zero, List.set_cons_succ]
  refine tk 20 (some 88) (fv f) rfl rfl (by kernel_rfl) (by kernel_rfl) (by kernel_rfl) (fun _ _ _ h => h) (ylf rfl rfl (fun w h => h.2) rfl) S6 ?_
  simp only [Act.put, List.setIfInBounds_toArray, List.set_cons_zero, List.set_cons_succ]
  refine rd_cl 21 (some 89) 95 #[mv m, .int .i64 x.id, .int .u16 (x.mb : Int), .int .u64 x.sl, fv f] _ (by kernel_rfl) rfl rfl (by unfold execOp; simp [go_sem] <;> rfl) (HJ.out _) rfl ?_
  intro w5 b5
  have Q5 := hid (Q4.out.below b5)
  have L5 : Hid (Var w5 b (encf f)) := hid (L4.out.below b5 (L4.out.lt (by show 0 < 4; omega)))
  have k5 := hid (Q4.out.keptb b5)
  have S7 : SV K' base g x m l b f w5 := ⟨⟨_, Q5.out⟩, L5.out.1⟩
  refine ⟨S7, ?_⟩
  simp only [Act.put, List.setIfInBounds_toArray, List.set_cons_zero, List.set_cons_succ]
  refine tk 22 (some 67) (.tuple #[.int .i64 V, .int .i64 0]) rfl rfl (by kernel_rfl) (by kernel_rfl) (by kernel_rfl) (fun _ _ _ h => h) (.inl ⟨by rfl, fun _ _ => by go_simp⟩) S7 ?_
  simp only [Act.put, List.setIfInBounds_toArray, List.set_cons_zero, List.set_cons_succ]
  refine tk 23 (some 90) (.int .i64 V) rfl rfl (by kernel_rfl) (by kernel_rfl) (by kernel_rfl) (fun _ _ _ h => h) (.inl ⟨by rfl, fun _ _ => by go_simp⟩) S7 ?_
  simp only [Act.put, List.setIfInBounds_toArray, List.set_cons_zero, List.set_cons_succ]
  refine tk 24 (some 91) (.int .i64 0) rfl rfl (by kernel_rfl) (by kernel_rfl) (by kernel_rfl) (fun _ _ _ h => h) (.inl ⟨by rfl, fun _ _ => by go_simp⟩) S7 ?_
  simp only [Act.put, List.setIfInBounds_toArray, List.set_cons_zero, List.set_cons_succ]
  refine tk 25 (some 92) (.pointer (some ⟨g, 0, none⟩)) rfl rfl (by kernel_rfl) (by kernel_rfl) (by kernel_rfl) (fun _ _ _ h => h) (.inl ⟨by rfl, fun _ _ => by go_simp⟩) S7 ?_
  simp only [Act.put, List.setIfInBounds_toArray, List.set_cons_zero, List.set_cons_succ]
  refine tk 26 (some 93) (.pointer (some ⟨g, 0, none⟩)) rfl rfl (by kernel_rfl) (by kernel_rfl) (by kernel_rfl) (fun _ _ _ h => h) (.inl ⟨by rfl, fun _ _ => by go_simp⟩) S7 ?_
  simp only [Act.put, List.setIfInBounds_toArray, List.set_cons_zero, List.set_cons_succ]
  refine tk 27 (some 94) (.pointer (some ⟨g, 13, none⟩)) rfl rfl (by kernel_rfl) (by kernel_rfl) (by kernel_rfl) (fun _ _ _ h => h) (.inl ⟨by rfl, fun _ _ => by go_simp⟩) S7 ?_
  simp only [Act.put, List.setIfInBounds_toArray, List.set_cons_zero, List.set_cons_succ]
  refine rd_ws1 { x with vd := V } 28 13 (.int .i64 V) 3 (by kernel_rfl) rfl rfl rfl rfl rfl Q5.out (by kernel_rfl) rfl rfl rfl (fun _ _ _ _ _ _ => rfl) (by omega) rfl ?_
  intro w6 Q6 k6
  refine ⟨⟨⟨_, Q6⟩, (L5.out.same (k6.block b hb)).1⟩, ?_⟩
  refine wpAnyH_done (by kernel_rfl) ?_ _
  have Q6 := hid Q6
  have L6 : Hid (Var w6 b (encf f)) := hid (L5.out.same (k6.block b hb))
  have K6 := hid (k4.out.trans ((k5.out.trans k6).mono hj))
  clear Q4 L4 k4 S6 S7 Q5 L5 k5 k6
  go_wp2_with fail
  have Q7 := hid Q6.out.drew
  have L7 := hid L6.out.drew
  have K7 := hid (K6.out.trans ((Q6.out.keptb (Below.refl _ _).drew).mono hj))
  have S8 : ST K' base g { x with vd := V } m l w6.drew := ⟨_, Q7.out⟩
  clear Q6 L6 K6
  refine wp_region_held_drew (S := ST K' base g { x with vd := V } m l) (by kernel_rfl) S8 (fun _ => ?_)
  refine tk 0 (some 96) (.pointer (some ⟨g, 0, none⟩)) rfl rfl (by kernel_rfl) (by kernel_rfl) (by kernel_rfl) (fun _ _ _ h => h) (.inl ⟨by rfl, fun _ _ => by go_simp⟩) S8 ?_
  simp only [Act.put, List.setIfInBounds_toArray, List.set_cons_zero, List.set_cons_succ]
  refine tk 1 (some 97) (.pointer (some ⟨g, 0, none⟩)) rfl rfl (by kernel_rfl) (by kernel_rfl) (by kernel_rfl) (fun _ _ _ h => h) (.inl ⟨by rfl, fun _ _ => by go_simp⟩) S8 ?_
  simp only [Act.put, List.setIfInBounds_toArray, List.set_cons_zero, List.set_cons_succ]
  refine tk 2 (some 98) (.pointer (some ⟨g, 0, none⟩)) rfl rfl (by kernel_rfl) (by kernel_rfl) (by kernel_rfl) (fun _ _ _ h => h) (.inl ⟨by rfl, fun _ _ => by go_simp⟩) S8 ?_
  simp only [Act.put, List.setIfInBounds_toArray, List.set_cons_zero, List.set_cons_succ]
  refine tk 3 (some 99) (.pointer (some ⟨g, 0, none⟩)) rfl rfl (by kernel_rfl) (by kernel_rfl) (by kernel_rfl) (fun _ _ _ h => h) (.inl ⟨by rfl, fun _ _ => by go_simp⟩) S8 ?_
  simp only [Act.put, List.setIfInBounds_toArray, List.set_cons_zero, List.set_cons_succ]
  refine tk 4 (some 100) (.pointer (some ⟨g, 9, none⟩)) rfl rfl (by kernel_rfl) (by kernel_rfl) (by kernel_rfl) (fun _ _ _ h => h) (.inl ⟨by rfl, fun _ _ => by go_simp⟩) S8 ?_
  simp only [Act.put, List.setIfInBounds_toArray, List.set_cons_zero, List.set_cons_succ]
  refine tk 6 (some 102) (.pointer (some ⟨g, 0, none⟩)) rfl rfl (by kernel_rfl) (by kernel_rfl) (by kernel_rfl) (fun _ _ _ h => h) (.inl ⟨by rfl, fun _ _ => by go_simp⟩) S8 ?_
  simp only [Act.put, List.setIfInBounds_toArray, List.set_cons_zero, List.set_cons_succ]
  refine tk 7 (some 103) (.pointer (some ⟨g, 0, none⟩)) rfl rfl (by kernel_rfl) (by kernel_rfl) (by kernel_rfl) (fun _ _ _ h => h) (.inl ⟨by rfl, fun _ _ => by go_simp⟩) S8 ?_
  simp only [Act.put, List.setIfInBounds_toArray, List.set_cons_zero, List.set_cons_succ]
  refine tk 8 (some 104) (.pointer (some ⟨g, 0, none⟩)) rfl rfl (by kernel_rfl) (by kernel_rfl) (by kernel_rfl) (fun _ _ _ h => h) (.inl ⟨by rfl, fun _ _ => by go_simp⟩) S8 ?_
  simp only [Act.put, List.setIfInBounds_toArray, List.set_cons_zero, List.set_cons_succ]
  refine tk 9 (some 105) (.pointer (some ⟨g, 13, none⟩)) rfl rfl (by kernel_rfl) (by kernel_rfl) (by kernel_rfl) (fun _ _ _ h => h) (.inl ⟨by rfl, fun _ _ => by go_simp⟩) S8 ?_
  simp only [Act.put, List.setIfInBounds_toArray, List.set_cons_zero, List.set_cons_succ]
  refine tk 10 (some 106) (.int .i64 V) rfl rfl (by kernel_rfl) (by kernel_rfl) (by kernel_rfl) (fun _ _ _ h => h) (yl1 3 (p := ⟨g, 13, none⟩) (v := .int .i64 V) rfl rfl Tryz.isAgg3 (fun w h => h.cell (j := 13) fun _ _ _ _ _ _ _ => rfl) rfl) S8 ?_
  simp only [Act.put, List.setIfInBounds_toArray, List.set_cons_zero, List.set_cons_succ]
  refine rd_ls 5 (some 101) 29 (enct x.t) (by kernel_rfl) rfl rfl rfl rfl Q7.out.ty Tryz.underlying29 rfl (by rw [size29]; rfl) rfl S8 ?_
  simp only [Act.put, List.setIfInBounds_toArray, List.set_cons_zero, List.set_cons_succ]
  refine rd_cl 11 (some 107) 96 #[tv x.t, .int .i64 V] _ (by kernel_rfl) rfl rfl (by unfold execOp; simp [go_sem] <;> rfl) (HC.out _) rfl ?_
  intro w8 b8
  have Q8 := hid (Q7.out.below b8)
  have k8 := hid (Q7.out.keptb b8)
  have S9 : ST K' base g { x with vd := V } m l w8 := ⟨_, Q8.out⟩
  refine ⟨S9, ?_⟩
  simp only [Act.put, List.setIfInBounds_toArray, List.set_cons_zero, List.set_cons_succ]
  refine tk 12 (some 95) (.tuple #[tv C, .int .i64 CE]) rfl rfl (by kernel_rfl) (by kernel_rfl) (by kernel_rfl) (fun _ _ _ h => h) (.inl ⟨by rfl, fun _ _ => by go_simp⟩) S9 ?_
  simp only [Act.put, List.setIfInBounds_toArray, List.set_cons_zero, List.set_cons_succ]
  refine tk 13 (some 108) (tv C) rfl rfl (by kernel_rfl) (by kernel_rfl) (by kernel_rfl) (fun _ _ _ h => h) (.inl ⟨by rfl, fun _ _ => by go_simp⟩) S9 ?_
  simp only [Act.put, List.setIfInBounds_toArray, List.set_cons_zero, List.set_cons_succ]
  refine tk 14 (some 109) (.int .i64 CE) rfl rfl (by kernel_rfl) (by kernel_rfl) (by kernel_rfl) (fun _ _ _ h => h) (.inl ⟨by rfl, fun _ _ => by go_simp⟩) S9 ?_
  simp only [Act.put, List.setIfInBounds_toArray, List.set_cons_zero, List.set_cons_succ]
  refine tk 15 (some 110) (.pointer (some ⟨g, 0, none⟩)) rfl rfl (by kernel_rfl) (by kernel_rfl) (by kernel_rfl) (fun _ _ _ h => h) (.inl ⟨by rfl, fun _ _ => by go_simp⟩) S9 ?_
  simp only [Act.put, List.setIfInBounds_toArray, List.set_cons_zero, List.set_cons_succ]
  refine tk 16 (some 111) (.pointer (some ⟨g, 0, none⟩)) rfl rfl (by kernel_rfl) (by kernel_rfl) (by kernel_rfl) (fun _ _ _ h => h) (.inl ⟨by rfl, fun _ _ => by go_simp⟩) S9 ?_
  simp only [Act.put, List.setIfInBounds_toArray, List.set_cons_zero, List.set_cons_succ]
  refine tk 17 (some 112) (.pointer (some ⟨g, 9, none⟩)) rfl rfl (by kernel_rfl) (by kernel_rfl) (by kernel_rfl) (fun _ _ _ h => h) (.inl ⟨by rfl, fun _ _ => by go_simp⟩) S9 ?_
  simp only [Act.put, List.setIfInBounds_toArray, List.set_cons_zero, List.set_cons_succ]
  refine rd_wsn { x with vd := V, t := C } 18 9 (enct C) 29 (by kernel_rfl) rfl rfl rfl rfl rfl Q8.out (by rw [size29]; rfl) (M10.enct_one _) rfl (fun _ _ _ _ _ _ => rfl) (by show 9 + 2 ≤ 20; omega) rfl ?_
  intro w9 Q9 k9
  refine ⟨⟨_, Q9⟩, ?_⟩
  refine wpAnyH_done (by kernel_rfl) ?_ _
  have Q9 := hid Q9
  have L9 : Hid (Var w9 b (encf f)) := hid ((L7.out.below b8 (L7.out.lt (by show 0 < 4; omega))).same (k9.block b hb))
  have K9 := hid (K7.out.trans ((k8.out.trans k9).mono hj))
  have d13 : w9.cell? ⟨g, 13, none⟩ = some (.int .i64 V) := Q9.out.cell fun _ _ _ _ _ _ => rfl
  have d1 : w9.cell? ⟨b, 1, none⟩ = some (.int .i64 f.f) := L9.out.cell rfl
  clear Q7 L7 K7 S8 S9 Q8 b8 k8 k9
  go_wp2_with (first
    | (go_at_call 97; (with_reducible refine (HL.out K' _ w10 W10.out).mono ?_); rintro e w11 ⟨rfl, W11, k11⟩; have W11 := hid W11; have K11 := hid (K10.out.trans (k11.mono hj)))
    | (go_at_call 72; (with_reducible refine (HN.out K' w9 Q9.out).mono ?_); rintro e w10 ⟨rfl, W10, k10⟩; have W10 := hid W10; have K10 := hid (K9.out.trans (k10.mono hj))))
  first | go_end0 | refine bodyPost_ret (results_none rfl _ _ _) rfl ?_
  exact ⟨rfl, W11.out.mono hj, K11.out⟩
set_option maxRecDepth 100000 in
set_option maxHeartbeats 2000000 in
theorem judge_good (K : Nat → Prop) (base g : Nat) (x : Nd) (m : Md) (l : List Ac) (f : Fr) (began : Int) (w : World) (h : Wk w K base g x m l) (_hl : l.length ≤ 900) (k : NdOk m x) (hO : ¬ x.sl % m.n = x.id) (hv : x.vd = 0) (hb0 : x.st ≤ began) (hb1 : began ≤ 1152921504606846976) (hf : M10.OkF f) (hi : offI m x began) (hV : ¬ verd m x f = 3 ∧ ¬ verd m x f = 2) :
    Calls Tryz.prog 49 #[.pointer (some ⟨g, 0, none⟩), fv f, .int .i64 began] w (RetW K base g { x with vd := verd m x f, t := M10.cntT x.t (verd m x f), dv := lateL m x.dv (offD m x began) } m l (.tuple #[]) w) := by
  have H := hid h
  have T0 := hid (fun (K : Nat → Prop) (w1 : World) (h : Wk w1 K base g x m l) (d : Nat) (os : Array Obj) => Calls.regrown_of (d := d) (os := os) (owner_w K base g x m l (Sort.grow (redrawn w1 d) os) (h.below (below_regrown w1 d os)) k.hm k.s0 k.s1))
  have e1 : (x.sl % m.n == x.id) = false := by simp [hO]
  have e2 : (x.vd != 0) = false := by simp [hv]
  have e3 : decide (began < x.st) = false := by simp; omega
  have eN : IntKind.i64.wrap (began - x.st) = began - x.st := by rw [IntKind.wrap_i64]; have := k.t0; omega
  have T1 := hid (fun (w1 : World) (d : Nat) (os : Array Obj) => Calls.regrown_of (d := d) (os := os) (O6.ticks_ok x.o (began - x.st) (Sort.grow (redrawn w1 d) os) k.ho (by omega) (by have := k.t0; omega)))
  have HF := hid (fun w => off_okm k w began hb0 hb1)
  have eB : decide (offI m x began) = true := decide_eq_true hi
  rw [eB] at HF
  have HJ := hid (fun w => judge_okm k f hf w)
  have HC := hid (fun w => M10.count_any x.t (verd m x f) w ⟨by have := verd_in m x f; omega, by have := verd_in m x f; omega⟩)
  unfold M10.RetT at HC
  generalize verd m x f = V at *
  have HL := hid (fun (K : Nat → Prop) (l : List Ac) (w1 : World) (h : Wk w1 K base g { x with vd := V, t := M10.cntT x.t V } m l) => late_w K base g { x with vd := V, t := M10.cntT x.t V } m l (offD m x began) w1 h k.hm.2.1)
  have e5 : (V == 3) = false := by simp [hV.1]
  have e6 : (V == 2) = false := by simp [hV.2]
  generalize M10.cntT x.t V = C at *
  generalize M10.cntE x.t V = CE at *
  unfold offD tkN at *
  clear h k _hl hO hv hb0 hb1 hf hi eB hV
  generalize O6.tkO x.o (began - x.st) = tt at *
  generalize x.sl % m.n = O at *
  generalize tt - m.l = D at *
  go_enter Tryz.func49, Tryz.ntmps49
  go_wp2_with (first
    | (refine wpList_gbox 54 (encf f) rfl (.tmp 1) rfl rfl ?_; intro w1 v1 b1 s1))
  have hbs : w.heap.size < w1.heap.size := v1.lt (by show 0 < 4; omega)
  have W1 := hid (H.out.add (b := w.heap.size) b1 (Nat.le_refl _) hbs)
  have K1 := hid (H.out.keptb b1)
  have V1 := hid v1
  obtain ⟨K', hK'⟩ : ∃ K' : Nat → Prop, K' = (fun k => K k ∨ k = w.heap.size) := ⟨_, rfl⟩
  have hj : ∀ i, K i → K' i := by rw [hK']; exact fun _ h => .inl h
  have hb : K' w.heap.size := by rw [hK']; exact .inr rfl
  rw [← hK'] at W1
  clear hK' hbs b1 s1 v1
  generalize w.heap.size = b at *
  have c0 : Hid (w1.cell? ⟨g, 0, none⟩ = some (.int .i64 x.id)) := hid (W1.out.cell fun _ _ _ _ _ _ => rfl)
  have c13 : Hid (w1.cell? ⟨g, 13, none⟩ = some (.int .i64 x.vd)) := hid (W1.out.cell fun _ _ _ _ _ _ => rfl)
  have c3 : Hid (w1.cell? ⟨g, 3, none⟩ = some (.int .i64 x.st)) := hid (W1.out.cell fun _ _ _ _ _ _ => rfl)
  refine wp_region_quiet_below (by kernel_rfl) (by kernel_rfl) ?_
  repeat (first | go_big_quiet_skip | refine wpQuiet_gl1 3 rfl rfl rfl Tryz.isAgg3 c0.out ?_ | refine wpQuiet_gl1 3 rfl rfl rfl Tryz.isAgg3 c13.out ?_ | refine wpQuiet_gl1 2 rfl rfl rfl Tryz.isAgg2 c3.out ?_ | quiet_step (with_reducible exact T0.out K' w1 W1.out _ _))
  refine wpQuiet_nil ?_
  intro _ hw'
  obtain ⟨⟨dq, osq⟩, hw''⟩ := hw'
  subst hw''
  have W2 := hid (W1.out.below (below_regrown w1 dq osq))
  have K2 := hid (K1.out.trans ((W1.out.keptb (below_regrown w1 dq osq)).mono hj))
  have V2 : Hid (Var (Sort.grow (redrawn w1 dq) osq) b (encf f)) := hid (V1.out.below (below_regrown w1 dq osq) (V1.out.lt (by show 0 < 4; omega)))
  generalize Sort.grow (redrawn w1 dq) osq = w2 at *
  clear c0 c13 c3 T0 W1 K1 V1 H
  go_wp2_with fail
  have c3 : Hid (w2.cell? ⟨g, 3, none⟩ = some (.int .i64 x.st)) := hid (W2.out.cell fun _ _ _ _ _ _ => rfl)
  refine wp_region_quiet_below (by kernel_rfl) (by kernel_rfl) ?_
  repeat (first | refine wpQuiet_wo rfl rfl rfl W2.out ?_ | refine wpQuiet_gl1 2 rfl rfl rfl Tryz.isAgg2 c3.out ?_ | quiet_step (with_reducible exact T1.out w2 _ _))
  refine wpQuiet_nil ?_
  intro _ hw'
  obtain ⟨⟨dq, osq⟩, hw''⟩ := hw'
  subst hw''
  have W3 := hid (W2.out.below (below_regrown w2 dq osq))
  have K3 := hid (K2.out.trans ((W2.out.keptb (below_regrown w2 dq osq)).mono hj))
  have V3 : Hid (Var (Sort.grow (redrawn w2 dq) osq) b (encf f)) := hid (V2.out.below (below_regrown w2 dq osq) (V2.out.lt (by show 0 < 4; omega)))
  generalize Sort.grow (redrawn w2 dq) osq = w3 at *
  clear c3 T1 W2 K2 V2
  go_wp2_with (first
    | (go_at_call 94; (with_reducible refine (HF.out w3).mono ?_); rintro e w4 ⟨rfl, b4⟩; have W4 := hid (W3.out.below b4); have K4 := hid (K3.out.trans ((W3.out.keptb b4).mono hj)); have V4 : Hid (Var w4 b (encf f)) := hid (V3.out.below b4 (V3.out.lt (by show 0 < 4; omega))))
    | (refine wpList_lm _ rfl rfl W3.out.md rfl ?_))
  have Q4 := hid W4.out.drew
  have L4 := hid V4.out.drew
  have k4 := hid (K4.out.trans ((W4.out.keptb (Below.refl _ _).drew).mono hj))
  have S6 : SV K' base g x m l b f w4.drew := ⟨⟨_, Q4.out⟩, L4.out.1⟩
  clear W3 K3 V3 W4 K4 V4
  refine wp_region_held_drew (S := SV K' base g x m l b f) (by kernel_rfl) S6 (fun _ => ?_)
  refine tk 0 (some 68) (.pointer (some ⟨g, 0, none⟩)) rfl rfl (by kernel_rfl) (by kernel_rfl) (by kernel_rfl) (fun _ _ _ h => h) (.inl ⟨by rfl, fun _ _ => by go_simp⟩) S6 ?_
  simp only [Act.put, List.setIfInBounds_toArray, List.set_cons_zero, List.set_cons_succ]
  refine tk 1 (some 69) (.pointer (some ⟨g, 0, none⟩)) rfl rfl (by kernel_rfl) (by kernel_rfl) (by kernel_rfl) (fun _ _ _ h => h) (.inl ⟨by rfl, fun _ _ => by go_simp⟩) S6 ?_
  simp only [Act.put, List.setIfInBounds_toArray, List.set_cons_zero, List.set_cons_succ]
  refine tk 2 (some 70) (.pointer (some ⟨g, 0, none⟩)) rfl rfl (by kernel_rfl) (by kernel_rfl) (by kernel_rfl) (fun _ _ _ h => h) (.inl ⟨by rfl, fun _ _ => by go_simp⟩) S6 ?_
  simp only [Act.put, List.setIfInBounds_toArray, List.set_cons_zero, List.set_cons_succ]
  refine tk 3 (some 71) (.pointer (some ⟨g, 14, none⟩)) rfl rfl (by kernel_rfl) (by kernel_rfl) (by kernel_rfl) (fun _ _ _ h => h) (.inl ⟨by rfl, fun _ _ => by go_simp⟩) S6 ?_
  simp only [Act.put, List.setIfInBounds_toArray, List.set_cons_zero, List.set_cons_succ]
  refine tk 4 (some 72) (mv m) rfl rfl (by kernel_rfl) (by kernel_rfl) (by kernel_rfl) (fun _ _ _ h => h) (ylm rfl rfl (fun w h => h.md) rfl) S6 ?_
  simp only [Act.put, List.setIfInBounds_toArray, List.set_cons_zero, List.set_cons_succ]
  refine tk 5 (some 73) (.pointer (some ⟨g, 0, none⟩)) rfl rfl (by kernel_rfl) (by kernel_rfl) (by kernel_rfl) (fun _ _ _ h => h) (.inl ⟨by rfl, fun _ _ => by go_simp⟩) S6 ?_
  simp only [Act.put, List.setIfInBounds_toArray, List.set_cons_zero, List.set_cons_succ]
  refine tk 6 (some 74) (.pointer (some ⟨g, 0, none⟩)) rfl rfl (by kernel_rfl) (by kernel_rfl) (by kernel_rfl) (fun _ _ _ h => h) (.inl ⟨by rfl, fun _ _ => by go_simp⟩) S6 ?_
  simp only [Act.put, List.setIfInBounds_toArray, List.set_cons_zero, List.set_cons_succ]
  refine tk 7 (some 75) (.pointer (some ⟨g, 0, none⟩)) rfl rfl (by kernel_rfl) (by kernel_rfl) (by kernel_rfl) (fun _ _ _ h => h) (.inl ⟨by rfl, fun _ _ => by go_simp⟩) S6 ?_
  simp only [Act.put, List.setIfInBounds_toArray, List.set_cons_zero, List.set_cons_succ]
  refine tk 8 (some 76) (.pointer (some ⟨g, 0, none⟩)) rfl rfl (by kernel_rfl) (by kernel_rfl) (by kernel_rfl) (fun _ _ _ h => h) (.inl ⟨by rfl, fun _ _ => by go_simp⟩) S6 ?_
  simp only [Act.put, List.setIfInBounds_toArray, List.set_cons_zero, List.set_cons_succ]
  refine tk 9 (some 77) (.int .i64 x.id) rfl rfl (by kernel_rfl) (by kernel_rfl) (by kernel_rfl) (fun _ _ _ h => h) (yl1 3 (p := ⟨g, 0, none⟩) (v := .int .i64 x.id) rfl rfl Tryz.isAgg3 (fun w h => h.cell (j := 0) fun _ _ _ _ _ _ _ => rfl) rfl) S6 ?_
  simp only [Act.put, List.setIfInBounds_toArray, List.set_cons_zero, List.set_cons_succ]
  refine tk 10 (some 78) (.pointer (some ⟨g, 0, none⟩)) rfl rfl (by kernel_rfl) (by kernel_rfl) (by kernel_rfl) (fun _ _ _ h => h) (.inl ⟨by rfl, fun _ _ => by go_simp⟩) S6 ?_
  simp only [Act.put, List.setIfInBounds_toArray, List.set_cons_zero, List.set_cons_succ]
  refine tk 11 (some 79) (.pointer (some ⟨g, 0, none⟩)) rfl rfl (by kernel_rfl) (by kernel_rfl) (by kernel_rfl) (fun _ _ _ h => h) (.inl ⟨by rfl, fun _ _ => by go_simp⟩) S6 ?_
  simp only [Act.put, List.setIfInBounds_toArray, List.set_cons_zero, List.set_cons_succ]
  refine tk 12 (some 80) (.pointer (some ⟨g, 0, none⟩)) rfl rfl (by kernel_rfl) (by kernel_rfl) (by kernel_rfl) (fun _ _ _ h => h) (.inl ⟨by rfl, fun _ _ => by go_simp⟩) S6 ?_
  simp only [Act.put, List.setIfInBounds_toArray, List.set_cons_zero, List.set_cons_succ]
  refine tk 13 (some 81) (.pointer (some ⟨g, 8, none⟩)) rfl rfl (by kernel_rfl) (by kernel_rfl) (by kernel_rfl) (fun _ _ _ h => h) (.inl ⟨by rfl, fun _ _ => by go_simp⟩) S6 ?_
  simp only [Act.put, List.setIfInBounds_toArray, List.set_cons_zero, List.set_cons_succ]
  refine tk 14 (some 82) (.int .u16 (x.mb : Int)) rfl rfl (by kernel_rfl) (by kernel_rfl) (by kernel_rfl) (fun _ _ _ h => h) (yl1 27 (p := ⟨g, 8, none⟩) (v := .int .u16 (x.mb : Int)) rfl rfl Tryz.isAgg27 (fun w h => h.cell (j := 8) fun _ _ _ _ _ _ _ => rfl) rfl) S6 ?_
  simp only [Act.put, List.setIfInBounds_toArray, List.set_cons_zero, List.set_cons_succ]
  refine tk 15 (some 83) (.pointer (some ⟨g, 0, none⟩)) rfl rfl (by kernel_rfl) (by kernel_rfl) (by kernel_rfl) (fun _ _ _ h => h) (.inl ⟨by rfl, fun _ _ => by go_simp⟩) S6 ?_
  simp only [Act.put, List.setIfInBounds_toArray, List.set_cons_zero, List.set_cons_succ]
  refine tk 16 (some 84) (.pointer (some ⟨g, 0, none⟩)) rfl rfl (by kernel_rfl) (by kernel_rfl) (by kernel_rfl) (fun _ _ _ h => h) (.inl ⟨by rfl, fun _ _ => by go_simp⟩) S6 ?_
  simp only [Act.put, List.setIfInBounds_toArray, List.set_cons_zero, List.set_cons_succ]
  refine tk 17 (some 85) (.pointer (some ⟨g, 0, none⟩)) rfl rfl (by kernel_rfl) (by kernel_rfl) (by kernel_rfl) (fun _ _ _ h => h) (.inl ⟨by rfl, fun _ _ => by go_simp⟩) S6 ?_
  simp only [Act.put, List.setIfInBounds_toArray, List.set_cons_zero, List.set_cons_succ]
  refine tk 18 (some 86) (.pointer (some ⟨g, 2, none⟩)) rfl rfl (by kernel_rfl) (by kernel_rfl) (by kernel_rfl) (fun _ _ _ h => h) (.inl ⟨by rfl, fun _ _ => by go_simp⟩) S6 ?_
  simp only [Act.put, List.setIfInBounds_toArray, List.set_cons_zero, List.set_cons_succ]
  refine tk 19 (some 87) (.int .u64 x.sl) rfl rfl (by kernel_rfl) (by kernel_rfl) (by kernel_rfl) (fun _ _ _ h => h) (yl1 24 (p := ⟨g, 2, none⟩) (v := .int .u64 x.sl) rfl rfl Tryz.isAgg24 (fun w h => h.cell (j := 2) fun _ _ _ _ _ _ _ => rfl) rfl) S6 ?_
  simp only [Act.put, List.setIfInBounds_toArray, List.set_cons_zero, List.set_cons_succ]
  refine tk 20 (some 88) (fv f) rfl rfl (by kernel_rfl) (by kernel_rfl) (by kernel_rfl) (fun _ _ _ h => h) (ylf rfl rfl (fun w h => h.2) rfl) S6 ?_
  simp only [Act.put, List.setIfInBounds_toArray, List.set_cons_zero, List.set_cons_succ]
  refine rd_cl 21 (some 89) 95 #[mv m, .int .i64 x.id, .int .u16 (x.mb : Int), .int .u64 x.sl, fv f] _ (by kernel_rfl) rfl rfl (by unfold execOp; simp [go_sem] <;> rfl) (HJ.out _) rfl ?_
  intro w5 b5
  have Q5 := hid (Q4.out.below b5)
  have L5 : Hid (Var w5 b (encf f)) := hid (L4.out.below b5 (L4.out.lt (by show 0 < 4; omega)))
  have k5 := hid (Q4.out.keptb b5)
  have S7 : SV K' base g x m l b f w5 := ⟨⟨_, Q5.out⟩, L5.out.1⟩
  refine ⟨S7, ?_⟩
  simp only [Act.put, List.setIfInBounds_toArray, List.set_cons_zero, List.set_cons_succ]
  refine tk 22 (some 67) (.tuple #[.int .i64 V, .int .i64 0]) rfl rfl (by kernel_rfl) (by kernel_rfl) (by kernel_rfl) (fun _ _ _ h => h) (.inl ⟨by rfl, fun _ _ => by go_simp⟩) S7 ?_
  simp only [Act.put, List.setIfInBounds_toArray, List.set_cons_zero, List.set_cons_succ]
  refine tk 23 (some 90) (.int .i64 V) rfl rfl (by kernel_rfl) (by kernel_rfl) (by kernel_rfl) (fun _ _ _ h => h) (.inl ⟨by rfl, fun _ _ => by go_simp⟩) S7 ?_
  simp only [Act.put, List.setIfInBounds_toArray, List.set_cons_zero, List.set_cons_succ]
  refine tk 24 (some 91) (.int .i64 0) rfl rfl (by kernel_rfl) (by kernel_rfl) (by kernel_rfl) (fun _ _ _ h => h) (.inl ⟨by rfl, fun _ _ => by go_simp⟩) S7 ?_
  simp only [Act.put, List.setIfInBounds_toArray, List.set_cons_zero, List.set_cons_succ]
  refine tk 25 (some 92) (.pointer (some ⟨g, 0, none⟩)) rfl rfl (by kernel_rfl) (by kernel_rfl) (by kernel_rfl) (fun _ _ _ h => h) (.inl ⟨by rfl, fun _ _ => by go_simp⟩) S7 ?_
  simp only [Act.put, List.setIfInBounds_toArray, List.set_cons_zero, List.set_cons_succ]
  refine tk 26 (some 93) (.pointer (some ⟨g, 0, none⟩)) rfl rfl (by kernel_rfl) (by kernel_rfl) (by kernel_rfl) (fun _ _ _ h => h) (.inl ⟨by rfl, fun _ _ => by go_simp⟩) S7 ?_
  simp only [Act.put, List.setIfInBounds_toArray, List.set_cons_zero, List.set_cons_succ]
  refine tk 27 (some 94) (.pointer (some ⟨g, 13, none⟩)) rfl rfl (by kernel_rfl) (by kernel_rfl) (by kernel_rfl) (fun _ _ _ h => h) (.inl ⟨by rfl, fun _ _ => by go_simp⟩) S7 ?_
  simp only [Act.put, List.setIfInBounds_toArray, List.set_cons_zero, List.set_cons_succ]
  refine rd_ws1 { x with vd := V } 28 13 (.int .i64 V) 3 (by kernel_rfl) rfl rfl rfl rfl rfl Q5.out (by kernel_rfl) rfl rfl rfl (fun _ _ _ _ _ _ => rfl) (by omega) rfl ?_
  intro w6 Q6 k6
  refine ⟨⟨⟨_, Q6⟩, (L5.out.same (k6.block b hb)).1⟩, ?_⟩
  refine wpAnyH_done (by kernel_rfl) ?_ _
  have Q6 := hid Q6
  have L6 : Hid (Var w6 b (encf f)) := hid (L5.out.same (k6.block b hb))
  have K6 := hid (k4.out.trans ((k5.out.trans k6).mono hj))
  clear Q4 L4 k4 S6 S7 Q5 L5 k5 k6
  go_wp2_with fail
  have Q7 := hid Q6.out.drew
  have L7 := hid L6.out.drew
  have K7 := hid (K6.out.trans ((Q6.out.keptb (Below.refl _ _).drew).mono hj))
  have S8 : ST K' base g { x with vd := V } m l w6.drew := ⟨_, Q7.out⟩
  clear Q6 L6 K6
  refine wp_region_held_drew (S := ST K' base g { x with vd := V } m l) (by kernel_rfl) S8 (fun _ => ?_)
  refine tk 0 (some 96) (.pointer (some ⟨g, 0, none⟩)) rfl rfl (by kernel_rfl) (by kernel_rfl) (by kernel_rfl) (fun _ _ _ h => h) (.inl ⟨by rfl, fun _ _ => by go_simp⟩) S8 ?_
  simp only [Act.put, List.setIfInBounds_toArray, List.set_cons_zero, List.set_cons_succ]
  refine tk 1 (some 97) (.pointer (some ⟨g, 0, none⟩)) rfl rfl (by kernel_rfl) (by kernel_rfl) (by kernel_rfl) (fun _ _ _ h => h) (.inl ⟨by rfl, fun _ _ => by go_simp⟩) S8 ?_
  simp only [Act.put, List.setIfInBounds_toArray, List.set_cons_zero, List.set_cons_succ]
  refine tk 2 (some 98) (.pointer (some ⟨g, 0, none⟩)) rfl rfl (by kernel_rfl) (by kernel_rfl) (by kernel_rfl) (fun _ _ _ h => h) (.inl ⟨by rfl, fun _ _ => by go_simp⟩) S8 ?_
  simp only [Act.put, List.setIfInBounds_toArray, List.set_cons_zero, List.set_cons_succ]
  refine tk 3 (some 99) (.pointer (some ⟨g, 0, none⟩)) rfl rfl (by kernel_rfl) (by kernel_rfl) (by kernel_rfl) (fun _ _ _ h => h) (.inl ⟨by rfl, fun _ _ => by go_simp⟩) S8 ?_
  simp only [Act.put, List.setIfInBounds_toArray, List.set_cons_zero, List.set_cons_succ]
  refine tk 4 (some 100) (.pointer (some ⟨g, 9, none⟩)) rfl rfl (by kernel_rfl) (by kernel_rfl) (by kernel_rfl) (fun _ _ _ h => h) (.inl ⟨by rfl, fun _ _ => by go_simp⟩) S8 ?_
  simp only [Act.put, List.setIfInBounds_toArray, List.set_cons_zero, List.set_cons_succ]
  refine tk 6 (some 102) (.pointer (some ⟨g, 0, none⟩)) rfl rfl (by kernel_rfl) (by kernel_rfl) (by kernel_rfl) (fun _ _ _ h => h) (.inl ⟨by rfl, fun _ _ => by go_simp⟩) S8 ?_
  simp only [Act.put, List.setIfInBounds_toArray, List.set_cons_zero, List.set_cons_succ]
  refine tk 7 (some 103) (.pointer (some ⟨g, 0, none⟩)) rfl rfl (by kernel_rfl) (by kernel_rfl) (by kernel_rfl) (fun _ _ _ h => h) (.inl ⟨by rfl, fun _ _ => by go_simp⟩) S8 ?_
  simp only [Act.put, List.setIfInBounds_toArray, List.set_cons_zero, List.set_cons_succ]
  refine tk 8 (some 104) (.pointer (some ⟨g, 0, none⟩)) rfl rfl (by kernel_rfl) (by kernel_rfl) (by kernel_rfl) (fun _ _ _ h => h) (.inl ⟨by rfl, fun _ _ => by go_simp⟩) S8 ?_
  simp only [Act.put, List.setIfInBounds_toArray, List.set_cons_zero, List.set_cons_succ]
  refine tk 9 (some 105) (.pointer (some ⟨g, 13, none⟩)) rfl rfl (by kernel_rfl) (by kernel_rfl) (by kernel_rfl) (fun _ _ _ h => h) (.inl ⟨by rfl, fun _ _ => by go_simp⟩) S8 ?_
  simp only [Act.put, List.setIfInBounds_toArray, List.set_cons_zero, List.set_cons_succ]
  refine tk 10 (some 106) (.int .i64 V) rfl rfl (by kernel_rfl) (by kernel_rfl) (by kernel_rfl) (fun _ _ _ h => h) (yl1 3 (p := ⟨g, 13, none⟩) (v := .int .i64 V) rfl rfl Tryz.isAgg3 (fun w h => h.cell (j := 13) fun _ _ _ _ _ _ _ => rfl) rfl) S8 ?_
  simp only [Act.put, List.setIfInBounds_toArray, List.set_cons_zero, List.set_cons_succ]
  refine rd_ls 5 (some 101) 29 (enct x.t) (by kernel_rfl) rfl rfl rfl rfl Q7.out.ty Tryz.underlying29 rfl (by rw [size29]; rfl) rfl S8 ?_
  simp only [Act.put, List.setIfInBounds_toArray, List.set_cons_zero, List.set_cons_succ]
  refine rd_cl 11 (some 107) 96 #[tv x.t, .int .i64 V] _ (by kernel_rfl) rfl rfl (by unfold execOp; simp [go_sem] <;> rfl) (HC.out _) rfl ?_
  intro w8 b8
  have Q8 := hid (Q7.out.below b8)
  have k8 := hid (Q7.out.keptb b8)
  have S9 : ST K' base g { x with vd := V } m l w8 := ⟨_, Q8.out⟩
  refine ⟨S9, ?_⟩
  simp only [Act.put, List.setIfInBounds_toArray, List.set_cons_zero, List.set_cons_succ]
  refine tk 12 (some 95) (.tuple #[tv C, .int .i64 CE]) rfl rfl (by kernel_rfl) (by kernel_rfl) (by kernel_rfl) (fun _ _ _ h => h) (.inl ⟨by rfl, fun _ _ => by go_simp⟩) S9 ?_
  simp only [Act.put, List.setIfInBounds_toArray, List.set_cons_zero, List.set_cons_succ]
  refine tk 13 (some 108) (tv C) rfl rfl (by kernel_rfl) (by kernel_rfl) (by kernel_rfl) (fun _ _ _ h => h) (.inl ⟨by rfl, fun _ _ => by go_simp⟩) S9 ?_
  simp only [Act.put, List.setIfInBounds_toArray, List.set_cons_zero, List.set_cons_succ]
  refine tk 14 (some 109) (.int .i64 CE) rfl rfl (by kernel_rfl) (by kernel_rfl) (by kernel_rfl) (fun _ _ _ h => h) (.inl ⟨by rfl, fun _ _ => by go_simp⟩) S9 ?_
  simp only [Act.put, List.setIfInBounds_toArray, List.set_cons_zero, List.set_cons_succ]
  refine tk 15 (some 110) (.pointer (some ⟨g, 0, none⟩)) rfl rfl (by kernel_rfl) (by kernel_rfl) (by kernel_rfl) (fun _ _ _ h => h) (.inl ⟨by rfl, fun _ _ => by go_simp⟩) S9 ?_
  simp only [Act.put, List.setIfInBounds_toArray, List.set_cons_zero, List.set_cons_succ]
  refine tk 16 (some 111) (.pointer (some ⟨g, 0, none⟩)) rfl rfl (by kernel_rfl) (by kernel_rfl) (by kernel_rfl) (fun _ _ _ h => h) (.inl ⟨by rfl, fun _ _ => by go_simp⟩) S9 ?_
  simp only [Act.put, List.setIfInBounds_toArray, List.set_cons_zero, List.set_cons_succ]
  refine tk 17 (some 112) (.pointer (some ⟨g, 9, none⟩)) rfl rfl (by kernel_rfl) (by kernel_rfl) (by kernel_rfl) (fun _ _ _ h => h) (.inl ⟨by rfl, fun _ _ => by go_simp⟩) S9 ?_
  simp only [Act.put, List.setIfInBounds_toArray, List.set_cons_zero, List.set_cons_succ]
  refine rd_wsn { x with vd := V, t := C } 18 9 (enct C) 29 (by kernel_rfl) rfl rfl rfl rfl rfl Q8.out (by rw [size29]; rfl) (M10.enct_one _) rfl (fun _ _ _ _ _ _ => rfl) (by show 9 + 2 ≤ 20; omega) rfl ?_
  intro w9 Q9 k9
  refine ⟨⟨_, Q9⟩, ?_⟩
  refine wpAnyH_done (by kernel_rfl) ?_ _
  have Q9 := hid Q9
  have L9 : Hid (Var w9 b (encf f)) := hid ((L7.out.below b8 (L7.out.lt (by show 0 < 4; omega))).same (k9.block b hb))
  have K9 := hid (K7.out.trans ((k8.out.trans k9).mono hj))
  have d13 : w9.cell? ⟨g, 13, none⟩ = some (.int .i64 V) := Q9.out.cell fun _ _ _ _ _ _ => rfl
  have d1 : w9.cell? ⟨b, 1, none⟩ = some (.int .i64 f.f) := L9.out.cell rfl
  clear Q7 L7 K7 S8 S9 Q8 b8 k8 k9
  go_wp2_with (first
    | (go_at_call 97; (with_reducible refine (HL.out K' _ w9 Q9.out).mono ?_); rintro e w11 ⟨rfl, W11, k11⟩; have W11 := hid W11; have K11 := hid (K9.out.trans (k11.mono hj))))
  first | go_end0 | refine bodyPost_ret (results_none rfl _ _ _) rfl ?_
  exact ⟨rfl, W11.out.mono hj, K11.out⟩
/-- A frame does not concern it. -/
def skips (m : Md) (x : Nd) (began : Int) : Prop := x.sl % m.n = x.id ∨ ¬ x.vd = 0 ∨ began < x.st
instance (m : Md) (x : Nd) (b : Int) : Decidable (skips m x b) := by unfold skips; infer_instance
def judN (m : Md) (x : Nd) (f : Fr) (began : Int) : Nd :=
  if skips m x began then x else if ¬ offI m x began then x
  else if verd m x f = 3 then { x with vd := verd m x f, t := M10.cntT x.t (verd m x f) }
  else { x with vd := verd m x f, t := M10.cntT x.t (verd m x f), dv := lateL m x.dv (offD m x began) }
def judL (m : Md) (x : Nd) (f : Fr) (began : Int) : List Ac :=
  if skips m x began then [] else if ¬ offI m x began then [note 7 (offD m x began)]
  else if verd m x f = 3 then [note 5 f.f] else if verd m x f = 2 then [note 6 f.f] else []
theorem judge_any (K : Nat → Prop) (base g : Nat) (x : Nd) (m : Md) (l : List Ac) (f : Fr) (began : Int) (w : World) (h : Wk w K base g x m l) (hl : l.length ≤ 900) (k : NdOk m x) (hf : M10.OkF f) (hb1 : began ≤ 1152921504606846976) :
    Calls Tryz.prog 49 #[.pointer (some ⟨g, 0, none⟩), fv f, .int .i64 began] w (RetW K base g (judN m x f began) m (l ++ judL m x f began) (.tuple #[]) w) := by
  unfold judN judL
  by_cases hs : skips m x began
  · rw [if_pos hs, if_pos hs, List.append_nil]
    by_cases hO : x.sl % m.n = x.id
    · exact judge_own K base g x m l f began w h k hO
    · by_cases hv : x.vd = 0
      · exact judge_early K base g x m l f began w h k hO hv ((hs.resolve_left hO).resolve_left (not_not_intro hv))
      · exact judge_again K base g x m l f began w h k hO hv
  · have hO : ¬ x.sl % m.n = x.id := fun e => hs (.inl e)
    have hv : x.vd = 0 := Decidable.byContradiction fun e => hs (.inr (.inl e))
    have hb0 : x.st ≤ began := by have : ¬ began < x.st := fun e => hs (.inr (.inr e)); omega
    rw [if_neg hs, if_neg hs]
    by_cases hi : offI m x began
    · rw [if_neg (not_not_intro hi), if_neg (not_not_intro hi)]
      by_cases h3 : verd m x f = 3
      · rw [if_pos h3, if_pos h3]
        exact judge_wrong K base g x m l f began w h hl k hO hv hb0 hb1 hf hi h3
      · rw [if_neg h3, if_neg h3]
        by_cases h2 : verd m x f = 2
        · rw [if_pos h2]
          exact judge_noack K base g x m l f began w h hl k hO hv hb0 hb1 hf hi h2
        · rw [if_neg h2, List.append_nil]
          exact judge_good K base g x m l f began w h hl k hO hv hb0 hb1 hf hi ⟨h3, h2⟩
    · rw [if_pos hi, if_pos hi]
      exact judge_odd K base g x m l f began w h hl k hO hv hb0 hb1 hi
theorem cntT_ok {t : Ty} (h : M10.OkT t) (v : Int) (h0 : M10.OkV v) : M10.OkT (M10.cntT t v) := by
  unfold M10.cntT
  rw [if_pos ⟨h0, h⟩]
  obtain ⟨⟨a, b⟩, c, d⟩ := h
  unfold M10.cnt
  (repeat' split) <;> (refine ⟨⟨?_, ?_⟩, ?_, ?_⟩ <;> (try unfold M10.inc) <;> (try simp only) <;> (try split) <;> omega)
theorem NdOk.judge {m : Md} {x : Nd} (k : NdOk m x) (f : Fr) (began : Int) : NdOk m (judN m x f began) := by
  have hV := verd_in m x f
  have hC := cntT_ok k.ty (verd m x f) hV
  unfold judN
  split
  · exact k
  · split
    · exact k
    · next hi =>
      have hi : offI m x began := Decidable.byContradiction hi
      split
      · exact ⟨k.hm, k.ho, k.i0, k.i1, k.p0, k.p1, k.s0, k.s1, k.t0, k.t1, k.c0, k.c1, k.mb, hC, k.dl, k.dd, hV.1, hV.2⟩
      · obtain ⟨l1, l2⟩ := late_ok k.dl k.dd hi.1 hi.2
        exact ⟨k.hm, k.ho, k.i0, k.i1, k.p0, k.p1, k.s0, k.s1, k.t0, k.t1, k.c0, k.c1, k.mb, hC, l1, l2, hV.1, hV.2⟩
end Go.Proofs.YtlgedfljmgedfaaGreat
