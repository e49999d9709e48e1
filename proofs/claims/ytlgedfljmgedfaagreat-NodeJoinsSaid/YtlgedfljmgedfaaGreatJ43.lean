/-
  Texts PC, TM, PD, DA, JA of this seat, as far as they are used.
-/
import Derived.Test.YtlgedfljmgedfaaGreatJ42
namespace Go.Proofs.YtlgedfljmgedfaaGreat
open Go Go.RowKit
open M10 (hid Md encm mv mz Oth range_keep there_keep range_other there_other setCells_oth setCells_size there_set Ty enct tv tz Fr encf fv fz)
open O6 (Oc enco ov oz)
open T9 (sv)
theorem zero23 (w : World) : (zeroValue 23).run Tryz.prog w = .ok (mv mz) w := by kernel_rfl
/-! ### four, few -/
def m4 : Md := ⟨4, 100, 20, 30, 10⟩
set_option maxRecDepth 100000 in
theorem four_any (w : World) : Calls Tryz.prog 28 #[] w fun e w' => e = .returned (mv m4) ∧ Below w.heap.size w w' := by
  go_enter Tryz.func28, Tryz.ntmps28
  go_wp2_with (first
    | (refine wpList_gst 23 (encm m4) rfl (.tmp 0) (.tmp 1) rfl rfl rfl v1 (by show 0 + 5 ≤ 5; omega) size23 (M10.encm_one _) ?_; intro w2 v2 b2 o2 s2)
    | (refine wpList_galloc 23 (encm mz) zero23 rfl rfl ?_; intro w1 v1 b1 s1))
  refine bodyPost_ret (results_cs (cs := encm m4) Tryz.results28 _ rfl v2.1 Tryz.underlying23 rfl size23) rfl ?_
  exact ⟨rfl, b1.trans b2⟩
def fewB (n k : Nat) : Bool := decide ((n : Int) ≤ 100) && decide ((k : Int) ≤ 500)
/-! ### Acts read -/
theorem acts_at {w : World} {base : Nat} {B : Option Addr} {k d : Nat} {l : List Ac} (h : OwnR w base 66 8 B k d (flat l)) (hl : l ≠ []) : ∃ g, B = some ⟨g, 0, none⟩ ∧ g < w.heap.size ∧ ∀ j v, (flat l)[j]? = some v → w.cell? ⟨g, j, none⟩ = some v := by
  have hk : 0 < k := by
    have := h.len
    rw [flat_len] at this
    have : 0 < l.length := List.length_pos_iff.2 hl
    omega
  rcases h.2 with ⟨_, h0⟩ | ⟨g, cap, cur, hv, hb, hg, _⟩
  · omega
  · have hA : B = some ⟨g, 0, none⟩ := by injection hv
    subst hA
    refine ⟨g, rfl, (Array.getElem?_eq_some_iff.1 hg).1, fun j v hj => ?_⟩
    have := World.ownsRow.cells (g := g) h rfl j v hj
    rw [T9.plain_add] at this
    rwa [Nat.zero_add] at this
theorem acts_len {w : World} {base : Nat} {B : Option Addr} {k d : Nat} {l : List Ac} (h : OwnR w base 66 8 B k d (flat l)) : k = l.length := by
  have := h.len
  rw [flat_len] at this
  omega
/-! ### live -/
def o10 : Oc := ⟨10, 0, 0⟩
def n1 : Nd := newN 1 o10
def n2 : Nd := lisN n1 0
def n3 : Nd := staN n2 10000
theorem n1_ok : nodeOk m4 n1 := by decide +kernel
theorem n2_ok : nodeOk m4 n2 := by decide +kernel
theorem new1_is : newR m4 1 o10 = n1 := if_pos n1_ok
theorem new1_E : nodeE m4 (newN 1 o10) = 0 := if_pos n1_ok
end Go.Proofs.YtlgedfljmgedfaaGreat
namespace Go.Proofs.YtlgedfljmgedfaaGreat
open Go Go.RowKit
open M10 (hid Md encm mv mz Oth range_keep there_keep range_other there_other setCells_oth setCells_size there_set Ty enct tv tz Fr encf fv fz)
open O6 (Oc enco ov oz)
open T9 (sv)
def tims (l : List Ac) : List Int := (l.filter fun x => x.kd == 1).map (·.ts)
theorem tims_take {l : List Ac} {i : Nat} {x : Ac} (h : l[i]? = some x) : tims (l.take (i + 1)) = tims (l.take i) ++ (if x.kd = 1 then [x.ts] else []) := by
  rw [List.take_add_one, h]
  unfold tims
  rw [List.filter_append, List.map_append]
  by_cases hk : x.kd = 1 <;> simp [hk]
theorem flat_get {l : List Ac} {i : Nat} {x : Ac} (h : l[i]? = some x) : ∀ j v, (enca x)[j]? = some v → (flat l)[i * 8 + j]? = some v := by
  induction l generalizing i with
  | nil => simp at h
  | cons y l ih =>
    intro j v hv
    rw [flat_cons]
    cases i with
    | zero =>
      simp at h; subst h
      rw [Nat.zero_mul, Nat.zero_add, List.getElem?_append_left (List.getElem?_eq_some_iff.1 hv).1]
      exact hv
    | succ i =>
      rw [List.getElem?_append_right (by rw [enca_len]; omega), enca_len, show (i + 1) * 8 + j - 8 = i * 8 + j by omega]
      exact ih (by simpa using h) j v hv
theorem tims_len (l : List Ac) : (tims l).length ≤ l.length := by
  unfold tims
  rw [List.length_map]
  exact List.length_filter_le _ _
theorem below_grown {w w' : World} {base size n c : Nat} {e : TypeId} {A : Option Addr} {vs : List Value} (h : OwnR w base e size A n c vs) (g : w.grownBy w' (ob A)) (hb : base ≤ w.heap.size) : Below base w w' :=
  ⟨g.os, g.tape, g.output, g.size, fun k hk => g.block k (by omega) (fun e => by have := (h.lt e.symm).1; omega)⟩
set_option maxRecDepth 100000 in
set_option maxHeartbeats 2000000 in
theorem timers_of (g k d : Nat) (l : List Ac) (w : World) (hg : g < w.heap.size) (hc : ∀ j v, (flat l)[j]? = some v → w.cell? ⟨g, j, none⟩ = some v) (hk : k = l.length) (hl : l.length ≤ 1000) :
    Calls Tryz.prog 23 #[.slice (some ⟨g, 0, none⟩) k d] w fun e w' => ∃ A n c, e = .returned (.slice A n c) ∧ OwnR w' w.heap.size 2 1 A n c (sv (tims l)) ∧ Below w.heap.size w w' := by
  have HC := hid hc
  have HG := hid hg
  have HK := hid hk
  have HL := hid hl
  clear hc hk hl hg
  go_enter Tryz.func23, Tryz.ntmps23
  go_wp2
  go_loopw [3, 8] (fun v3 v8 wr => ∃ (i : Nat) (A : Option Addr) (n c : Nat), v8 = .int .i64 (i : Int) ∧ i ≤ k ∧ v3 = .slice A n c ∧ OwnR wr w.heap.size 2 1 A n c (sv (tims (l.take i))) ∧ Below w.heap.size w wr) (fun _ v8 _ => k - (intOf v8).toNat)
  case atStart => exact ⟨0, none, 0, 0, rfl, Nat.zero_le _, rfl, OwnR.nil _ _ _ _, Below.refl _ _⟩
  case round =>
    obtain ⟨i, A, n, c, rfl, hi, rfl, ho, hb⟩ := hrel
    have HO := hid ho
    have HB := hid hb
    clear ho hb
    by_cases hlt : i < k
    · have hil : i < l.length := by have := HK.out; omega
      have hx := List.getElem?_eq_getElem hil
      generalize l[i] = x at hx
      have HX := hid hx
      have RX : Hid (wr.rangeAt g (i * 8) (enca x)) := hid (fun j v hv => (HB.out.cell (p := ⟨g, i * 8 + j, none⟩) HG.out).trans (HC.out _ v (flat_get HX.out j v hv)))
      have HN : Hid (n ≤ 1000) := hid (by have h1 := HO.out.len; have h2 := tims_len (l.take i); have h3 := HL.out; simp [sv] at h1; simp at h2; omega)
      have i1 : (i : Int) < (k : Int) := by omega
      have i2 : k ≤ 1000 := by have := HK.out; have := HL.out; omega
      have hgr : g < wr.heap.size := by have := HG.out; have := HB.out.size; omega
      clear hx hil
      by_cases hkd : x.kd = 1
      · have e1 : (x.kd == 1) = true := by simpa using hkd
        have HT : Hid (tims (l.take i) ++ [x.ts] = tims (l.take (i + 1))) := hid (by rw [tims_take HX.out, if_pos hkd])
        clear hkd
        go_wp2_with (first
          | (refine wpList_pushI rfl (.tmp 15) (.tmp 18) rfl rfl O2.out rfl (by have := HN.out; omega) B0.out.size ?_; intro A' c' w3 o3 g3 e3)
          | (refine wpList_bsI (v := x.ts) (.tmp 17) rfl rfl rfl ?_)
          | (refine wpList_gst 66 (enca x) rfl (.tmp 5) (.tmp 11) rfl rfl rfl v1 (by show 0 + 8 ≤ 8; omega) size66 (enca_one _) ?_; intro w2 v2 b2 t2 s2; have c0 : w2.cell? ⟨wr.heap.size, 0, none⟩ = some (.int .i64 x.kd) := v2.cell (k := 0) rfl; have c1 : w2.cell? ⟨wr.heap.size, 1, none⟩ = some (.int .i64 x.ts) := v2.cell (k := 1) rfl; have bb := b1.trans b2; have O2 := hid (HO.out.below bb); have B0 := hid (HB.out.trans (bb.mono HB.out.size)); clear v1 v2 b1 b2 t2 s1 s2 bb)
          | (refine wpList_galloc 66 (enca az) zero66 rfl rfl ?_; intro w1 v1 b1 s1)
          | (refine wpList_la (z := x) (.tmp 10) rfl rfl RX.out rfl ?_))
        go_roundw
        case rel => exact ⟨i + 1, A', n + 1, c', by go_num, by omega, rfl, HT.out ▸ o3, B0.out.trans (below_grown O2.out g3 B0.out.size)⟩
        case measure => simp [intOf]; omega
      · have e1 : (x.kd == 1) = false := by simpa using hkd
        have HT : Hid (tims (l.take i) = tims (l.take (i + 1))) := hid (by rw [tims_take HX.out, if_neg hkd, List.append_nil])
        clear hkd
        go_wp2_with (first
          | (refine wpList_gst 66 (enca x) rfl (.tmp 5) (.tmp 11) rfl rfl rfl v1 (by show 0 + 8 ≤ 8; omega) size66 (enca_one _) ?_; intro w2 v2 b2 t2 s2; have c0 : w2.cell? ⟨wr.heap.size, 0, none⟩ = some (.int .i64 x.kd) := v2.cell (k := 0) rfl; have bb := b1.trans b2; have O2 := hid (HO.out.below bb); have B0 := hid (HB.out.trans (bb.mono HB.out.size)); clear v1 v2 b1 b2 t2 s1 s2 bb)
          | (refine wpList_galloc 66 (enca az) zero66 rfl rfl ?_; intro w1 v1 b1 s1)
          | (refine wpList_la (z := x) (.tmp 10) rfl rfl RX.out rfl ?_))
        go_roundw
        case rel => exact ⟨i + 1, A, n, c, by go_num, by omega, rfl, HT.out ▸ O2.out, B0.out⟩
        case measure => simp [intOf]; omega
    · have : i = k := by omega
      subst this
      go_wp2
      go_ret
      refine ⟨A, n, c, rfl, ?_, HB.out⟩
      have := HO.out
      rwa [List.take_of_length_le (by have := HK.out; omega)] at this
/-- The timers among acts of the call's own. -/
theorem timers_any (B : Option Addr) (k d base : Nat) (l : List Ac) (w : World) (h : OwnR w base 66 8 B k d (flat l)) (hl : l.length ≤ 1000) :
    Calls Tryz.prog 23 #[.slice B k d] w fun e w' => ∃ A n c, e = .returned (.slice A n c) ∧ OwnR w' w.heap.size 2 1 A n c (sv (tims l)) ∧ Below w.heap.size w w' := by
  by_cases h0 : l = []
  · subst h0
    obtain rfl : k = 0 := acts_len h
    clear h
    go_enter Tryz.func23, Tryz.ntmps23
    go_wp2
    go_loopw [3, 8] (fun v3 v8 wr => v8 = .int .i64 0 ∧ v3 = .slice none 0 0 ∧ wr = w) (fun _ _ _ => 0)
    case atStart => exact ⟨rfl, rfl, rfl⟩
    case round =>
      obtain ⟨rfl, rfl, rfl⟩ := hrel
      go_wp2
      go_ret
      exact ⟨none, 0, 0, rfl, OwnR.nil _ _ _ _, Below.refl _ _⟩
  · obtain ⟨g, rfl, hg, hc⟩ := acts_at h h0
    exact timers_of g k d l w hg hc (acts_len h) hl
end Go.Proofs.YtlgedfljmgedfaaGreat
namespace Go.Proofs.YtlgedfljmgedfaaGreat
open Go Go.RowKit
open M10 (hid Md encm mv mz Oth range_keep there_keep range_other there_other setCells_oth setCells_size there_set Ty enct tv tz Fr encf fv fz)
open O6 (Oc enco ov oz)
open T9 (sv)
section
variable {ops : Array Oper} {a : Act} {w : World} {Q : Exit → Act → World → Prop} {fuel : Nat} {listed : Array Bool}
/-- A call, and a struct loaded, in either order. -/
theorem rd_cld (i j : Nat) (di dj : Option Tmp) (f : FuncId) (args : Array Value) (v : Value) (ty : TypeId) (cs : List Value) {oi oj : Oper} {y : Operand} {b off : Nat} {R : World → Prop}
    (hr : Region.ready .any ops listed = [i, j]) (hri : Region.ready .any ops (listed.setIfInBounds i true) = [j]) (hrj : Region.ready .any ops (listed.setIfInBounds j true) = [i])
    (hi : ops[i]? = some oi) (hj : ops[j]? = some oj) (hdi : oi.dst = di) (hdj : oj.dst = dj)
    (he : (execOp a.eval oi).run Tryz.prog w = .ok (.enter f args) w) (he' : (execOp (a.put dj (.agg cs.toArray)).eval oi).run Tryz.prog w = .ok (.enter f args) w) (hc : Calls Tryz.prog f args w fun e w' => e = .returned v ∧ R w')
    (ho : oj.op = .load ty y) (hx : a.eval y = .pointer (some ⟨b, off, none⟩)) (hx' : (a.put di v).eval y = .pointer (some ⟨b, off, none⟩)) (hw : w.rangeAt b off cs) (hw' : ∀ w', R w' → w'.rangeAt b off cs) {t : TypeDesc} (hu : Tryz.prog.underlying ty = some t) (ht : t.isRow = true) (hs : (Tryz.prog.info? ty).map (·.size) = some cs.length)
    (hwi : Region.wanted oi (yielded ops a.tmps) = true) (hwi' : Region.wanted oi (yielded ops (a.put dj (.agg cs.toArray)).tmps) = true) (hwj : Region.wanted oj (yielded ops a.tmps) = true) (hwj' : Region.wanted oj (yielded ops (a.put di v).tmps) = true)
    (hl : (listed.setIfInBounds j true).setIfInBounds i true = (listed.setIfInBounds i true).setIfInBounds j true) (hp : (a.put dj (.agg cs.toArray)).put di v = (a.put di v).put dj (.agg cs.toArray))
    (h : ∀ w', R w' → wpAnyH Tryz.prog .any ops Q (fun _ => True) fuel ((listed.setIfInBounds i true).setIfInBounds j true) ((a.put di v).put dj (.agg cs.toArray)) w') :
    wpAnyH Tryz.prog .any ops Q (fun _ => True) (fuel + 2) listed a w := by
  subst hdi hdj
  refine wpAnyH_ready hr (by simp) (AllReadyH.cons hi (fun K hK => ?_) (AllReadyH.cons hj (fun K hK => ?_) AllReadyH.nil))
  · rw [if_pos hwi]
    unfold Oper.wp
    rw [he]
    refine hc.mono ?_
    rintro e w' ⟨rfl, h2⟩
    refine hK.out _ _ trivial fun _ => ?_
    refine wpAnyH_ready hri (by simp) (AllReadyH.cons hj (fun K hK => ?_) AllReadyH.nil)
    rw [if_pos hwj']
    exact wp_ls ty cs ho hx' (hw' w' h2) hu ht hs (hK.out _ _ trivial fun _ => h w' h2)
  · rw [if_pos hwj]
    refine wp_ls ty cs ho hx hw hu ht hs (hK.out _ _ trivial fun _ => ?_)
    refine wpAnyH_ready hrj (by simp) (AllReadyH.cons hi (fun K hK => ?_) AllReadyH.nil)
    rw [if_pos hwi']
    unfold Oper.wp
    rw [he']
    refine hc.mono ?_
    rintro e w' ⟨rfl, h2⟩
    refine hK.out _ _ trivial fun _ => ?_
    rw [hl, hp]
    exact h w' h2
end
set_option maxRecDepth 100000 in
set_option maxHeartbeats 4000000 in
theorem live_any (w : World) : Calls Tryz.prog 7 #[] w fun e w' => e = .returned (.bool true) ∧ Below w.heap.size w w' := by
  have HF := hid four_any
  have HN : Hid (∀ w, Calls Tryz.prog 18 #[mv m4, .int .i64 1, .agg #[.int .i64 10, .int .i64 0, .int .i64 0]] w fun e w' => e = .returned (.tuple #[nv n1 none 0 0, .int .i64 0]) ∧ Below w.heap.size w w') := hid (fun w => by have hf := new_any m4 1 o10 w; rw [new1_is, new1_E] at hf; exact hf)
  have HW : Hid (∀ (w : World) (A : Option Addr) (c : Nat), Calls Tryz.prog 10 #[mv m4, nv n1 A 0 c, .int .i64 0] w fun e w' => ∃ v, e = .returned v ∧ RD w.heap.size n2 [note 1 0, timr 10000] 0 True True w v w') := hid (fun w A c => RetD.named ((wakeF_any n1 m4 A 0 c 0 0 w (T9.Row.nil _ _ _) (Nat.zero_le _) (by omega) (by decide) (by decide)).mono fun _ _ ⟨A', n', c', B, k, d, h1, h2, h3, h4, h5⟩ => by
    have hb : timeB 0 = true ∧ nodeOk m4 n1 := ⟨by decide, n1_ok⟩
    have e0 : wakE m4 n1 0 = 0 := by decide +kernel
    have eN : outN (timeB 0 = true ∧ nodeOk m4 n1) n1 (wakN n1 0) (wakE m4 n1 0) = n2 := by unfold outN; rw [if_pos hb, if_pos e0]; rfl
    have eL : outL (timeB 0 = true ∧ nodeOk m4 n1) (wakL m4 n1 0) (wakE m4 n1 0) = [note 1 0, timr 10000] := by unfold outL; rw [if_pos hb, if_pos e0]; decide +kernel
    have eE : outE (timeB 0 = true ∧ nodeOk m4 n1) (wakE m4 n1 0) = 0 := by unfold outE; rw [if_pos hb]; exact e0
    rw [eN] at h1 h2 h3 h4
    rw [eE] at h1
    rw [eL] at h5
    exact ⟨A', n', c', B, k, d, h1, h2, fun _ => h3 ⟨.inr (.inl e0), fun h => h.2.2 e0⟩, fun _ => h4 (.inr (.inl e0)), h5⟩))
  have HT : Hid (∀ (w : World) (A : Option Addr) (c : Nat), Calls Tryz.prog 14 #[mv m4, nv n2 A 0 c, .int .i64 10000] w fun e w' => ∃ v, e = .returned v ∧ RD w.heap.size n3 [note 2 0, timr 10200] 0 True True w v w') := hid (fun w A c => RetD.named ((timerF_any n2 m4 A 0 c 0 10000 w (T9.Row.nil _ _ _) (Nat.zero_le _) (by omega) (by decide) (by decide)).mono fun _ _ ⟨A', n', c', B, k, d, h1, h2, h3, h4, h5⟩ => by
    have hb : timeB 10000 = true ∧ nodeOk m4 n2 := ⟨by decide, n2_ok⟩
    have e0 : timE m4 n2 10000 = 0 := by decide +kernel
    have eN : outN (timeB 10000 = true ∧ nodeOk m4 n2) n2 (timN m4 n2 10000) (timE m4 n2 10000) = n3 := by unfold outN; rw [if_pos hb, if_pos e0]; rfl
    have eL : outL (timeB 10000 = true ∧ nodeOk m4 n2) (timL m4 n2 10000) (timE m4 n2 10000) = [note 2 0, timr 10200] := by unfold outL; rw [if_pos hb, if_pos e0]; decide +kernel
    have eE : outE (timeB 10000 = true ∧ nodeOk m4 n2) (timE m4 n2 10000) = 0 := by unfold outE; rw [if_pos hb]; exact e0
    rw [eN] at h1 h2 h3 h4
    rw [eE] at h1
    rw [eL] at h5
    exact ⟨A', n', c', B, k, d, h1, h2, fun _ => h3 ⟨.inr (.inl e0), fun h => h.2.2 e0⟩, fun _ => h4 (.inr (.inl e0)), h5⟩))
  go_enter Tryz.func7, Tryz.ntmps7
  go_wp2_with (first
    | (refine wpList_gst 32 (encn n1 none 0 0) rfl (.tmp 1) (.tmp 11) rfl rfl rfl v3 (by show 0 + 14 ≤ 14; omega) size32 (encn_one _ _ _ _) ?_; intro w4 v4 b4 o4 s4)
    | (refine wpList_galloc 32 (encn nz none 0 0) zero32 rfl rfl ?_; intro w3 v3 b3 s3)
    | (go_at_call 18; (with_reducible refine (HN.out w1).mono ?_); rintro e w2 ⟨rfl, b2⟩)
    | (go_at_call 28; (with_reducible refine (HF.out w).mono ?_); rintro e w1 ⟨rfl, b1⟩))
  have V4 : Var w4 w2.heap.size (encn n1 none 0 0) := v4
  have B4 : Below w.heap.size w w4 := ((b1.trans (b2.mono b1.size)).trans (b3.mono (Nat.le_trans b1.size b2.size))).trans (b4.mono (Nat.le_trans b1.size b2.size))
  have B4 := hid B4.drew
  have V4 := hid V4.drew
  have LB : Hid (w.heap.size ≤ w2.heap.size) := hid (Nat.le_trans b1.size b2.size)
  clear b1 b2 b3 b4 v3 v4 o4 s3 s4
  generalize w2.heap.size = g at *
  refine wp_region_held_drew (S := fun _ => True) (by kernel_rfl) trivial (fun _ => ?_)
  refine rd_cld 0 1 (some 14) (some 15) 28 #[] (mv m4) 32 (encn n1 none 0 0) (by kernel_rfl) (by kernel_rfl) (by kernel_rfl) rfl rfl rfl rfl (by unfold execOp; simp [go_sem] <;> rfl) (by unfold execOp; simp [go_sem] <;> rfl) (HF.out _) rfl rfl rfl V4.out.1 (fun w' b => (V4.out.below b (V4.out.lt (by show 0 < 14; omega))).1) Tryz.underlying32 rfl size32 rfl rfl rfl rfl rfl rfl ?_
  intro w5 b5
  simp only [Act.put, List.setIfInBounds_toArray, List.set_cons_zero, List.set_cons_succ]
  have B5 := hid (B4.out.trans (b5.mono B4.out.size))
  have V5 := V4.out.below b5 (V4.out.lt (by show 0 < 14; omega))
  refine rd_cle 2 (some 16) 10 #[mv m4, nv n1 none 0 0, .int .i64 0] (by kernel_rfl) rfl rfl (by unfold execOp; simp [go_sem] <;> rfl) (HW.out _ _ _) rfl ?_
  rintro v w6 ⟨A4, n4, c4, BB4, k4, d4, rfl, hl4, hq4, hr4, ha4, b6⟩
  obtain rfl : n4 = 0 := hl4
  have hk4 := acts_len ha4
  obtain rfl : k4 = 2 := hk4
  have B6 := hid (B5.out.trans (b6.mono B5.out.size))
  have V6 := V5.below b6 (V5.lt (by show 0 < 14; omega))
  refine ⟨trivial, ?_⟩
  simp only [Act.put, List.setIfInBounds_toArray, List.set_cons_zero, List.set_cons_succ]
  refine tk 3 (some 13) (.tuple #[nv n2 A4 0 c4, .slice BB4 2 d4, .int .i64 0]) rfl rfl (by kernel_rfl) (by kernel_rfl) (by kernel_rfl) (fun _ _ _ h => h) (.inl ⟨by rfl, fun _ _ => by go_simp⟩) trivial ?_
  simp only [Act.put, List.setIfInBounds_toArray, List.set_cons_zero, List.set_cons_succ]
  refine tk 4 (some 17) (nv n2 A4 0 c4) rfl rfl (by kernel_rfl) (by kernel_rfl) (by kernel_rfl) (fun _ _ _ h => h) (.inl ⟨by rfl, fun _ _ => by go_simp⟩) trivial ?_
  simp only [Act.put, List.setIfInBounds_toArray, List.set_cons_zero, List.set_cons_succ]
  refine tk 5 (some 18) (.slice BB4 2 d4) rfl rfl (by kernel_rfl) (by kernel_rfl) (by kernel_rfl) (fun _ _ _ h => h) (.inl ⟨by rfl, fun _ _ => by go_simp⟩) trivial ?_
  simp only [Act.put, List.setIfInBounds_toArray, List.set_cons_zero, List.set_cons_succ]
  refine tk 6 (some 19) (.int .i64 0) rfl rfl (by kernel_rfl) (by kernel_rfl) (by kernel_rfl) (fun _ _ _ h => h) (.inl ⟨by rfl, fun _ _ => by go_simp⟩) trivial ?_
  simp only [Act.put, List.setIfInBounds_toArray, List.set_cons_zero, List.set_cons_succ]
  refine rd_gst 7 0 (encn n2 A4 0 c4) 32 (by kernel_rfl) rfl rfl rfl rfl rfl V6 (by show 0 + 14 ≤ 14; omega) size32 (encn_one _ _ _ _) rfl ?_
  intro w7 v7 b7 o7 s7
  have V7 : Var w7 g (encn n2 A4 0 c4) := v7
  refine ⟨trivial, ?_⟩
  refine tk 8 (some 3) (.slice BB4 2 d4) rfl rfl (by kernel_rfl) (by kernel_rfl) (by kernel_rfl) (fun _ _ _ h => h) (.inl ⟨by rfl, fun _ _ => by go_simp⟩) trivial ?_
  simp only [Act.put, List.setIfInBounds_toArray, List.set_cons_zero, List.set_cons_succ]
  refine tk 9 (some 4) (.int .i64 0) rfl rfl (by kernel_rfl) (by kernel_rfl) (by kernel_rfl) (fun _ _ _ h => h) (.inl ⟨by rfl, fun _ _ => by go_simp⟩) trivial ?_
  simp only [Act.put, List.setIfInBounds_toArray, List.set_cons_zero, List.set_cons_succ]
  refine wpAnyH_done (by kernel_rfl) ?_ _
  have g5 : w5.heap.size ≤ w6.heap.size := b6.size
  have hg : g < w5.heap.size := V5.lt (by show 0 < 14; omega)
  obtain ⟨ga, rfl, hga, ca⟩ := acts_at ha4 (by simp)
  have hgb := (ha4.lt (k := ga) rfl).1
  have t1 : w6.cell? ⟨ga, 9, none⟩ = some (.int .i64 10000) := ca 9 _ rfl
  have T7 : Hid (w7.cell? ⟨ga, 9, none⟩ = some (.int .i64 10000)) := hid ((World.cell?_of_block (a := ⟨ga, 9, none⟩) (o7 ga (by omega))).trans t1)
  have NGA : Hid (ga ≠ g) := hid (by omega)
  have L7 : Hid (ga < w7.heap.size) := hid (by rw [s7.out]; exact hga)
  have B7 := hid (B6.out.trans (b7.mono LB.out))
  have V7 := hid V7
  clear V4 B4 V5 V6 B5 B6 v7 b7 o7 s7 b5 b6 t1 hga hgb ca ha4 hq4 hr4 hg g5 HW HN
  go_wp2_with fail
  have Bd := hid B7.out.drew
  have Vd := hid V7.out.drew
  have T8 : Hid (w7.drew.cell? ⟨ga, 9, none⟩ = some (.int .i64 10000)) := hid T7.out
  refine wp_region_held_drew (S := fun _ => True) (by kernel_rfl) trivial (fun _ => ?_)
  refine rd_cld 0 1 (some 21) (some 22) 28 #[] (mv m4) 32 (encn n2 A4 0 c4) (by kernel_rfl) (by kernel_rfl) (by kernel_rfl) rfl rfl rfl rfl (by unfold execOp; simp [go_sem] <;> rfl) (by unfold execOp; simp [go_sem] <;> rfl) (HF.out _) rfl rfl rfl Vd.out.1 (fun w' b => (Vd.out.below b (Vd.out.lt (by show 0 < 14; omega))).1) Tryz.underlying32 rfl size32 rfl rfl rfl rfl rfl rfl ?_
  intro w8 b8
  simp only [Act.put, List.setIfInBounds_toArray, List.set_cons_zero, List.set_cons_succ]
  have B8 := hid (Bd.out.trans (b8.mono Bd.out.size))
  have V8 := Vd.out.below b8 (Vd.out.lt (by show 0 < 14; omega))
  refine rd_cle 2 (some 23) 14 #[mv m4, nv n2 A4 0 c4, .int .i64 10000] (by kernel_rfl) rfl rfl (by unfold execOp; simp [go_sem] <;> rfl) (HT.out _ _ _) rfl ?_
  rintro v w9 ⟨A7, n7, c7, BB7, k7, d7, rfl, hl7, hq7, hr7, ha7, b9⟩
  obtain rfl : n7 = 0 := hl7
  have hk7 := acts_len ha7
  obtain rfl : k7 = 2 := hk7
  have B9 := hid (B8.out.trans (b9.mono B8.out.size))
  have V9 := V8.below b9 (V8.lt (by show 0 < 14; omega))
  refine ⟨trivial, ?_⟩
  simp only [Act.put, List.setIfInBounds_toArray, List.set_cons_zero, List.set_cons_succ]
  refine tk 3 (some 20) (.tuple #[nv n3 A7 0 c7, .slice BB7 2 d7, .int .i64 0]) rfl rfl (by kernel_rfl) (by kernel_rfl) (by kernel_rfl) (fun _ _ _ h => h) (.inl ⟨by rfl, fun _ _ => by go_simp⟩) trivial ?_
  simp only [Act.put, List.setIfInBounds_toArray, List.set_cons_zero, List.set_cons_succ]
  refine tk 4 (some 24) (nv n3 A7 0 c7) rfl rfl (by kernel_rfl) (by kernel_rfl) (by kernel_rfl) (fun _ _ _ h => h) (.inl ⟨by rfl, fun _ _ => by go_simp⟩) trivial ?_
  simp only [Act.put, List.setIfInBounds_toArray, List.set_cons_zero, List.set_cons_succ]
  refine tk 5 (some 25) (.slice BB7 2 d7) rfl rfl (by kernel_rfl) (by kernel_rfl) (by kernel_rfl) (fun _ _ _ h => h) (.inl ⟨by rfl, fun _ _ => by go_simp⟩) trivial ?_
  simp only [Act.put, List.setIfInBounds_toArray, List.set_cons_zero, List.set_cons_succ]
  refine tk 6 (some 26) (.int .i64 0) rfl rfl (by kernel_rfl) (by kernel_rfl) (by kernel_rfl) (fun _ _ _ h => h) (.inl ⟨by rfl, fun _ _ => by go_simp⟩) trivial ?_
  simp only [Act.put, List.setIfInBounds_toArray, List.set_cons_zero, List.set_cons_succ]
  refine rd_gst 7 0 (encn n3 A7 0 c7) 32 (by kernel_rfl) rfl rfl rfl rfl rfl V9 (by show 0 + 14 ≤ 14; omega) size32 (encn_one _ _ _ _) rfl ?_
  intro w10 v10 b10 o10 s10
  have V10 : Var w10 g (encn n3 A7 0 c7) := v10
  refine ⟨trivial, ?_⟩
  refine tk 8 (some 5) (.slice BB7 2 d7) rfl rfl (by kernel_rfl) (by kernel_rfl) (by kernel_rfl) (fun _ _ _ h => h) (.inl ⟨by rfl, fun _ _ => by go_simp⟩) trivial ?_
  simp only [Act.put, List.setIfInBounds_toArray, List.set_cons_zero, List.set_cons_succ]
  refine tk 9 (some 6) (.int .i64 0) rfl rfl (by kernel_rfl) (by kernel_rfl) (by kernel_rfl) (fun _ _ _ h => h) (.inl ⟨by rfl, fun _ _ => by go_simp⟩) trivial ?_
  simp only [Act.put, List.setIfInBounds_toArray, List.set_cons_zero, List.set_cons_succ]
  refine wpAnyH_done (by kernel_rfl) ?_ _
  obtain ⟨gb, rfl, hgb, cb⟩ := acts_at ha7 (by simp)
  have hgb1 := (ha7.lt (k := gb) rfl).1
  have hg8 : g < w8.heap.size := V8.lt (by show 0 < 14; omega)
  have u1 : w9.cell? ⟨gb, 9, none⟩ = some (.int .i64 10200) := cb 9 _ rfl
  have x1 : w10.cell? ⟨gb, 9, none⟩ = some (.int .i64 10200) := (World.cell?_of_block (a := ⟨gb, 9, none⟩) (o10 gb (by omega))).trans u1
  have hga8 : ga < w7.drew.heap.size := L7.out
  have y1 : w8.cell? ⟨ga, 9, none⟩ = some (.int .i64 10000) := (b8.cell (p := ⟨ga, 9, none⟩) hga8).trans T8.out
  have y2 : w9.cell? ⟨ga, 9, none⟩ = some (.int .i64 10000) := (b9.cell (p := ⟨ga, 9, none⟩) (Nat.lt_of_lt_of_le hga8 b8.size)).trans y1
  have x2 : w10.cell? ⟨ga, 9, none⟩ = some (.int .i64 10000) := (World.cell?_of_block (a := ⟨ga, 9, none⟩) (o10 ga NGA.out)).trans y2
  have x3 : w10.cell? ⟨g, 1, none⟩ = some (.int .i64 2) := V10.cell rfl
  have B10 := hid (B9.out.trans (b10.mono LB.out))
  clear V7 B7 Vd Bd V8 B8 T7 T8 V9 B9 V10 v10 b10 o10 s10 b8 b9 u1 y1 y2 hgb1 hg8 hgb cb ha7 hq7 hr7 HT HF hga8
  go_wp2_with fail
  go_ret
  exact ⟨rfl, B10.out⟩
end Go.Proofs.YtlgedfljmgedfaaGreat
namespace Go.Proofs.YtlgedfljmgedfaaGreat
open Go Go.RowKit
open M10 (hid Md encm mv mz Oth range_keep there_keep range_other there_other setCells_oth setCells_size there_set Ty enct tv tz Fr encf fv fz)
open O6 (Oc enco ov oz)
open T9 (sv)
/-! ### Words for the walk -/
theorem plB_refl (x : Nd) : plB x x = true := by unfold plB; simp
theorem saB_refl (x : Nd) : saB x x = true := by unfold saB; rw [plB_refl]; simp
theorem hear_same (x : Nd) (m : Md) (A Ab : Option Addr) (n c BB nb kb Bb : Nat) (now began : Int) (bs : List Nat) (bad : Bool) (w : World) (hr : T9.Row w BB A n (sv x.dv)) (hB : BB ≤ w.heap.size) (hn : n ≤ 100) (s0 : 0 ≤ x.sl) (mb : x.mb < 65536)
    (hb : F8.Row w Bb Ab nb (F8.bv bs)) (hBb : Bb ≤ w.heap.size) (ho : F8.Oct bs) (hnc : nb ≤ kb) (hn5 : nb ≤ 1048579) (h1 : heaN m x now began bs bad = x) (h2 : heaL m x now began bs bad = []) (h3 : heaE m x now began bs bad = 0) (E : Int) (hE : (if mayB now began = true ∧ nodeOk m x then 0 else 1) = E) :
    Calls Tryz.prog 16 #[mv m, nv x A n c, .int .i64 now, .int .i64 began, .slice Ab nb kb, .bool bad] w fun e w' => ∃ A' c' B d, e = .returned (.tuple #[nv x A' n c', .slice B 0 d, .int .i64 E]) ∧ T9.Row w' w'.heap.size A' n (sv x.dv) ∧ Below w.heap.size w w' := by
  refine (hearF_any x m A Ab n c BB nb kb Bb now began bs bad w hr hB hn s0 mb hb hBb ho hnc hn5).mono ?_
  rintro e w' ⟨A', n', c', B, k, d, rfl, hl, hq, hr', ha, bel⟩
  have hn' : n = x.dv.length := by have := hr.1; simp [sv] at this; omega
  have eN : outN (mayB now began = true ∧ nodeOk m x) x (heaN m x now began bs bad) (heaE m x now began bs bad) = x := by
    unfold outN; rw [h1]; (repeat' split) <;> rfl
  have eL : outL (mayB now began = true ∧ nodeOk m x) (heaL m x now began bs bad) (heaE m x now began bs bad) = [] := by
    unfold outL; rw [h2]; (repeat' split) <;> rfl
  have eE : outE (mayB now began = true ∧ nodeOk m x) (heaE m x now began bs bad) = E := by
    unfold outE; rw [h3]; exact hE
  rw [eN] at hl hr' ⊢
  rw [eL] at ha
  rw [eE]
  obtain rfl : n' = n := by omega
  obtain rfl : k = 0 := acts_len ha
  exact ⟨A', c', B, d, rfl, hr' (.inr (.inl h3)), bel⟩
theorem hea_deaf {m : Md} {x : Nd} {now began : Int} {bs : List Nat} {bad : Bool} (h : deaf x bs bad ∨ (¬ x.ph = 1 ∧ ¬ x.ph = 2)) : heaN m x now began bs bad = x ∧ heaL m x now began bs bad = [] ∧ heaE m x now began bs bad = 0 := by
  unfold heaN heaL heaE
  by_cases hd : deaf x bs bad
  · rw [if_pos hd, if_pos hd, if_pos hd]; exact ⟨rfl, rfl, rfl⟩
  · obtain ⟨h1, h2⟩ := h.resolve_left hd
    rw [if_neg hd, if_neg hd, if_neg hd, if_neg h1, if_neg h1, if_neg h1, if_neg h2, if_neg h2]; exact ⟨rfl, rfl, rfl⟩
end Go.Proofs.YtlgedfljmgedfaaGreat
namespace Go.Proofs.YtlgedfljmgedfaaGreat
open Go Go.RowKit
open M10 (hid Md encm mv mz Oth range_keep there_keep range_other there_other setCells_oth setCells_size there_set Ty enct tv tz Fr encf fv fz)
open O6 (Oc enco ov oz)
open T9 (sv)
theorem okn_of {m : Md} {x : Nd} (k : NdOk m x) (hp : ¬ x.ph = 0) : nodeOk m x := by
  refine ⟨k.hm, k.ho, ?_, fun h => absurd h hp⟩
  have h7 := k.dl
  have t := k.ty
  obtain ⟨⟨t1, t2⟩, t3, t4⟩ := t
  have ha : anyFar m.d x.dv = false := by
    unfold anyFar
    rw [List.any_eq_false]
    intro y hy
    have := k.dd y hy
    unfold farB
    simp; omega
  have i1 := k.i1
  unfold fitB timeB farB
  rw [ha]
  simp [k.i0, k.p0, k.p1, k.s1, k.t0, k.t1, k.c0, k.c1, k.v0, k.v1, h7, t1, t2, t3, t4]
  omega
theorem NdOk.lis {m : Md} {x : Nd} (k : NdOk m x) {now : Int} (n0 : 0 ≤ now) (n1 : now ≤ 1152921504606846976) : NdOk m (lisN x now) :=
  ⟨k.hm, k.ho, k.i0, k.i1, by show (0 : Int) ≤ 1; omega, by show (1 : Int) ≤ 3; omega, k.s0, k.s1, n0, n1, k.c0, k.c1, k.mb, k.ty, k.dl, k.dd, k.v0, k.v1⟩
theorem one_ok : M10.OkT ⟨1, 0⟩ := ⟨⟨by decide, by decide⟩, by decide, by decide⟩
theorem NdOk.joi {m : Md} {x : Nd} (k : NdOk m x) {f : Fr} {st : Int} (hf : M10.OkF f) (hm : f.m < 65536) (s0 : 0 ≤ st) (s1 : st ≤ 1152921504606846976) : NdOk m (joiN x f st) := by
  obtain ⟨h1, h2, h3, h4, h5, h6, h7, h8, h9⟩ := id k.hm
  have hl := hf.2.2.2
  refine ⟨k.hm, k.ho, k.i0, k.i1, by show (0 : Int) ≤ 2; omega, by show (2 : Int) ≤ 3; omega, by show (0 : Int) ≤ (f.s : Int); omega, by show (f.s : Int) ≤ 4294967296; omega, s0, s1, by show -m.d ≤ 0; omega, by show 0 ≤ m.d; omega, ?_, one_ok, by show ((1 : Nat) : Int) ≤ m.n; omega, fun y hy => ?_, by show (0 : Int) ≤ 1; omega, by show (1 : Int) ≤ 3; omega⟩
  · have hff := ff_in hf
    have h := M10.addb_lt f.m f.f.toNat hm (by omega)
    show M10.subb (M10.addb f.m f.f.toNat) x.id.toNat < 65536
    unfold M10.subb
    split
    · exact Nat.lt_of_le_of_lt (Nat.sub_le _ _) h
    · exact h
  · have : y = 0 := by simpa [joiN] using hy
    subst this; omega
theorem new_ok' {m : Md} {id : Int} {o : Oc} (h : nodeOk m (newN id o)) : NdOk m (newN id o) := ok_of h (by show (0 : Int) ≤ 0; omega) (by show 0 < 65536; omega)
/-- Of a clock so many ticks' picoseconds. -/
theorem lead_two {o : Oc} (h : O6.Ok o) {l : Int} (l1 : 1 ≤ l) : O6.psO o l ≤ 2 * l * o.p := by
  obtain ⟨p1, p2, d1, d2, r1, r2⟩ := h
  unfold O6.psO O6.tot
  have hp : l * (o.p * (1000000000 + o.d)) ≤ l * (o.p * 1001000000) := Int.mul_le_mul_of_nonneg_left (Int.mul_le_mul_of_nonneg_left (by omega) (by omega)) (by omega)
  have e1 : l * (o.p * 1001000000) = l * o.p * 1001000000 := by rw [Int.mul_assoc]
  have e2 : 2 * l * o.p = 2 * (l * o.p) := Int.mul_assoc _ _ _
  have hq : 1 ≤ l * o.p := by
    have := Int.mul_le_mul l1 p1 (by omega) (by omega)
    omega
  rw [e1] at hp
  rw [e2]
  generalize l * o.p = q at *
  generalize l * (o.p * (1000000000 + o.d)) = z at *
  omega
theorem slot_two {o : Oc} (h : O6.Ok o) {l s : Int} (hs : l + 3 ≤ s) : O6.psO o l + 2 ≤ O6.psO o s := by
  obtain ⟨p1, p2, d1, d2, r1, r2⟩ := h
  unfold O6.psO O6.tot
  have hr : 999000000 ≤ o.p * (1000000000 + o.d) := by
    have := Int.mul_le_mul p1 (show 999000000 ≤ 1000000000 + o.d by omega) (by omega) (by omega)
    omega
  generalize o.p * (1000000000 + o.d) = R at *
  have h1 : (l + 3) * R ≤ s * R := Int.mul_le_mul_of_nonneg_right hs (by omega)
  rw [Int.add_mul] at h1
  generalize l * R = x at *
  generalize s * R = y at *
  omega
end Go.Proofs.YtlgedfljmgedfaaGreat
