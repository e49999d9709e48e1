/-
  Texts PA, PB, PC, PD of this seat, as far as they are used.
-/
import Derived.Test.YtlgedfljmgedfaaGreatP15
import Derived.Test.YtlgedfljmgedfaaGreatP16
namespace Go.Proofs.YtlgedfljmgedfaaGreat
open Go Go.RowKit
open M10 (hid Md encm mv mz Oth range_keep there_keep range_other there_other setCells_oth setCells_size there_set Ty enct tv tz Fr encf fv fz)
open O6 (Oc enco ov oz)
open T9 (sv)
/-! ### A node that may be -/
theorem timeB_of {t : Int} (h : timeB t = true) : 0 ≤ t ∧ t ≤ 1152921504606846976 := by
  unfold timeB at h
  simpa using h
theorem far_of {d t : Int} (h : farB d t = false) : -d ≤ t ∧ t ≤ d := by
  unfold farB at h
  simpa using h
theorem ok_of {m : Md} {x : Nd} (h : nodeOk m x) (s0 : 0 ≤ x.sl) (mb : x.mb < 65536) : NdOk m x := by
  obtain ⟨hm, ho, hf, _⟩ := h
  unfold fitB at hf
  simp only [Bool.and_eq_true, decide_eq_true_eq, Bool.not_eq_true'] at hf
  obtain ⟨⟨⟨⟨⟨⟨⟨⟨⟨h0, h1⟩, h2⟩, h3⟩, h4⟩, h5⟩, h6⟩, h7⟩, h8⟩, h9⟩ := hf
  have t3 := timeB_of h3
  have f4 := far_of h4
  refine ⟨hm, ho, h0.1, by omega, h1.1, h1.2, s0, h2, t3.1, t3.2, f4.1, f4.2, mb, ⟨⟨h5.1, h5.2⟩, h6.1, h6.2⟩, h7, fun y hy => ?_, h9.1, h9.2⟩
  unfold anyFar at h8
  rw [List.any_eq_false] at h8
  exact far_of (by simpa using h8 y hy)
/-! ### What is told -/
section
variable (b : Prop) [Decidable b]
def outN (x y : Nd) (E : Int) : Nd := if b then (if E = 0 then y else x) else x
def outL (l : List Ac) (E : Int) : List Ac := if b then (if E = 0 then l else []) else []
def outE (E : Int) : Int := if b then E else 1
end
/-- Where this is so the list told is the node's own. -/
def outQ (b : Prop) (x : Nd) (E : Int) : Prop := ¬ b ∨ E = 0 ∨ x.dv = []
section
variable {ops : Array Oper} {S : World → Prop} {o : Oper} {a : Act} {w : World} {Q : Exit → Act → World → Prop} {fuel : Nat} {listed : Array Bool}
theorem rd_cle (i : Nat) (d : Option Tmp) (f : FuncId) (args : Array Value) {R : Value → World → Prop} (hr : Region.ready .any ops listed = [i]) (hi : ops[i]? = some o) (hd : o.dst = d) (he : (execOp a.eval o).run Tryz.prog w = .ok (.enter f args) w) (hc : Calls Tryz.prog f args w fun e w' => ∃ v, e = .returned v ∧ R v w') (hw : Region.wanted o (yielded ops a.tmps) = true)
    (h : ∀ v w', R v w' → S w' ∧ wpAnyH Tryz.prog .any ops Q S fuel (listed.setIfInBounds i true) (a.put d v) w') : wpAnyH Tryz.prog .any ops Q S (fuel + 1) listed a w := by
  subst hd
  refine wpAnyH_ready hr (by simp) (AllReadyH.cons hi (fun K hK => ?_) AllReadyH.nil)
  rw [if_pos hw]
  unfold Oper.wp
  rw [he]
  refine hc.mono ?_
  rintro e w' ⟨v, rfl, h2⟩
  exact hK.out _ _ (h v w' h2).1 fun _ => (h v w' h2).2
end
theorem results_ctt {w : World} {g : Nat} {cs : List Value} {fn : Func} {p q r : Tmp} (h : fn.results = #[.cell p 32, .tmp q, .tmp r]) (tmps : Array Value) (hp : tmps.getD p undef = .pointer (some ⟨g, 0, none⟩)) (hx : w.rangeAt g 0 cs) (hs : cs.length = 14) :
    (results fn tmps).run Tryz.prog w = .ok (.tuple #[.agg cs.toArray, tmps.getD q undef, tmps.getD r undef]) w := by
  have := run_loadVar_mid (P := Tryz.prog) w g 0 32 cs _ hx Tryz.underlying32 rfl (by rw [size32, hs])
  have hp' : tmps[p]?.getD undef = .pointer (some ⟨g, 0, none⟩) := by simpa using hp
  simp only [results, h]
  simp [Result.andThen, hp', this, asAddr]
/-- RetD, the value named. -/
def RD (base : Nat) (y : Nd) (l : List Ac) (E : Int) (q r : Prop) (w : World) (v : Value) (w' : World) : Prop :=
  ∃ A n c B k d, v = .tuple #[nv y A n c, .slice B k d, .int .i64 E] ∧ n = y.dv.length ∧ (q → OwnR w' base 2 1 A n c (sv y.dv)) ∧ (r → T9.Row w' w'.heap.size A n (sv y.dv)) ∧ OwnR w' base 66 8 B k d (flat l) ∧ Below base w w'
theorem RetD.named {base : Nat} {y : Nd} {l : List Ac} {E : Int} {q r : Prop} {w : World} {f : FuncId} {args : Array Value} (h : Calls Tryz.prog f args w (RetD base y l E q r w)) : Calls Tryz.prog f args w fun e w' => ∃ v, e = .returned v ∧ RD base y l E q r w v w' :=
  h.mono fun _ _ ⟨A, n, c, B, k, d, he, r⟩ => ⟨_, he, A, n, c, B, k, d, rfl, r⟩
/-- do, whatever comes of it. -/
theorem do31_any (x : Nd) (m : Md) (A : Option Addr) (n c BB : Nat) (may : Bool) (cn : Nat) (y : Nd) (l : List Ac) (E : Int) (w : World) (hr : T9.Row w BB A n (sv x.dv)) (hB : BB ≤ w.heap.size) (hn : n ≤ 100)
    (HC : may = true → nodeOk m x → ∀ (K : Nat → Prop) (base g : Nat) (w1 : World), Wk w1 K base g x m [] → (∀ k, k < w.heap.size → K k) → Below w.heap.size w w1 → Calls Tryz.prog 31 #[.pointer (some ⟨g, 0, none⟩), .pointer (some ⟨cn, 0, none⟩)] w1 (RetW K base g y m l (.int .i64 E) w1)) :
    Calls Tryz.prog 29 #[mv m, nv x A n c, .bool may, .func (.func 31) #[] #[.pointer (some ⟨cn, 0, none⟩)]] w (RetD w.heap.size (outN (may = true ∧ nodeOk m x) x y E) (outL (may = true ∧ nodeOk m x) l E) (outE (may = true ∧ nodeOk m x) E) (outQ (may = true ∧ nodeOk m x) x E ∧ ¬ (may = true ∧ nodeOk m x ∧ ¬ E = 0)) (outQ (may = true ∧ nodeOk m x) x E) w) := by
  by_cases hm : may = true
  · by_cases hk : nodeOk m x
    · have hb : may = true ∧ nodeOk m x := ⟨hm, hk⟩
      unfold outN outL outE
      rw [if_pos hb, if_pos hb, if_pos hb]
      by_cases hE : E = 0
      · rw [if_pos hE, if_pos hE]
        have h := do31_ok x m A n c BB may cn w hr hB hn hm (if_pos hk) y l E hE (HC hm hk)
        rw [hE]
        exact h.mono fun _ _ ⟨A, n, c, B, k, d, h1, h2, h3, h4, h5⟩ => ⟨A, n, c, B, k, d, h1, h2, fun _ => h3 trivial, fun _ => h4 trivial, h5⟩
      · rw [if_neg hE, if_neg hE]
        have h := do31_err x m A n c BB may cn w hr hB hn hm (if_pos hk) y l E hE (HC hm hk)
        exact h.mono fun _ _ ⟨A, n, c, B, k, d, h1, h2, h3, h4, h5⟩ => ⟨A, n, c, B, k, d, h1, h2, fun hh => absurd ⟨hm, hk, hE⟩ hh.2, fun hh => h4 (by rcases hh with hh | hh | hh; exact absurd hb hh; exact absurd hh hE; exact hh), h5⟩
    · have hb : ¬ (may = true ∧ nodeOk m x) := fun h => hk h.2
      unfold outN outL outE
      rw [if_neg hb, if_neg hb, if_neg hb]
      exact (do31_chk x m A n c BB may cn w hr hB hn hm (if_neg hk)).mono fun _ _ ⟨A, n, c, B, k, d, h1, h2, h3, h4, h5⟩ => ⟨A, n, c, B, k, d, h1, h2, fun _ => h3 trivial, fun _ => h4 trivial, h5⟩
  · have hb : ¬ (may = true ∧ nodeOk m x) := fun h => hm h.1
    unfold outN outL outE
    rw [if_neg hb, if_neg hb, if_neg hb]
    exact (do31_not x m A n c BB may cn w hr hB hn (by simpa using hm)).mono fun _ _ ⟨A, n, c, B, k, d, h1, h2, h3, h4, h5⟩ => ⟨A, n, c, B, k, d, h1, h2, fun _ => h3 trivial, fun _ => h4 trivial, h5⟩
theorem do37_any (x : Nd) (m : Md) (A : Option Addr) (n c BB : Nat) (may : Bool) (cn : Nat) (y : Nd) (l : List Ac) (E : Int) (w : World) (hr : T9.Row w BB A n (sv x.dv)) (hB : BB ≤ w.heap.size) (hn : n ≤ 100)
    (HC : may = true → nodeOk m x → ∀ (K : Nat → Prop) (base g : Nat) (w1 : World), Wk w1 K base g x m [] → (∀ k, k < w.heap.size → K k) → Below w.heap.size w w1 → Calls Tryz.prog 37 #[.pointer (some ⟨g, 0, none⟩), .pointer (some ⟨cn, 0, none⟩)] w1 (RetW K base g y m l (.int .i64 E) w1)) :
    Calls Tryz.prog 29 #[mv m, nv x A n c, .bool may, .func (.func 37) #[] #[.pointer (some ⟨cn, 0, none⟩)]] w (RetD w.heap.size (outN (may = true ∧ nodeOk m x) x y E) (outL (may = true ∧ nodeOk m x) l E) (outE (may = true ∧ nodeOk m x) E) (outQ (may = true ∧ nodeOk m x) x E ∧ ¬ (may = true ∧ nodeOk m x ∧ ¬ E = 0)) (outQ (may = true ∧ nodeOk m x) x E) w) := by
  by_cases hm : may = true
  · by_cases hk : nodeOk m x
    · have hb : may = true ∧ nodeOk m x := ⟨hm, hk⟩
      unfold outN outL outE
      rw [if_pos hb, if_pos hb, if_pos hb]
      by_cases hE : E = 0
      · rw [if_pos hE, if_pos hE]
        have h := do37_ok x m A n c BB may cn w hr hB hn hm (if_pos hk) y l E hE (HC hm hk)
        rw [hE]
        exact h.mono fun _ _ ⟨A, n, c, B, k, d, h1, h2, h3, h4, h5⟩ => ⟨A, n, c, B, k, d, h1, h2, fun _ => h3 trivial, fun _ => h4 trivial, h5⟩
      · rw [if_neg hE, if_neg hE]
        have h := do37_err x m A n c BB may cn w hr hB hn hm (if_pos hk) y l E hE (HC hm hk)
        exact h.mono fun _ _ ⟨A, n, c, B, k, d, h1, h2, h3, h4, h5⟩ => ⟨A, n, c, B, k, d, h1, h2, fun hh => absurd ⟨hm, hk, hE⟩ hh.2, fun hh => h4 (by rcases hh with hh | hh | hh; exact absurd hb hh; exact absurd hh hE; exact hh), h5⟩
    · have hb : ¬ (may = true ∧ nodeOk m x) := fun h => hk h.2
      unfold outN outL outE
      rw [if_neg hb, if_neg hb, if_neg hb]
      exact (do37_chk x m A n c BB may cn w hr hB hn hm (if_neg hk)).mono fun _ _ ⟨A, n, c, B, k, d, h1, h2, h3, h4, h5⟩ => ⟨A, n, c, B, k, d, h1, h2, fun _ => h3 trivial, fun _ => h4 trivial, h5⟩
  · have hb : ¬ (may = true ∧ nodeOk m x) := fun h => hm h.1
    unfold outN outL outE
    rw [if_neg hb, if_neg hb, if_neg hb]
    exact (do37_not x m A n c BB may cn w hr hB hn (by simpa using hm)).mono fun _ _ ⟨A, n, c, B, k, d, h1, h2, h3, h4, h5⟩ => ⟨A, n, c, B, k, d, h1, h2, fun _ => h3 trivial, fun _ => h4 trivial, h5⟩
theorem do47_any (x : Nd) (m : Md) (A : Option Addr) (n c BB : Nat) (may : Bool) (cb cd cn cg : Nat) (y : Nd) (l : List Ac) (E : Int) (w : World) (hr : T9.Row w BB A n (sv x.dv)) (hB : BB ≤ w.heap.size) (hn : n ≤ 100)
    (HC : may = true → nodeOk m x → ∀ (K : Nat → Prop) (base g : Nat) (w1 : World), Wk w1 K base g x m [] → (∀ k, k < w.heap.size → K k) → Below w.heap.size w w1 → Calls Tryz.prog 47 #[.pointer (some ⟨g, 0, none⟩), .pointer (some ⟨cb, 0, none⟩), .pointer (some ⟨cd, 0, none⟩), .pointer (some ⟨cn, 0, none⟩), .pointer (some ⟨cg, 0, none⟩)] w1 (RetW K base g y m l (.int .i64 E) w1)) :
    Calls Tryz.prog 29 #[mv m, nv x A n c, .bool may, .func (.func 47) #[] #[.pointer (some ⟨cb, 0, none⟩), .pointer (some ⟨cd, 0, none⟩), .pointer (some ⟨cn, 0, none⟩), .pointer (some ⟨cg, 0, none⟩)]] w (RetD w.heap.size (outN (may = true ∧ nodeOk m x) x y E) (outL (may = true ∧ nodeOk m x) l E) (outE (may = true ∧ nodeOk m x) E) (outQ (may = true ∧ nodeOk m x) x E ∧ ¬ (may = true ∧ nodeOk m x ∧ ¬ E = 0)) (outQ (may = true ∧ nodeOk m x) x E) w) := by
  by_cases hm : may = true
  · by_cases hk : nodeOk m x
    · have hb : may = true ∧ nodeOk m x := ⟨hm, hk⟩
      unfold outN outL outE
      rw [if_pos hb, if_pos hb, if_pos hb]
      by_cases hE : E = 0
      · rw [if_pos hE, if_pos hE]
        have h := do47_ok x m A n c BB may cb cd cn cg w hr hB hn hm (if_pos hk) y l E hE (HC hm hk)
        rw [hE]
        exact h.mono fun _ _ ⟨A, n, c, B, k, d, h1, h2, h3, h4, h5⟩ => ⟨A, n, c, B, k, d, h1, h2, fun _ => h3 trivial, fun _ => h4 trivial, h5⟩
      · rw [if_neg hE, if_neg hE]
        have h := do47_err x m A n c BB may cb cd cn cg w hr hB hn hm (if_pos hk) y l E hE (HC hm hk)
        exact h.mono fun _ _ ⟨A, n, c, B, k, d, h1, h2, h3, h4, h5⟩ => ⟨A, n, c, B, k, d, h1, h2, fun hh => absurd ⟨hm, hk, hE⟩ hh.2, fun hh => h4 (by rcases hh with hh | hh | hh; exact absurd hb hh; exact absurd hh hE; exact hh), h5⟩
    · have hb : ¬ (may = true ∧ nodeOk m x) := fun h => hk h.2
      unfold outN outL outE
      rw [if_neg hb, if_neg hb, if_neg hb]
      exact (do47_chk x m A n c BB may cb cd cn cg w hr hB hn hm (if_neg hk)).mono fun _ _ ⟨A, n, c, B, k, d, h1, h2, h3, h4, h5⟩ => ⟨A, n, c, B, k, d, h1, h2, fun _ => h3 trivial, fun _ => h4 trivial, h5⟩
  · have hb : ¬ (may = true ∧ nodeOk m x) := fun h => hm h.1
    unfold outN outL outE
    rw [if_neg hb, if_neg hb, if_neg hb]
    exact (do47_not x m A n c BB may cb cd cn cg w hr hB hn (by simpa using hm)).mono fun _ _ ⟨A, n, c, B, k, d, h1, h2, h3, h4, h5⟩ => ⟨A, n, c, B, k, d, h1, h2, fun _ => h3 trivial, fun _ => h4 trivial, h5⟩
set_option maxRecDepth 100000 in
set_option maxHeartbeats 2000000 in
theorem wakeF_any (x : Nd) (m : Md) (A : Option Addr) (n c BB : Nat) (now : Int) (w : World) (hr : T9.Row w BB A n (sv x.dv)) (hB : BB ≤ w.heap.size) (hn : n ≤ 100) (s0 : 0 ≤ x.sl) (mb : x.mb < 65536) :
    Calls Tryz.prog 10 #[mv m, nv x A n c, .int .i64 now] w (RetD w.heap.size (outN (timeB now = true ∧ nodeOk m x) x (wakN x now) (wakE m x now)) (outL (timeB now = true ∧ nodeOk m x) (wakL m x now) (wakE m x now)) (outE (timeB now = true ∧ nodeOk m x) (wakE m x now)) (outQ (timeB now = true ∧ nodeOk m x) x (wakE m x now) ∧ ¬ (timeB now = true ∧ nodeOk m x ∧ ¬ (wakE m x now) = 0)) (outQ (timeB now = true ∧ nodeOk m x) x (wakE m x now)) w) := by
  have HM := hid (fun (w : World) => isTime_any now w)
  have HD : Hid (∀ (cn : Nat) (w1 : World), Below w.heap.size w w1 → w1.cell? ⟨cn, 0, none⟩ = some (.int .i64 now) → Calls Tryz.prog 29 #[mv m, nv x A n c, .bool (timeB now), .func (.func 31) #[] #[.pointer (some ⟨cn, 0, none⟩)]] w1 fun e w' => ∃ v, e = .returned v ∧ RD w1.heap.size (outN (timeB now = true ∧ nodeOk m x) x (wakN x now) (wakE m x now)) (outL (timeB now = true ∧ nodeOk m x) (wakL m x now) (wakE m x now)) (outE (timeB now = true ∧ nodeOk m x) (wakE m x now)) (outQ (timeB now = true ∧ nodeOk m x) x (wakE m x now) ∧ ¬ (timeB now = true ∧ nodeOk m x ∧ ¬ (wakE m x now) = 0)) (outQ (timeB now = true ∧ nodeOk m x) x (wakE m x now)) w1 v w') := hid (fun cn w1 k hc => RetD.named (do31_any x m A n c BB (timeB now) cn (wakN x now) (wakL m x now) (wakE m x now) w1 (hr.below (k.mono hB)) (Nat.le_trans hB k.size) hn (fun hm hk K base g w2 hw hK hb => wake_c K base g cn x m now w2 hw (ok_of hk s0 mb) ((hb.cell (World.block_lt_of_cell? w1 _ hc)).trans hc) (timeB_of hm).1 (timeB_of hm).2)))
  have hq : Hid (outQ (timeB now = true ∧ nodeOk m x) x (wakE m x now) → (outQ (timeB now = true ∧ nodeOk m x) x (wakE m x now) ∧ ¬ (timeB now = true ∧ nodeOk m x ∧ ¬ (wakE m x now) = 0)) ∨ (outN (timeB now = true ∧ nodeOk m x) x (wakN x now) (wakE m x now)).dv = []) := hid (fun h => by
    by_cases hh : timeB now = true ∧ nodeOk m x ∧ ¬ (wakE m x now) = 0
    · refine .inr ?_
      unfold outN
      rw [if_pos ⟨hh.1, hh.2.1⟩, if_neg hh.2.2]
      rcases h with h | h | h
      · exact absurd ⟨hh.1, hh.2.1⟩ h
      · exact absurd h hh.2.2
      · exact h
    · exact .inl ⟨h, hh⟩)
  clear hr hB hn s0 mb
  generalize outN (timeB now = true ∧ nodeOk m x) x (wakN x now) (wakE m x now) = yN at *
  generalize outL (timeB now = true ∧ nodeOk m x) (wakL m x now) (wakE m x now) = yL at *
  generalize outE (timeB now = true ∧ nodeOk m x) (wakE m x now) = yE at *
  generalize (outQ (timeB now = true ∧ nodeOk m x) x (wakE m x now) ∧ ¬ (timeB now = true ∧ nodeOk m x ∧ ¬ (wakE m x now) = 0)) = q at *
  generalize outQ (timeB now = true ∧ nodeOk m x) x (wakE m x now) = r at *
  go_enter Tryz.func10, Tryz.ntmps10
  go_wp2_with (first
    | (refine wpList_galloc 32 (encn nz none 0 0) zero32 rfl rfl ?_; intro w4 v4 b4 s4; have V1 := hid (((v1.below b2 l1).below b3 (Nat.lt_of_lt_of_le l1 b2.size)).below b4 (Nat.lt_of_lt_of_le l1 (Nat.le_trans b2.size b3.size))); have V2 := hid ((v2.below b3 l2).below b4 (Nat.lt_of_lt_of_le l2 b3.size)); have V3 := hid (v3.below b4 l3); have V4 := hid v4; have B4 := hid (((b1.trans (b2.mono b1.size)).trans (b3.mono (Nat.le_trans b1.size b2.size))).trans (b4.mono (Nat.le_trans b1.size (Nat.le_trans b2.size b3.size)))); have D4 : Hid (w.heap.size < w3.heap.size ∧ w1.heap.size < w3.heap.size ∧ w2.heap.size < w3.heap.size ∧ w3.heap.size < w4.heap.size) := hid ⟨Nat.lt_of_lt_of_le l1 (Nat.le_trans b2.size b3.size), Nat.lt_of_lt_of_le l2 b3.size, l3, v4.lt (by show 0 < 14; omega)⟩; clear v1 v2 v3 v4 b1 b2 b3 b4 s1 s2 s3 s4 l1 l2 l3)
    | (refine wpList_gbox 2 [.int .i64 now] rfl (.tmp 2) rfl rfl ?_; intro w3 v3 b3 s3; have l3 := v3.lt (by show 0 < 1; omega))
    | (refine wpList_gbox 32 (encn x A n c) rfl (.tmp 1) rfl rfl ?_; intro w2 v2 b2 s2; have l2 := v2.lt (by show 0 < 14; omega))
    | (refine wpList_gbox 23 (encm m) rfl (.tmp 0) rfl rfl ?_; intro w1 v1 b1 s1; have l1 := v1.lt (by show 0 < 5; omega)))
  generalize w1.heap.size = h2 at *
  generalize w2.heap.size = h3 at *
  have B5 := hid B4.out.drew
  have S1 : (fun w' => Var w' w.heap.size (encm m) ∧ Var w' h2 (encn x A n c) ∧ Var w' h3 [.int .i64 now]) w4.drew := ⟨V1.out.drew, V2.out.drew, V3.out.drew⟩
  have V4d := hid V4.out.drew
  refine wp_region_held_drew (S := fun w' => Var w' w.heap.size (encm m) ∧ Var w' h2 (encn x A n c) ∧ Var w' h3 [.int .i64 now]) (by kernel_rfl) S1 (fun _ => ?_)
  refine tk 0 (some 9) (mv m) rfl rfl (by kernel_rfl) (by kernel_rfl) (by kernel_rfl) (fun _ _ _ h => h) (yls 23 (encm m) rfl rfl (fun w h => h.1.1) Tryz.underlying23 rfl size23 rfl) S1 ?_
  simp only [Act.put, List.setIfInBounds_toArray, List.set_cons_zero, List.set_cons_succ]
  refine tk 1 (some 10) (nv x A n c) rfl rfl (by kernel_rfl) (by kernel_rfl) (by kernel_rfl) (fun _ _ _ h => h) (yls 32 (encn x A n c) rfl rfl (fun w h => h.2.1.1) Tryz.underlying32 rfl size32 rfl) S1 ?_
  simp only [Act.put, List.setIfInBounds_toArray, List.set_cons_zero, List.set_cons_succ]
  refine tk 2 (some 11) (.int .i64 now) rfl rfl (by kernel_rfl) (by kernel_rfl) (by kernel_rfl) (fun _ _ _ h => h) (yl1 2 (p := ⟨h3, 0, none⟩) (v := .int .i64 now) rfl rfl Tryz.isAgg2 (fun w h => h.2.2.cell rfl) rfl) S1 ?_
  simp only [Act.put, List.setIfInBounds_toArray, List.set_cons_zero, List.set_cons_succ]
  refine tk 4 (some 13) (.func (.func 31) #[] #[.pointer (some ⟨h3, 0, none⟩)]) rfl rfl (by kernel_rfl) (by kernel_rfl) (by kernel_rfl) (fun _ _ _ h => h) (.inl ⟨by rfl, fun _ _ => by unfold execOp; simp [go_sem] <;> rfl⟩) S1 ?_
  simp only [Act.put, List.setIfInBounds_toArray, List.set_cons_zero, List.set_cons_succ]
  refine rd_cl 3 (some 12) 30 #[.int .i64 now] _ (by kernel_rfl) rfl rfl (by unfold execOp; simp [go_sem] <;> rfl) (HM.out _) rfl ?_
  intro wq hwq
  subst hwq
  refine ⟨S1, ?_⟩
  simp only [Act.put, List.setIfInBounds_toArray, List.set_cons_zero, List.set_cons_succ]
  refine rd_cle 5 (some 14) 29 #[mv m, nv x A n c, .bool (timeB now), .func (.func 31) #[] #[.pointer (some ⟨h3, 0, none⟩)]] (by kernel_rfl) rfl rfl (by unfold execOp; simp [go_sem] <;> rfl) (HD.out h3 _ B5.out V3.out.drew.one) rfl ?_
  rintro v w6 ⟨A6, n6, c6, B, k, d, rfl, hl6, hq6, hr6, ha6, b6⟩
  have S6 : Var w6 w.heap.size (encm m) ∧ Var w6 h2 (encn x A n c) ∧ Var w6 h3 [.int .i64 now] := ⟨V1.out.drew.below b6 (V1.out.drew.lt (by show 0 < 5; omega)), V2.out.drew.below b6 (V2.out.drew.lt (by show 0 < 14; omega)), V3.out.drew.below b6 (V3.out.drew.lt (by show 0 < 1; omega))⟩
  have V6 := V4d.out.below b6 (V4d.out.lt (by show 0 < 14; omega))
  have g36 : w3.heap.size < w4.heap.size := D4.out.2.2.2
  refine ⟨S6, ?_⟩
  simp only [Act.put, List.setIfInBounds_toArray, List.set_cons_zero, List.set_cons_succ]
  refine tk 6 (some 15) (nv yN A6 n6 c6) rfl rfl (by kernel_rfl) (by kernel_rfl) (by kernel_rfl) (fun _ _ _ h => h) (.inl ⟨by rfl, fun _ _ => by go_simp⟩) S6 ?_
  simp only [Act.put, List.setIfInBounds_toArray, List.set_cons_zero, List.set_cons_succ]
  refine tk 7 (some 16) (.slice B k d) rfl rfl (by kernel_rfl) (by kernel_rfl) (by kernel_rfl) (fun _ _ _ h => h) (.inl ⟨by rfl, fun _ _ => by go_simp⟩) S6 ?_
  simp only [Act.put, List.setIfInBounds_toArray, List.set_cons_zero, List.set_cons_succ]
  refine tk 8 (some 17) (.int .i64 yE) rfl rfl (by kernel_rfl) (by kernel_rfl) (by kernel_rfl) (fun _ _ _ h => h) (.inl ⟨by rfl, fun _ _ => by go_simp⟩) S6 ?_
  simp only [Act.put, List.setIfInBounds_toArray, List.set_cons_zero, List.set_cons_succ]
  refine rd_gst 9 0 (encn yN A6 n6 c6) 32 (by kernel_rfl) rfl rfl rfl rfl rfl V6 (by show 0 + 14 ≤ 14; omega) size32 (encn_one _ _ _ _) rfl ?_
  intro w7 v7 b7 o7 s7
  have V7 : Var w7 w3.heap.size (encn yN A6 n6 c6) := v7
  have S7 : Var w7 w.heap.size (encm m) ∧ Var w7 h2 (encn x A n c) ∧ Var w7 h3 [.int .i64 now] := ⟨S6.1.other o7 (by have := D4.out; omega), S6.2.1.other o7 (by have := D4.out; omega), S6.2.2.other o7 (by have := D4.out; omega)⟩
  refine ⟨S7, ?_⟩
  refine tk 10 (some 7) (.slice B k d) rfl rfl (by kernel_rfl) (by kernel_rfl) (by kernel_rfl) (fun _ _ _ h => h) (.inl ⟨by rfl, fun _ _ => by go_simp⟩) S7 ?_
  simp only [Act.put, List.setIfInBounds_toArray, List.set_cons_zero, List.set_cons_succ]
  refine tk 11 (some 8) (.int .i64 yE) rfl rfl (by kernel_rfl) (by kernel_rfl) (by kernel_rfl) (fun _ _ _ h => h) (.inl ⟨by rfl, fun _ _ => by go_simp⟩) S7 ?_
  simp only [Act.put, List.setIfInBounds_toArray, List.set_cons_zero, List.set_cons_succ]
  refine wpAnyH_done (by kernel_rfl) ?_ _
  have hq7 : q → OwnR w7 w.heap.size 2 1 A6 n6 c6 (sv yN.dv) := fun h => ((hq6 h).oth o7 (fun e => by have := ((hq6 h).lt e).1; have : w4.drew.heap.size = w4.heap.size := rfl; omega)).base_le B5.out.size
  have ha7 : OwnR w7 w.heap.size 66 8 B k d (flat yL) := (ha6.oth o7 (fun e => by have := (ha6.lt e).1; have : w4.drew.heap.size = w4.heap.size := rfl; omega)).base_le B5.out.size
  have P7 := hid (And.intro V7 (And.intro hq7 (And.intro ha7 ((B5.out.trans (b6.mono B5.out.size)).trans (b7.mono (by have := D4.out; omega))))))
  have HL := hid hl6
  clear V7 hq7 ha7 S6 S7 V6 v7 b7 o7 s7 b6 hq6 hr6 ha6 hl6 S1 V1 V2 V3 V4 V4d B4 B5 HM HD g36
  go_wp2_with fail
  obtain ⟨V7, hq7, ha7, B7⟩ := P7.out
  refine bodyPost_ret (results_ctt (cs := encn yN A6 n6 c6) Tryz.results10 _ rfl V7.1 rfl) rfl ?_
  refine ⟨A6, n6, c6, B, k, d, rfl, HL.out, hq7, fun h => ?_, ha7, B7⟩
  rcases hq.out h with h | h
  · exact T9.Own.row (hq7 h)
  · rw [h] at HL ⊢
    rw [HL.out]
    exact T9.Row.nil _ _ _
set_option maxRecDepth 100000 in
set_option maxHeartbeats 2000000 in
theorem timerF_any (x : Nd) (m : Md) (A : Option Addr) (n c BB : Nat) (now : Int) (w : World) (hr : T9.Row w BB A n (sv x.dv)) (hB : BB ≤ w.heap.size) (hn : n ≤ 100) (s0 : 0 ≤ x.sl) (mb : x.mb < 65536) :
    Calls Tryz.prog 14 #[mv m, nv x A n c, .int .i64 now] w (RetD w.heap.size (outN (timeB now = true ∧ nodeOk m x) x (timN m x now) (timE m x now)) (outL (timeB now = true ∧ nodeOk m x) (timL m x now) (timE m x now)) (outE (timeB now = true ∧ nodeOk m x) (timE m x now)) (outQ (timeB now = true ∧ nodeOk m x) x (timE m x now) ∧ ¬ (timeB now = true ∧ nodeOk m x ∧ ¬ (timE m x now) = 0)) (outQ (timeB now = true ∧ nodeOk m x) x (timE m x now)) w) := by
  have HM := hid (fun (w : World) => isTime_any now w)
  have HD : Hid (∀ (cn : Nat) (w1 : World), Below w.heap.size w w1 → w1.cell? ⟨cn, 0, none⟩ = some (.int .i64 now) → Calls Tryz.prog 29 #[mv m, nv x A n c, .bool (timeB now), .func (.func 37) #[] #[.pointer (some ⟨cn, 0, none⟩)]] w1 fun e w' => ∃ v, e = .returned v ∧ RD w1.heap.size (outN (timeB now = true ∧ nodeOk m x) x (timN m x now) (timE m x now)) (outL (timeB now = true ∧ nodeOk m x) (timL m x now) (timE m x now)) (outE (timeB now = true ∧ nodeOk m x) (timE m x now)) (outQ (timeB now = true ∧ nodeOk m x) x (timE m x now) ∧ ¬ (timeB now = true ∧ nodeOk m x ∧ ¬ (timE m x now) = 0)) (outQ (timeB now = true ∧ nodeOk m x) x (timE m x now)) w1 v w') := hid (fun cn w1 k hc => RetD.named (do37_any x m A n c BB (timeB now) cn (timN m x now) (timL m x now) (timE m x now) w1 (hr.below (k.mono hB)) (Nat.le_trans hB k.size) hn (fun hm hk K base g w2 hw hK hb => timer_c K base g cn x m now w2 hw (ok_of hk s0 mb) ((hb.cell (World.block_lt_of_cell? w1 _ hc)).trans hc) (timeB_of hm).1 (timeB_of hm).2)))
  have hq : Hid (outQ (timeB now = true ∧ nodeOk m x) x (timE m x now) → (outQ (timeB now = true ∧ nodeOk m x) x (timE m x now) ∧ ¬ (timeB now = true ∧ nodeOk m x ∧ ¬ (timE m x now) = 0)) ∨ (outN (timeB now = true ∧ nodeOk m x) x (timN m x now) (timE m x now)).dv = []) := hid (fun h => by
    by_cases hh : timeB now = true ∧ nodeOk m x ∧ ¬ (timE m x now) = 0
    · refine .inr ?_
      unfold outN
      rw [if_pos ⟨hh.1, hh.2.1⟩, if_neg hh.2.2]
      rcases h with h | h | h
      · exact absurd ⟨hh.1, hh.2.1⟩ h
      · exact absurd h hh.2.2
      · exact h
    · exact .inl ⟨h, hh⟩)
  clear hr hB hn s0 mb
  generalize outN (timeB now = true ∧ nodeOk m x) x (timN m x now) (timE m x now) = yN at *
  generalize outL (timeB now = true ∧ nodeOk m x) (timL m x now) (timE m x now) = yL at *
  generalize outE (timeB now = true ∧ nodeOk m x) (timE m x now) = yE at *
  generalize (outQ (timeB now = true ∧ nodeOk m x) x (timE m x now) ∧ ¬ (timeB now = true ∧ nodeOk m x ∧ ¬ (timE m x now) = 0)) = q at *
  generalize outQ (timeB now = true ∧ nodeOk m x) x (timE m x now) = r at *
  go_enter Tryz.func14, Tryz.ntmps14
  go_wp2_with (first
    | (refine wpList_galloc 32 (encn nz none 0 0) zero32 rfl rfl ?_; intro w4 v4 b4 s4; have V1 := hid (((v1.below b2 l1).below b3 (Nat.lt_of_lt_of_le l1 b2.size)).below b4 (Nat.lt_of_lt_of_le l1 (Nat.le_trans b2.size b3.size))); have V2 := hid ((v2.below b3 l2).below b4 (Nat.lt_of_lt_of_le l2 b3.size)); have V3 := hid (v3.below b4 l3); have V4 := hid v4; have B4 := hid (((b1.trans (b2.mono b1.size)).trans (b3.mono (Nat.le_trans b1.size b2.size))).trans (b4.mono (Nat.le_trans b1.size (Nat.le_trans b2.size b3.size)))); have D4 : Hid (w.heap.size < w3.heap.size ∧ w1.heap.size < w3.heap.size ∧ w2.heap.size < w3.heap.size ∧ w3.heap.size < w4.heap.size) := hid ⟨Nat.lt_of_lt_of_le l1 (Nat.le_trans b2.size b3.size), Nat.lt_of_lt_of_le l2 b3.size, l3, v4.lt (by show 0 < 14; omega)⟩; clear v1 v2 v3 v4 b1 b2 b3 b4 s1 s2 s3 s4 l1 l2 l3)
    | (refine wpList_gbox 2 [.int .i64 now] rfl (.tmp 2) rfl rfl ?_; intro w3 v3 b3 s3; have l3 := v3.lt (by show 0 < 1; omega))
    | (refine wpList_gbox 32 (encn x A n c) rfl (.tmp 1) rfl rfl ?_; intro w2 v2 b2 s2; have l2 := v2.lt (by show 0 < 14; omega))
    | (refine wpList_gbox 23 (encm m) rfl (.tmp 0) rfl rfl ?_; intro w1 v1 b1 s1; have l1 := v1.lt (by show 0 < 5; omega)))
  generalize w1.heap.size = h2 at *
  generalize w2.heap.size = h3 at *
  have B5 := hid B4.out.drew
  have S1 : (fun w' => Var w' w.heap.size (encm m) ∧ Var w' h2 (encn x A n c) ∧ Var w' h3 [.int .i64 now]) w4.drew := ⟨V1.out.drew, V2.out.drew, V3.out.drew⟩
  have V4d := hid V4.out.drew
  refine wp_region_held_drew (S := fun w' => Var w' w.heap.size (encm m) ∧ Var w' h2 (encn x A n c) ∧ Var w' h3 [.int .i64 now]) (by kernel_rfl) S1 (fun _ => ?_)
  refine tk 0 (some 9) (mv m) rfl rfl (by kernel_rfl) (by kernel_rfl) (by kernel_rfl) (fun _ _ _ h => h) (yls 23 (encm m) rfl rfl (fun w h => h.1.1) Tryz.underlying23 rfl size23 rfl) S1 ?_
  simp only [Act.put, List.setIfInBounds_toArray, List.set_cons_zero, List.set_cons_succ]
  refine tk 1 (some 10) (nv x A n c) rfl rfl (by kernel_rfl) (by kernel_rfl) (by kernel_rfl) (fun _ _ _ h => h) (yls 32 (encn x A n c) rfl rfl (fun w h => h.2.1.1) Tryz.underlying32 rfl size32 rfl) S1 ?_
  simp only [Act.put, List.setIfInBounds_toArray, List.set_cons_zero, List.set_cons_succ]
  refine tk 2 (some 11) (.int .i64 now) rfl rfl (by kernel_rfl) (by kernel_rfl) (by kernel_rfl) (fun _ _ _ h => h) (yl1 2 (p := ⟨h3, 0, none⟩) (v := .int .i64 now) rfl rfl Tryz.isAgg2 (fun w h => h.2.2.cell rfl) rfl) S1 ?_
  simp only [Act.put, List.setIfInBounds_toArray, List.set_cons_zero, List.set_cons_succ]
  refine tk 4 (some 13) (.func (.func 37) #[] #[.pointer (some ⟨h3, 0, none⟩)]) rfl rfl (by kernel_rfl) (by kernel_rfl) (by kernel_rfl) (fun _ _ _ h => h) (.inl ⟨by rfl, fun _ _ => by unfold execOp; simp [go_sem] <;> rfl⟩) S1 ?_
  simp only [Act.put, List.setIfInBounds_toArray, List.set_cons_zero, List.set_cons_succ]
  refine rd_cl 3 (some 12) 30 #[.int .i64 now] _ (by kernel_rfl) rfl rfl (by unfold execOp; simp [go_sem] <;> rfl) (HM.out _) rfl ?_
  intro wq hwq
  subst hwq
  refine ⟨S1, ?_⟩
  simp only [Act.put, List.setIfInBounds_toArray, List.set_cons_zero, List.set_cons_succ]
  refine rd_cle 5 (some 14) 29 #[mv m, nv x A n c, .bool (timeB now), .func (.func 37) #[] #[.pointer (some ⟨h3, 0, none⟩)]] (by kernel_rfl) rfl rfl (by unfold execOp; simp [go_sem] <;> rfl) (HD.out h3 _ B5.out V3.out.drew.one) rfl ?_
  rintro v w6 ⟨A6, n6, c6, B, k, d, rfl, hl6, hq6, hr6, ha6, b6⟩
  have S6 : Var w6 w.heap.size (encm m) ∧ Var w6 h2 (encn x A n c) ∧ Var w6 h3 [.int .i64 now] := ⟨V1.out.drew.below b6 (V1.out.drew.lt (by show 0 < 5; omega)), V2.out.drew.below b6 (V2.out.drew.lt (by show 0 < 14; omega)), V3.out.drew.below b6 (V3.out.drew.lt (by show 0 < 1; omega))⟩
  have V6 := V4d.out.below b6 (V4d.out.lt (by show 0 < 14; omega))
  have g36 : w3.heap.size < w4.heap.size := D4.out.2.2.2
  refine ⟨S6, ?_⟩
  simp only [Act.put, List.setIfInBounds_toArray, List.set_cons_zero, List.set_cons_succ]
  refine tk 6 (some 15) (nv yN A6 n6 c6) rfl rfl (by kernel_rfl) (by kernel_rfl) (by kernel_rfl) (fun _ _ _ h => h) (.inl ⟨by rfl, fun _ _ => by go_simp⟩) S6 ?_
  simp only [Act.put, List.setIfInBounds_toArray, List.set_cons_zero, List.set_cons_succ]
  refine tk 7 (some 16) (.slice B k d) rfl rfl (by kernel_rfl) (by kernel_rfl) (by kernel_rfl) (fun _ _ _ h => h) (.inl ⟨by rfl, fun _ _ => by go_simp⟩) S6 ?_
  simp only [Act.put, List.setIfInBounds_toArray, List.set_cons_zero, List.set_cons_succ]
  refine tk 8 (some 17) (.int .i64 yE) rfl rfl (by kernel_rfl) (by kernel_rfl) (by kernel_rfl) (fun _ _ _ h => h) (.inl ⟨by rfl, fun _ _ => by go_simp⟩) S6 ?_
  simp only [Act.put, List.setIfInBounds_toArray, List.set_cons_zero, List.set_cons_succ]
  refine rd_gst 9 0 (encn yN A6 n6 c6) 32 (by kernel_rfl) rfl rfl rfl rfl rfl V6 (by show 0 + 14 ≤ 14; omega) size32 (encn_one _ _ _ _) rfl ?_
  intro w7 v7 b7 o7 s7
  have V7 : Var w7 w3.heap.size (encn yN A6 n6 c6) := v7
  have S7 : Var w7 w.heap.size (encm m) ∧ Var w7 h2 (encn x A n c) ∧ Var w7 h3 [.int .i64 now] := ⟨S6.1.other o7 (by have := D4.out; omega), S6.2.1.other o7 (by have := D4.out; omega), S6.2.2.other o7 (by have := D4.out; omega)⟩
  refine ⟨S7, ?_⟩
  refine tk 10 (some 7) (.slice B k d) rfl rfl (by kernel_rfl) (by kernel_rfl) (by kernel_rfl) (fun _ _ _ h => h) (.inl ⟨by rfl, fun _ _ => by go_simp⟩) S7 ?_
  simp only [Act.put, List.setIfInBounds_toArray, List.set_cons_zero, List.set_cons_succ]
  refine tk 11 (some 8) (.int .i64 yE) rfl rfl (by kernel_rfl) (by kernel_rfl) (by kernel_rfl) (fun _ _ _ h => h) (.inl ⟨by rfl, fun _ _ => by go_simp⟩) S7 ?_
  simp only [Act.put, List.setIfInBounds_toArray, List.set_cons_zero, List.set_cons_succ]
  refine wpAnyH_done (by kernel_rfl) ?_ _
  have hq7 : q → OwnR w7 w.heap.size 2 1 A6 n6 c6 (sv yN.dv) := fun h => ((hq6 h).oth o7 (fun e => by have := ((hq6 h).lt e).1; have : w4.drew.heap.size = w4.heap.size := rfl; omega)).base_le B5.out.size
  have ha7 : OwnR w7 w.heap.size 66 8 B k d (flat yL) := (ha6.oth o7 (fun e => by have := (ha6.lt e).1; have : w4.drew.heap.size = w4.heap.size := rfl; omega)).base_le B5.out.size
  have P7 := hid (And.intro V7 (And.intro hq7 (And.intro ha7 ((B5.out.trans (b6.mono B5.out.size)).trans (b7.mono (by have := D4.out; omega))))))
  have HL := hid hl6
  clear V7 hq7 ha7 S6 S7 V6 v7 b7 o7 s7 b6 hq6 hr6 ha6 hl6 S1 V1 V2 V3 V4 V4d B4 B5 HM HD g36
  go_wp2_with fail
  obtain ⟨V7, hq7, ha7, B7⟩ := P7.out
  refine bodyPost_ret (results_ctt (cs := encn yN A6 n6 c6) Tryz.results14 _ rfl V7.1 rfl) rfl ?_
  refine ⟨A6, n6, c6, B, k, d, rfl, HL.out, hq7, fun h => ?_, ha7, B7⟩
  rcases hq.out h with h | h
  · exact T9.Own.row (hq7 h)
  · rw [h] at HL ⊢
    rw [HL.out]
    exact T9.Row.nil _ _ _
end Go.Proofs.YtlgedfljmgedfaaGreat
namespace Go.Proofs.YtlgedfljmgedfaaGreat
open Go Go.RowKit
open M10 (hid Md encm mv mz Oth range_keep there_keep range_other there_other setCells_oth setCells_size there_set Ty enct tv tz Fr encf fv fz)
open O6 (Oc enco ov oz)
open T9 (sv)
/-! ### Hear -/
def mayB (now began : Int) : Bool := timeB now && (decide (0 ≤ began) && decide (began ≤ now))
theorem mayB_of {now began : Int} (h : mayB now began = true) : 0 ≤ began ∧ began ≤ now ∧ now ≤ 1152921504606846976 := by
  unfold mayB at h
  simp only [Bool.and_eq_true, decide_eq_true_eq] at h
  exact ⟨h.2.1, h.2.2, (timeB_of h.1).2⟩
set_option maxRecDepth 100000 in
set_option maxHeartbeats 4000000 in
theorem hearF_t (x : Nd) (m : Md) (A Ab : Option Addr) (n c BB nb kb Bb : Nat) (now began : Int) (bs : List Nat) (bad : Bool) (w : World) (hr : T9.Row w BB A n (sv x.dv)) (hB : BB ≤ w.heap.size) (hn : n ≤ 100) (s0 : 0 ≤ x.sl) (mb : x.mb < 65536)
    (hb : F8.Row w Bb Ab nb (F8.bv bs)) (hBb : Bb ≤ w.heap.size) (ho : F8.Oct bs) (hnc : nb ≤ kb) (hn5 : nb ≤ 1048579) (ht : timeB now = true) :
    Calls Tryz.prog 16 #[mv m, nv x A n c, .int .i64 now, .int .i64 began, .slice Ab nb kb, .bool bad] w (RetD w.heap.size (outN (mayB now began = true ∧ nodeOk m x) x (heaN m x now began bs bad) (heaE m x now began bs bad)) (outL (mayB now began = true ∧ nodeOk m x) (heaL m x now began bs bad) (heaE m x now began bs bad)) (outE (mayB now began = true ∧ nodeOk m x) (heaE m x now began bs bad)) (outQ (mayB now began = true ∧ nodeOk m x) x (heaE m x now began bs bad) ∧ ¬ (mayB now began = true ∧ nodeOk m x ∧ ¬ (heaE m x now began bs bad) = 0)) (outQ (mayB now began = true ∧ nodeOk m x) x (heaE m x now began bs bad)) w) := by
  have HM := hid (fun (w : World) => by have hf := isTime_any now w; rw [ht] at hf; exact hf)
  have HW := hid (fun (w : World) => within_46 began 0 now _ rfl w)
  have HD : Hid (∀ (cb cd cn cg : Nat) (w1 : World), Below w.heap.size w w1 → w1.cell? ⟨cb, 0, none⟩ = some (.slice Ab nb kb) → w1.cell? ⟨cd, 0, none⟩ = some (.bool bad) → w1.cell? ⟨cn, 0, none⟩ = some (.int .i64 now) → w1.cell? ⟨cg, 0, none⟩ = some (.int .i64 began) → Calls Tryz.prog 29 #[mv m, nv x A n c, .bool (mayB now began), .func (.func 47) #[] #[.pointer (some ⟨cb, 0, none⟩), .pointer (some ⟨cd, 0, none⟩), .pointer (some ⟨cn, 0, none⟩), .pointer (some ⟨cg, 0, none⟩)]] w1 fun e w' => ∃ v, e = .returned v ∧ RD w1.heap.size (outN (mayB now began = true ∧ nodeOk m x) x (heaN m x now began bs bad) (heaE m x now began bs bad)) (outL (mayB now began = true ∧ nodeOk m x) (heaL m x now began bs bad) (heaE m x now began bs bad)) (outE (mayB now began = true ∧ nodeOk m x) (heaE m x now began bs bad)) (outQ (mayB now began = true ∧ nodeOk m x) x (heaE m x now began bs bad) ∧ ¬ (mayB now began = true ∧ nodeOk m x ∧ ¬ (heaE m x now began bs bad) = 0)) (outQ (mayB now began = true ∧ nodeOk m x) x (heaE m x now began bs bad)) w1 v w') := hid (fun cb cd cn cg w1 k hcb hcd hcn hcg => RetD.named (do47_any x m A n c BB (mayB now began) cb cd cn cg (heaN m x now began bs bad) (heaL m x now began bs bad) (heaE m x now began bs bad) w1 (hr.below (k.mono hB)) (Nat.le_trans hB k.size) hn (fun hm hk K base g w2 hw hK hkb => hear_c K base g cb cd cn cg x m now began Ab nb kb Bb bs bad w2 hw (ok_of hk s0 mb) ((hkb.cell (World.block_lt_of_cell? w1 _ hcb)).trans hcb) ((hkb.cell (World.block_lt_of_cell? w1 _ hcd)).trans hcd) ((hkb.cell (World.block_lt_of_cell? w1 _ hcn)).trans hcn) ((hkb.cell (World.block_lt_of_cell? w1 _ hcg)).trans hcg) ((hb.below (k.mono hBb)).below (hkb.mono (Nat.le_trans hBb k.size))) (Nat.le_trans hBb (Nat.le_trans k.size hkb.size)) ho hnc hn5 (mayB_of hm).1 (mayB_of hm).2.1 (mayB_of hm).2.2)))
  have hq : Hid (outQ (mayB now began = true ∧ nodeOk m x) x (heaE m x now began bs bad) → (outQ (mayB now began = true ∧ nodeOk m x) x (heaE m x now began bs bad) ∧ ¬ (mayB now began = true ∧ nodeOk m x ∧ ¬ (heaE m x now began bs bad) = 0)) ∨ (outN (mayB now began = true ∧ nodeOk m x) x (heaN m x now began bs bad) (heaE m x now began bs bad)).dv = []) := hid (fun h => by
    by_cases hh : mayB now began = true ∧ nodeOk m x ∧ ¬ (heaE m x now began bs bad) = 0
    · refine .inr ?_
      unfold outN
      rw [if_pos ⟨hh.1, hh.2.1⟩, if_neg hh.2.2]
      rcases h with h | h | h
      · exact absurd ⟨hh.1, hh.2.1⟩ h
      · exact absurd h hh.2.2
      · exact h
    · exact .inl ⟨h, hh⟩)
  clear hr hB hn s0 mb hb hBb ho hnc hn5
  generalize outN (mayB now began = true ∧ nodeOk m x) x (heaN m x now began bs bad) (heaE m x now began bs bad) = yN at *
  generalize outL (mayB now began = true ∧ nodeOk m x) (heaL m x now began bs bad) (heaE m x now began bs bad) = yL at *
  generalize outE (mayB now began = true ∧ nodeOk m x) (heaE m x now began bs bad) = yE at *
  generalize (outQ (mayB now began = true ∧ nodeOk m x) x (heaE m x now began bs bad) ∧ ¬ (mayB now began = true ∧ nodeOk m x ∧ ¬ (heaE m x now began bs bad) = 0)) = q at *
  generalize outQ (mayB now began = true ∧ nodeOk m x) x (heaE m x now began bs bad) = r at *
  have hmay : mayB now began = (decide (0 ≤ began) && decide (began ≤ now)) := by unfold mayB; rw [ht]; rfl
  rw [hmay] at HD
  clear hmay ht
  generalize (decide (0 ≤ began) && decide (began ≤ now)) = wb at *
  go_enter Tryz.func16, Tryz.ntmps16
  go_wp2_with (first
    | (refine wpList_galloc 32 (encn nz none 0 0) zero32 rfl rfl ?_; intro w7 v7 b7 s7; have V1 := hid ((((((v1.below b2 l1).below b3 (Nat.lt_of_lt_of_le l1 b2.size)).below b4 (Nat.lt_of_lt_of_le (Nat.lt_of_lt_of_le l1 b2.size) b3.size)).below b5 (Nat.lt_of_lt_of_le (Nat.lt_of_lt_of_le (Nat.lt_of_lt_of_le l1 b2.size) b3.size) b4.size)).below b6 (Nat.lt_of_lt_of_le (Nat.lt_of_lt_of_le (Nat.lt_of_lt_of_le (Nat.lt_of_lt_of_le l1 b2.size) b3.size) b4.size) b5.size)).below b7 (Nat.lt_of_lt_of_le (Nat.lt_of_lt_of_le (Nat.lt_of_lt_of_le (Nat.lt_of_lt_of_le (Nat.lt_of_lt_of_le l1 b2.size) b3.size) b4.size) b5.size) b6.size)); have V2 := hid (((((v2.below b3 l2).below b4 (Nat.lt_of_lt_of_le l2 b3.size)).below b5 (Nat.lt_of_lt_of_le (Nat.lt_of_lt_of_le l2 b3.size) b4.size)).below b6 (Nat.lt_of_lt_of_le (Nat.lt_of_lt_of_le (Nat.lt_of_lt_of_le l2 b3.size) b4.size) b5.size)).below b7 (Nat.lt_of_lt_of_le (Nat.lt_of_lt_of_le (Nat.lt_of_lt_of_le (Nat.lt_of_lt_of_le l2 b3.size) b4.size) b5.size) b6.size)); have V3 := hid ((((v3.below b4 l3).below b5 (Nat.lt_of_lt_of_le l3 b4.size)).below b6 (Nat.lt_of_lt_of_le (Nat.lt_of_lt_of_le l3 b4.size) b5.size)).below b7 (Nat.lt_of_lt_of_le (Nat.lt_of_lt_of_le (Nat.lt_of_lt_of_le l3 b4.size) b5.size) b6.size)); have V4 := hid (((v4.below b5 l4).below b6 (Nat.lt_of_lt_of_le l4 b5.size)).below b7 (Nat.lt_of_lt_of_le (Nat.lt_of_lt_of_le l4 b5.size) b6.size)); have V5 := hid ((v5.below b6 l5).below b7 (Nat.lt_of_lt_of_le l5 b6.size)); have V6 := hid (v6.below b7 l6); have V7 := hid v7; have B7 := hid ((((((b1.trans (b2.mono b1.size)).trans (b3.mono (Nat.le_trans b1.size b2.size))).trans (b4.mono (Nat.le_trans (Nat.le_trans b1.size b2.size) b3.size))).trans (b5.mono (Nat.le_trans (Nat.le_trans (Nat.le_trans b1.size b2.size) b3.size) b4.size))).trans (b6.mono (Nat.le_trans (Nat.le_trans (Nat.le_trans (Nat.le_trans b1.size b2.size) b3.size) b4.size) b5.size))).trans (b7.mono (Nat.le_trans (Nat.le_trans (Nat.le_trans (Nat.le_trans (Nat.le_trans b1.size b2.size) b3.size) b4.size) b5.size) b6.size))); have D7 : Hid (w.heap.size < w6.heap.size ∧ w1.heap.size < w6.heap.size ∧ w2.heap.size < w6.heap.size ∧ w3.heap.size < w6.heap.size ∧ w4.heap.size < w6.heap.size ∧ w5.heap.size < w6.heap.size ∧ w6.heap.size < w7.heap.size) := hid ⟨(Nat.lt_of_lt_of_le (Nat.lt_of_lt_of_le (Nat.lt_of_lt_of_le (Nat.lt_of_lt_of_le (Nat.lt_of_lt_of_le l1 b2.size) b3.size) b4.size) b5.size) b6.size), (Nat.lt_of_lt_of_le (Nat.lt_of_lt_of_le (Nat.lt_of_lt_of_le (Nat.lt_of_lt_of_le l2 b3.size) b4.size) b5.size) b6.size), (Nat.lt_of_lt_of_le (Nat.lt_of_lt_of_le (Nat.lt_of_lt_of_le l3 b4.size) b5.size) b6.size), (Nat.lt_of_lt_of_le (Nat.lt_of_lt_of_le l4 b5.size) b6.size), (Nat.lt_of_lt_of_le l5 b6.size), l6, v7.lt (by show 0 < 14; omega)⟩; clear v1 b1 s1 v2 b2 s2 v3 b3 s3 v4 b4 s4 v5 b5 s5 v6 b6 s6 v7 b7 s7 l1 l2 l3 l4 l5 l6)
    | (refine wpList_gbox 4 ([.bool bad]) rfl (.tmp 5) rfl rfl ?_; intro w6 v6 b6 s6; have l6 := v6.lt (by show 0 < 1; omega))
    | (refine wpList_gbox 33 ([.slice Ab nb kb]) rfl (.tmp 4) rfl rfl ?_; intro w5 v5 b5 s5; have l5 := v5.lt (by show 0 < 1; omega))
    | (refine wpList_gbox 2 ([.int .i64 began]) rfl (.tmp 3) rfl rfl ?_; intro w4 v4 b4 s4; have l4 := v4.lt (by show 0 < 1; omega))
    | (refine wpList_gbox 2 ([.int .i64 now]) rfl (.tmp 2) rfl rfl ?_; intro w3 v3 b3 s3; have l3 := v3.lt (by show 0 < 1; omega))
    | (refine wpList_gbox 32 (encn x A n c) rfl (.tmp 1) rfl rfl ?_; intro w2 v2 b2 s2; have l2 := v2.lt (by show 0 < 14; omega))
    | (refine wpList_gbox 23 (encm m) rfl (.tmp 0) rfl rfl ?_; intro w1 v1 b1 s1; have l1 := v1.lt (by show 0 < 5; omega)))
  generalize w1.heap.size = h2 at *
  generalize w2.heap.size = h3 at *
  generalize w3.heap.size = h4 at *
  generalize w4.heap.size = h5 at *
  generalize w5.heap.size = h6 at *
  have B8 := hid B7.out.drew
  have S1 : Var w7.drew w.heap.size (encm m) ∧ Var w7.drew h2 (encn x A n c) ∧ Var w7.drew h3 ([.int .i64 now]) ∧ Var w7.drew h4 ([.int .i64 began]) ∧ Var w7.drew h5 ([.slice Ab nb kb]) ∧ Var w7.drew h6 ([.bool bad]) := ⟨V1.out.drew, V2.out.drew, V3.out.drew, V4.out.drew, V5.out.drew, V6.out.drew⟩
  have V7d := hid V7.out.drew
  refine wp_region_held_drew (S := fun w' => Var w' w.heap.size (encm m) ∧ Var w' h2 (encn x A n c) ∧ Var w' h3 ([.int .i64 now]) ∧ Var w' h4 ([.int .i64 began]) ∧ Var w' h5 ([.slice Ab nb kb]) ∧ Var w' h6 ([.bool bad])) (by kernel_rfl) S1 (fun _ => ?_)
  refine tk 0 (some 15) (mv m) rfl rfl (by kernel_rfl) (by kernel_rfl) (by kernel_rfl) (fun _ _ _ h => h) (yls 23 (encm m) rfl rfl (fun w h => h.1.1) Tryz.underlying23 rfl size23 rfl) S1 ?_
  simp only [Act.put, List.setIfInBounds_toArray, List.set_cons_zero, List.set_cons_succ]
  refine tk 1 (some 16) (nv x A n c) rfl rfl (by kernel_rfl) (by kernel_rfl) (by kernel_rfl) (fun _ _ _ h => h) (yls 32 (encn x A n c) rfl rfl (fun w h => h.2.1.1) Tryz.underlying32 rfl size32 rfl) S1 ?_
  simp only [Act.put, List.setIfInBounds_toArray, List.set_cons_zero, List.set_cons_succ]
  refine tk 2 (some 17) (.int .i64 now) rfl rfl (by kernel_rfl) (by kernel_rfl) (by kernel_rfl) (fun _ _ _ h => h) (yl1 2 (p := ⟨h3, 0, none⟩) (v := .int .i64 now) rfl rfl Tryz.isAgg2 (fun w h => h.2.2.1.cell rfl) rfl) S1 ?_
  simp only [Act.put, List.setIfInBounds_toArray, List.set_cons_zero, List.set_cons_succ]
  refine tk 9 (some 24) (.func (.func 47) #[] #[.pointer (some ⟨h5, 0, none⟩), .pointer (some ⟨h6, 0, none⟩), .pointer (some ⟨h3, 0, none⟩), .pointer (some ⟨h4, 0, none⟩)]) rfl rfl (by kernel_rfl) (by kernel_rfl) (by kernel_rfl) (fun _ _ _ h => h) (.inl ⟨by rfl, fun _ _ => by unfold execOp; simp [go_sem] <;> rfl⟩) S1 ?_
  simp only [Act.put, List.setIfInBounds_toArray, List.set_cons_zero, List.set_cons_succ]
  refine rd_cl 3 (some 18) 30 #[.int .i64 now] _ (by kernel_rfl) rfl rfl (by unfold execOp; simp [go_sem] <;> rfl) (HM.out _) rfl ?_
  intro wq hwq
  subst hwq
  refine ⟨S1, ?_⟩
  simp only [Act.put, List.setIfInBounds_toArray, List.set_cons_zero, List.set_cons_succ]
  refine tk 4 (some 19) (.bool true) rfl rfl (by kernel_rfl) (by kernel_rfl) (by kernel_rfl) (fun _ _ _ h => h) (.inl ⟨by rfl, fun _ _ => by go_simp⟩) S1 ?_
  simp only [Act.put, List.setIfInBounds_toArray, List.set_cons_zero, List.set_cons_succ]
  refine tk 5 (some 20) (.int .i64 began) rfl rfl (by kernel_rfl) (by kernel_rfl) (by kernel_rfl) (fun _ _ _ h => h) (yl1 2 (p := ⟨h4, 0, none⟩) (v := .int .i64 began) rfl rfl Tryz.isAgg2 (fun w h => h.2.2.2.1.cell rfl) rfl) S1 ?_
  simp only [Act.put, List.setIfInBounds_toArray, List.set_cons_zero, List.set_cons_succ]
  refine tk 6 (some 21) (.int .i64 now) rfl rfl (by kernel_rfl) (by kernel_rfl) (by kernel_rfl) (fun _ _ _ h => h) (yl1 2 (p := ⟨h3, 0, none⟩) (v := .int .i64 now) rfl rfl Tryz.isAgg2 (fun w h => h.2.2.1.cell rfl) rfl) S1 ?_
  simp only [Act.put, List.setIfInBounds_toArray, List.set_cons_zero, List.set_cons_succ]
  refine rd_cl 7 (some 22) 46 #[.int .i64 began, .int .i64 0, .int .i64 now] _ (by kernel_rfl) rfl rfl (by unfold execOp; simp [go_sem] <;> rfl) (HW.out _) rfl ?_
  intro wq hwq
  subst hwq
  refine ⟨S1, ?_⟩
  simp only [Act.put, List.setIfInBounds_toArray, List.set_cons_zero, List.set_cons_succ]
  refine tk 8 (some 23) (.bool wb) rfl rfl (by kernel_rfl) (by kernel_rfl) (by kernel_rfl) (fun _ _ _ h => h) (.inl ⟨by rfl, fun _ _ => by go_simp⟩) S1 ?_
  simp only [Act.put, List.setIfInBounds_toArray, List.set_cons_zero, List.set_cons_succ]
  refine rd_cle 10 (some 25) 29 #[mv m, nv x A n c, .bool wb, .func (.func 47) #[] #[.pointer (some ⟨h5, 0, none⟩), .pointer (some ⟨h6, 0, none⟩), .pointer (some ⟨h3, 0, none⟩), .pointer (some ⟨h4, 0, none⟩)]] (by kernel_rfl) rfl rfl (by unfold execOp; simp [go_sem] <;> rfl) (HD.out h5 h6 h3 h4 _ B8.out V5.out.drew.one V6.out.drew.one V3.out.drew.one V4.out.drew.one) rfl ?_
  rintro v w9 ⟨A6, n6, c6, B, k, d, rfl, hl6, hq6, hr6, ha6, b9⟩
  have S9 : Var w9 w.heap.size (encm m) ∧ Var w9 h2 (encn x A n c) ∧ Var w9 h3 ([.int .i64 now]) ∧ Var w9 h4 ([.int .i64 began]) ∧ Var w9 h5 ([.slice Ab nb kb]) ∧ Var w9 h6 ([.bool bad]) := ⟨V1.out.drew.below b9 (V1.out.drew.lt (by show 0 < 5; omega)), V2.out.drew.below b9 (V2.out.drew.lt (by show 0 < 14; omega)), V3.out.drew.below b9 (V3.out.drew.lt (by show 0 < 1; omega)), V4.out.drew.below b9 (V4.out.drew.lt (by show 0 < 1; omega)), V5.out.drew.below b9 (V5.out.drew.lt (by show 0 < 1; omega)), V6.out.drew.below b9 (V6.out.drew.lt (by show 0 < 1; omega))⟩
  have V9 := V7d.out.below b9 (V7d.out.lt (by show 0 < 14; omega))
  have g67 : w6.heap.size < w7.heap.size := D7.out.2.2.2.2.2.2
  refine ⟨S9, ?_⟩
  simp only [Act.put, List.setIfInBounds_toArray, List.set_cons_zero, List.set_cons_succ]
  refine tk 11 (some 26) (nv yN A6 n6 c6) rfl rfl (by kernel_rfl) (by kernel_rfl) (by kernel_rfl) (fun _ _ _ h => h) (.inl ⟨by rfl, fun _ _ => by go_simp⟩) S9 ?_
  simp only [Act.put, List.setIfInBounds_toArray, List.set_cons_zero, List.set_cons_succ]
  refine tk 12 (some 27) (.slice B k d) rfl rfl (by kernel_rfl) (by kernel_rfl) (by kernel_rfl) (fun _ _ _ h => h) (.inl ⟨by rfl, fun _ _ => by go_simp⟩) S9 ?_
  simp only [Act.put, List.setIfInBounds_toArray, List.set_cons_zero, List.set_cons_succ]
  refine tk 13 (some 28) (.int .i64 yE) rfl rfl (by kernel_rfl) (by kernel_rfl) (by kernel_rfl) (fun _ _ _ h => h) (.inl ⟨by rfl, fun _ _ => by go_simp⟩) S9 ?_
  simp only [Act.put, List.setIfInBounds_toArray, List.set_cons_zero, List.set_cons_succ]
  refine rd_gst 14 0 (encn yN A6 n6 c6) 32 (by kernel_rfl) rfl rfl rfl rfl rfl V9 (by show 0 + 14 ≤ 14; omega) size32 (encn_one _ _ _ _) rfl ?_
  intro w10 v10 b10 o10 s10
  have V10 : Var w10 w6.heap.size (encn yN A6 n6 c6) := v10
  have S10 : Var w10 w.heap.size (encm m) ∧ Var w10 h2 (encn x A n c) ∧ Var w10 h3 ([.int .i64 now]) ∧ Var w10 h4 ([.int .i64 began]) ∧ Var w10 h5 ([.slice Ab nb kb]) ∧ Var w10 h6 ([.bool bad]) := ⟨S9.1.other o10 (by have := D7.out; omega), S9.2.1.other o10 (by have := D7.out; omega), S9.2.2.1.other o10 (by have := D7.out; omega), S9.2.2.2.1.other o10 (by have := D7.out; omega), S9.2.2.2.2.1.other o10 (by have := D7.out; omega), S9.2.2.2.2.2.other o10 (by have := D7.out; omega)⟩
  refine ⟨S10, ?_⟩
  refine tk 15 (some 13) (.slice B k d) rfl rfl (by kernel_rfl) (by kernel_rfl) (by kernel_rfl) (fun _ _ _ h => h) (.inl ⟨by rfl, fun _ _ => by go_simp⟩) S10 ?_
  simp only [Act.put, List.setIfInBounds_toArray, List.set_cons_zero, List.set_cons_succ]
  refine tk 16 (some 14) (.int .i64 yE) rfl rfl (by kernel_rfl) (by kernel_rfl) (by kernel_rfl) (fun _ _ _ h => h) (.inl ⟨by rfl, fun _ _ => by go_simp⟩) S10 ?_
  simp only [Act.put, List.setIfInBounds_toArray, List.set_cons_zero, List.set_cons_succ]
  refine wpAnyH_done (by kernel_rfl) ?_ _
  have hq7 : q → OwnR w10 w.heap.size 2 1 A6 n6 c6 (sv yN.dv) := fun h => ((hq6 h).oth o10 (fun e => by have := ((hq6 h).lt e).1; have : w7.drew.heap.size = w7.heap.size := rfl; omega)).base_le B8.out.size
  have ha7 : OwnR w10 w.heap.size 66 8 B k d (flat yL) := (ha6.oth o10 (fun e => by have := (ha6.lt e).1; have : w7.drew.heap.size = w7.heap.size := rfl; omega)).base_le B8.out.size
  have P7 := hid (And.intro V10 (And.intro hq7 (And.intro ha7 ((B8.out.trans (b9.mono B8.out.size)).trans (b10.mono (by have := D7.out; omega))))))
  have HL := hid hl6
  clear V10 hq7 ha7 S9 S10 V9 v10 b10 o10 s10 b9 hq6 hr6 ha6 hl6 S1 V1 V2 V3 V4 V5 V6 V7 V7d B7 B8 HM HD g67
  go_wp2_with fail
  obtain ⟨V7, hq7, ha7, B7⟩ := P7.out
  refine bodyPost_ret (results_ctt (cs := encn yN A6 n6 c6) Tryz.results16 _ rfl V7.1 rfl) rfl ?_
  refine ⟨A6, n6, c6, B, k, d, rfl, HL.out, hq7, fun h => ?_, ha7, B7⟩
  rcases hq.out h with h | h
  · exact T9.Own.row (hq7 h)
  · rw [h] at HL ⊢
    rw [HL.out]
    exact T9.Row.nil _ _ _
set_option maxRecDepth 100000 in
set_option maxHeartbeats 4000000 in
theorem hearF_f (x : Nd) (m : Md) (A Ab : Option Addr) (n c BB nb kb Bb : Nat) (now began : Int) (bs : List Nat) (bad : Bool) (w : World) (hr : T9.Row w BB A n (sv x.dv)) (hB : BB ≤ w.heap.size) (hn : n ≤ 100) (s0 : 0 ≤ x.sl) (mb : x.mb < 65536)
    (hb : F8.Row w Bb Ab nb (F8.bv bs)) (hBb : Bb ≤ w.heap.size) (ho : F8.Oct bs) (hnc : nb ≤ kb) (hn5 : nb ≤ 1048579) (ht : timeB now = false) :
    Calls Tryz.prog 16 #[mv m, nv x A n c, .int .i64 now, .int .i64 began, .slice Ab nb kb, .bool bad] w (RetD w.heap.size (outN (mayB now began = true ∧ nodeOk m x) x (heaN m x now began bs bad) (heaE m x now began bs bad)) (outL (mayB now began = true ∧ nodeOk m x) (heaL m x now began bs bad) (heaE m x now began bs bad)) (outE (mayB now began = true ∧ nodeOk m x) (heaE m x now began bs bad)) (outQ (mayB now began = true ∧ nodeOk m x) x (heaE m x now began bs bad) ∧ ¬ (mayB now began = true ∧ nodeOk m x ∧ ¬ (heaE m x now began bs bad) = 0)) (outQ (mayB now began = true ∧ nodeOk m x) x (heaE m x now began bs bad)) w) := by
  have HM := hid (fun (w : World) => by have hf := isTime_any now w; rw [ht] at hf; exact hf)
  have HW := hid (fun (w : World) => within_46 began 0 now _ rfl w)
  have HD : Hid (∀ (cb cd cn cg : Nat) (w1 : World), Below w.heap.size w w1 → w1.cell? ⟨cb, 0, none⟩ = some (.slice Ab nb kb) → w1.cell? ⟨cd, 0, none⟩ = some (.bool bad) → w1.cell? ⟨cn, 0, none⟩ = some (.int .i64 now) → w1.cell? ⟨cg, 0, none⟩ = some (.int .i64 began) → Calls Tryz.prog 29 #[mv m, nv x A n c, .bool (mayB now began), .func (.func 47) #[] #[.pointer (some ⟨cb, 0, none⟩), .pointer (some ⟨cd, 0, none⟩), .pointer (some ⟨cn, 0, none⟩), .pointer (some ⟨cg, 0, none⟩)]] w1 fun e w' => ∃ v, e = .returned v ∧ RD w1.heap.size (outN (mayB now began = true ∧ nodeOk m x) x (heaN m x now began bs bad) (heaE m x now began bs bad)) (outL (mayB now began = true ∧ nodeOk m x) (heaL m x now began bs bad) (heaE m x now began bs bad)) (outE (mayB now began = true ∧ nodeOk m x) (heaE m x now began bs bad)) (outQ (mayB now began = true ∧ nodeOk m x) x (heaE m x now began bs bad) ∧ ¬ (mayB now began = true ∧ nodeOk m x ∧ ¬ (heaE m x now began bs bad) = 0)) (outQ (mayB now began = true ∧ nodeOk m x) x (heaE m x now began bs bad)) w1 v w') := hid (fun cb cd cn cg w1 k hcb hcd hcn hcg => RetD.named (do47_any x m A n c BB (mayB now began) cb cd cn cg (heaN m x now began bs bad) (heaL m x now began bs bad) (heaE m x now began bs bad) w1 (hr.below (k.mono hB)) (Nat.le_trans hB k.size) hn (fun hm hk K base g w2 hw hK hkb => hear_c K base g cb cd cn cg x m now began Ab nb kb Bb bs bad w2 hw (ok_of hk s0 mb) ((hkb.cell (World.block_lt_of_cell? w1 _ hcb)).trans hcb) ((hkb.cell (World.block_lt_of_cell? w1 _ hcd)).trans hcd) ((hkb.cell (World.block_lt_of_cell? w1 _ hcn)).trans hcn) ((hkb.cell (World.block_lt_of_cell? w1 _ hcg)).trans hcg) ((hb.below (k.mono hBb)).below (hkb.mono (Nat.le_trans hBb k.size))) (Nat.le_trans hBb (Nat.le_trans k.size hkb.size)) ho hnc hn5 (mayB_of hm).1 (mayB_of hm).2.1 (mayB_of hm).2.2)))
  have hq : Hid (outQ (mayB now began = true ∧ nodeOk m x) x (heaE m x now began bs bad) → (outQ (mayB now began = true ∧ nodeOk m x) x (heaE m x now began bs bad) ∧ ¬ (mayB now began = true ∧ nodeOk m x ∧ ¬ (heaE m x now began bs bad) = 0)) ∨ (outN (mayB now began = true ∧ nodeOk m x) x (heaN m x now began bs bad) (heaE m x now began bs bad)).dv = []) := hid (fun h => by
    by_cases hh : mayB now began = true ∧ nodeOk m x ∧ ¬ (heaE m x now began bs bad) = 0
    · refine .inr ?_
      unfold outN
      rw [if_pos ⟨hh.1, hh.2.1⟩, if_neg hh.2.2]
      rcases h with h | h | h
      · exact absurd ⟨hh.1, hh.2.1⟩ h
      · exact absurd h hh.2.2
      · exact h
    · exact .inl ⟨h, hh⟩)
  clear hr hB hn s0 mb hb hBb ho hnc hn5
  generalize outN (mayB now began = true ∧ nodeOk m x) x (heaN m x now began bs bad) (heaE m x now began bs bad) = yN at *
  generalize outL (mayB now began = true ∧ nodeOk m x) (heaL m x now began bs bad) (heaE m x now began bs bad) = yL at *
  generalize outE (mayB now began = true ∧ nodeOk m x) (heaE m x now began bs bad) = yE at *
  generalize (outQ (mayB now began = true ∧ nodeOk m x) x (heaE m x now began bs bad) ∧ ¬ (mayB now began = true ∧ nodeOk m x ∧ ¬ (heaE m x now began bs bad) = 0)) = q at *
  generalize outQ (mayB now began = true ∧ nodeOk m x) x (heaE m x now began bs bad) = r at *
  have hmay : mayB now began = false := by unfold mayB; rw [ht]; rfl
  rw [hmay] at HD
  clear hmay ht
  clear HW
  go_enter Tryz.func16, Tryz.ntmps16
  go_wp2_with (first
    | (refine wpList_galloc 32 (encn nz none 0 0) zero32 rfl rfl ?_; intro w7 v7 b7 s7; have V1 := hid ((((((v1.below b2 l1).below b3 (Nat.lt_of_lt_of_le l1 b2.size)).below b4 (Nat.lt_of_lt_of_le (Nat.lt_of_lt_of_le l1 b2.size) b3.size)).below b5 (Nat.lt_of_lt_of_le (Nat.lt_of_lt_of_le (Nat.lt_of_lt_of_le l1 b2.size) b3.size) b4.size)).below b6 (Nat.lt_of_lt_of_le (Nat.lt_of_lt_of_le (Nat.lt_of_lt_of_le (Nat.lt_of_lt_of_le l1 b2.size) b3.size) b4.size) b5.size)).below b7 (Nat.lt_of_lt_of_le (Nat.lt_of_lt_of_le (Nat.lt_of_lt_of_le (Nat.lt_of_lt_of_le (Nat.lt_of_lt_of_le l1 b2.size) b3.size) b4.size) b5.size) b6.size)); have V2 := hid (((((v2.below b3 l2).below b4 (Nat.lt_of_lt_of_le l2 b3.size)).below b5 (Nat.lt_of_lt_of_le (Nat.lt_of_lt_of_le l2 b3.size) b4.size)).below b6 (Nat.lt_of_lt_of_le (Nat.lt_of_lt_of_le (Nat.lt_of_lt_of_le l2 b3.size) b4.size) b5.size)).below b7 (Nat.lt_of_lt_of_le (Nat.lt_of_lt_of_le (Nat.lt_of_lt_of_le (Nat.lt_of_lt_of_le l2 b3.size) b4.size) b5.size) b6.size)); have V3 := hid ((((v3.below b4 l3).below b5 (Nat.lt_of_lt_of_le l3 b4.size)).below b6 (Nat.lt_of_lt_of_le (Nat.lt_of_lt_of_le l3 b4.size) b5.size)).below b7 (Nat.lt_of_lt_of_le (Nat.lt_of_lt_of_le (Nat.lt_of_lt_of_le l3 b4.size) b5.size) b6.size)); have V4 := hid (((v4.below b5 l4).below b6 (Nat.lt_of_lt_of_le l4 b5.size)).below b7 (Nat.lt_of_lt_of_le (Nat.lt_of_lt_of_le l4 b5.size) b6.size)); have V5 := hid ((v5.below b6 l5).below b7 (Nat.lt_of_lt_of_le l5 b6.size)); have V6 := hid (v6.below b7 l6); have V7 := hid v7; have B7 := hid ((((((b1.trans (b2.mono b1.size)).trans (b3.mono (Nat.le_trans b1.size b2.size))).trans (b4.mono (Nat.le_trans (Nat.le_trans b1.size b2.size) b3.size))).trans (b5.mono (Nat.le_trans (Nat.le_trans (Nat.le_trans b1.size b2.size) b3.size) b4.size))).trans (b6.mono (Nat.le_trans (Nat.le_trans (Nat.le_trans (Nat.le_trans b1.size b2.size) b3.size) b4.size) b5.size))).trans (b7.mono (Nat.le_trans (Nat.le_trans (Nat.le_trans (Nat.le_trans (Nat.le_trans b1.size b2.size) b3.size) b4.size) b5.size) b6.size))); have D7 : Hid (w.heap.size < w6.heap.size ∧ w1.heap.size < w6.heap.size ∧ w2.heap.size < w6.heap.size ∧ w3.heap.size < w6.heap.size ∧ w4.heap.size < w6.heap.size ∧ w5.heap.size < w6.heap.size ∧ w6.heap.size < w7.heap.size) := hid ⟨(Nat.lt_of_lt_of_le (Nat.lt_of_lt_of_le (Nat.lt_of_lt_of_le (Nat.lt_of_lt_of_le (Nat.lt_of_lt_of_le l1 b2.size) b3.size) b4.size) b5.size) b6.size), (Nat.lt_of_lt_of_le (Nat.lt_of_lt_of_le (Nat.lt_of_lt_of_le (Nat.lt_of_lt_of_le l2 b3.size) b4.size) b5.size) b6.size), (Nat.lt_of_lt_of_le (Nat.lt_of_lt_of_le (Nat.lt_of_lt_of_le l3 b4.size) b5.size) b6.size), (Nat.lt_of_lt_of_le (Nat.lt_of_lt_of_le l4 b5.size) b6.size), (Nat.lt_of_lt_of_le l5 b6.size), l6, v7.lt (by show 0 < 14; omega)⟩; clear v1 b1 s1 v2 b2 s2 v3 b3 s3 v4 b4 s4 v5 b5 s5 v6 b6 s6 v7 b7 s7 l1 l2 l3 l4 l5 l6)
    | (refine wpList_gbox 4 ([.bool bad]) rfl (.tmp 5) rfl rfl ?_; intro w6 v6 b6 s6; have l6 := v6.lt (by show 0 < 1; omega))
    | (refine wpList_gbox 33 ([.slice Ab nb kb]) rfl (.tmp 4) rfl rfl ?_; intro w5 v5 b5 s5; have l5 := v5.lt (by show 0 < 1; omega))
    | (refine wpList_gbox 2 ([.int .i64 began]) rfl (.tmp 3) rfl rfl ?_; intro w4 v4 b4 s4; have l4 := v4.lt (by show 0 < 1; omega))
    | (refine wpList_gbox 2 ([.int .i64 now]) rfl (.tmp 2) rfl rfl ?_; intro w3 v3 b3 s3; have l3 := v3.lt (by show 0 < 1; omega))
    | (refine wpList_gbox 32 (encn x A n c) rfl (.tmp 1) rfl rfl ?_; intro w2 v2 b2 s2; have l2 := v2.lt (by show 0 < 14; omega))
    | (refine wpList_gbox 23 (encm m) rfl (.tmp 0) rfl rfl ?_; intro w1 v1 b1 s1; have l1 := v1.lt (by show 0 < 5; omega)))
  generalize w1.heap.size = h2 at *
  generalize w2.heap.size = h3 at *
  generalize w3.heap.size = h4 at *
  generalize w4.heap.size = h5 at *
  generalize w5.heap.size = h6 at *
  have B8 := hid B7.out.drew
  have S1 : Var w7.drew w.heap.size (encm m) ∧ Var w7.drew h2 (encn x A n c) ∧ Var w7.drew h3 ([.int .i64 now]) ∧ Var w7.drew h4 ([.int .i64 began]) ∧ Var w7.drew h5 ([.slice Ab nb kb]) ∧ Var w7.drew h6 ([.bool bad]) := ⟨V1.out.drew, V2.out.drew, V3.out.drew, V4.out.drew, V5.out.drew, V6.out.drew⟩
  have V7d := hid V7.out.drew
  refine wp_region_held_drew (S := fun w' => Var w' w.heap.size (encm m) ∧ Var w' h2 (encn x A n c) ∧ Var w' h3 ([.int .i64 now]) ∧ Var w' h4 ([.int .i64 began]) ∧ Var w' h5 ([.slice Ab nb kb]) ∧ Var w' h6 ([.bool bad])) (by kernel_rfl) S1 (fun _ => ?_)
  refine tk 0 (some 15) (mv m) rfl rfl (by kernel_rfl) (by kernel_rfl) (by kernel_rfl) (fun _ _ _ h => h) (yls 23 (encm m) rfl rfl (fun w h => h.1.1) Tryz.underlying23 rfl size23 rfl) S1 ?_
  simp only [Act.put, List.setIfInBounds_toArray, List.set_cons_zero, List.set_cons_succ]
  refine tk 1 (some 16) (nv x A n c) rfl rfl (by kernel_rfl) (by kernel_rfl) (by kernel_rfl) (fun _ _ _ h => h) (yls 32 (encn x A n c) rfl rfl (fun w h => h.2.1.1) Tryz.underlying32 rfl size32 rfl) S1 ?_
  simp only [Act.put, List.setIfInBounds_toArray, List.set_cons_zero, List.set_cons_succ]
  refine tk 2 (some 17) (.int .i64 now) rfl rfl (by kernel_rfl) (by kernel_rfl) (by kernel_rfl) (fun _ _ _ h => h) (yl1 2 (p := ⟨h3, 0, none⟩) (v := .int .i64 now) rfl rfl Tryz.isAgg2 (fun w h => h.2.2.1.cell rfl) rfl) S1 ?_
  simp only [Act.put, List.setIfInBounds_toArray, List.set_cons_zero, List.set_cons_succ]
  refine tk 9 (some 24) (.func (.func 47) #[] #[.pointer (some ⟨h5, 0, none⟩), .pointer (some ⟨h6, 0, none⟩), .pointer (some ⟨h3, 0, none⟩), .pointer (some ⟨h4, 0, none⟩)]) rfl rfl (by kernel_rfl) (by kernel_rfl) (by kernel_rfl) (fun _ _ _ h => h) (.inl ⟨by rfl, fun _ _ => by unfold execOp; simp [go_sem] <;> rfl⟩) S1 ?_
  simp only [Act.put, List.setIfInBounds_toArray, List.set_cons_zero, List.set_cons_succ]
  refine rd_cl 3 (some 18) 30 #[.int .i64 now] _ (by kernel_rfl) rfl rfl (by unfold execOp; simp [go_sem] <;> rfl) (HM.out _) rfl ?_
  intro wq hwq
  subst hwq
  refine ⟨S1, ?_⟩
  simp only [Act.put, List.setIfInBounds_toArray, List.set_cons_zero, List.set_cons_succ]
  refine tk 4 (some 19) (.bool false) rfl rfl (by kernel_rfl) (by kernel_rfl) (by kernel_rfl) (fun _ _ _ h => h) (.inl ⟨by rfl, fun _ _ => by go_simp⟩) S1 ?_
  simp only [Act.put, List.setIfInBounds_toArray, List.set_cons_zero, List.set_cons_succ]
  refine tk 5 (some 20) (undef) rfl rfl (by kernel_rfl) (by kernel_rfl) (by kernel_rfl) (fun _ _ _ h => h) (.inr ⟨by rfl, rfl⟩) S1 ?_
  simp only [Act.put, List.setIfInBounds_toArray, List.set_cons_zero, List.set_cons_succ]
  refine tk 6 (some 21) (undef) rfl rfl (by kernel_rfl) (by kernel_rfl) (by kernel_rfl) (fun _ _ _ h => h) (.inr ⟨by rfl, rfl⟩) S1 ?_
  simp only [Act.put, List.setIfInBounds_toArray, List.set_cons_zero, List.set_cons_succ]
  refine tk 7 (some 22) (undef) rfl rfl (by kernel_rfl) (by kernel_rfl) (by kernel_rfl) (fun _ _ _ h => h) (.inr ⟨by rfl, rfl⟩) S1 ?_
  simp only [Act.put, List.setIfInBounds_toArray, List.set_cons_zero, List.set_cons_succ]
  refine tk 8 (some 23) (.bool false) rfl rfl (by kernel_rfl) (by kernel_rfl) (by kernel_rfl) (fun _ _ _ h => h) (.inl ⟨by rfl, fun _ _ => by go_simp⟩) S1 ?_
  simp only [Act.put, List.setIfInBounds_toArray, List.set_cons_zero, List.set_cons_succ]
  refine rd_cle 10 (some 25) 29 #[mv m, nv x A n c, .bool false, .func (.func 47) #[] #[.pointer (some ⟨h5, 0, none⟩), .pointer (some ⟨h6, 0, none⟩), .pointer (some ⟨h3, 0, none⟩), .pointer (some ⟨h4, 0, none⟩)]] (by kernel_rfl) rfl rfl (by unfold execOp; simp [go_sem] <;> rfl) (HD.out h5 h6 h3 h4 _ B8.out V5.out.drew.one V6.out.drew.one V3.out.drew.one V4.out.drew.one) rfl ?_
  rintro v w9 ⟨A6, n6, c6, B, k, d, rfl, hl6, hq6, hr6, ha6, b9⟩
  have S9 : Var w9 w.heap.size (encm m) ∧ Var w9 h2 (encn x A n c) ∧ Var w9 h3 ([.int .i64 now]) ∧ Var w9 h4 ([.int .i64 began]) ∧ Var w9 h5 ([.slice Ab nb kb]) ∧ Var w9 h6 ([.bool bad]) := ⟨V1.out.drew.below b9 (V1.out.drew.lt (by show 0 < 5; omega)), V2.out.drew.below b9 (V2.out.drew.lt (by show 0 < 14; omega)), V3.out.drew.below b9 (V3.out.drew.lt (by show 0 < 1; omega)), V4.out.drew.below b9 (V4.out.drew.lt (by show 0 < 1; omega)), V5.out.drew.below b9 (V5.out.drew.lt (by show 0 < 1; omega)), V6.out.drew.below b9 (V6.out.drew.lt (by show 0 < 1; omega))⟩
  have V9 := V7d.out.below b9 (V7d.out.lt (by show 0 < 14; omega))
  have g67 : w6.heap.size < w7.heap.size := D7.out.2.2.2.2.2.2
  refine ⟨S9, ?_⟩
  simp only [Act.put, List.setIfInBounds_toArray, List.set_cons_zero, List.set_cons_succ]
  refine tk 11 (some 26) (nv yN A6 n6 c6) rfl rfl (by kernel_rfl) (by kernel_rfl) (by kernel_rfl) (fun _ _ _ h => h) (.inl ⟨by rfl, fun _ _ => by go_simp⟩) S9 ?_
  simp only [Act.put, List.setIfInBounds_toArray, List.set_cons_zero, List.set_cons_succ]
  refine tk 12 (some 27) (.slice B k d) rfl rfl (by kernel_rfl) (by kernel_rfl) (by kernel_rfl) (fun _ _ _ h => h) (.inl ⟨by rfl, fun _ _ => by go_simp⟩) S9 ?_
  simp only [Act.put, List.setIfInBounds_toArray, List.set_cons_zero, List.set_cons_succ]
  refine tk 13 (some 28) (.int .i64 yE) rfl rfl (by kernel_rfl) (by kernel_rfl) (by kernel_rfl) (fun _ _ _ h => h) (.inl ⟨by rfl, fun _ _ => by go_simp⟩) S9 ?_
  simp only [Act.put, List.setIfInBounds_toArray, List.set_cons_zero, List.set_cons_succ]
  refine rd_gst 14 0 (encn yN A6 n6 c6) 32 (by kernel_rfl) rfl rfl rfl rfl rfl V9 (by show 0 + 14 ≤ 14; omega) size32 (encn_one _ _ _ _) rfl ?_
  intro w10 v10 b10 o10 s10
  have V10 : Var w10 w6.heap.size (encn yN A6 n6 c6) := v10
  have S10 : Var w10 w.heap.size (encm m) ∧ Var w10 h2 (encn x A n c) ∧ Var w10 h3 ([.int .i64 now]) ∧ Var w10 h4 ([.int .i64 began]) ∧ Var w10 h5 ([.slice Ab nb kb]) ∧ Var w10 h6 ([.bool bad]) := ⟨S9.1.other o10 (by have := D7.out; omega), S9.2.1.other o10 (by have := D7.out; omega), S9.2.2.1.other o10 (by have := D7.out; omega), S9.2.2.2.1.other o10 (by have := D7.out; omega), S9.2.2.2.2.1.other o10 (by have := D7.out; omega), S9.2.2.2.2.2.other o10 (by have := D7.out; omega)⟩
  refine ⟨S10, ?_⟩
  refine tk 15 (some 13) (.slice B k d) rfl rfl (by kernel_rfl) (by kernel_rfl) (by kernel_rfl) (fun _ _ _ h => h) (.inl ⟨by rfl, fun _ _ => by go_simp⟩) S10 ?_
  simp only [Act.put, List.setIfInBounds_toArray, List.set_cons_zero, List.set_cons_succ]
  refine tk 16 (some 14) (.int .i64 yE) rfl rfl (by kernel_rfl) (by kernel_rfl) (by kernel_rfl) (fun _ _ _ h => h) (.inl ⟨by rfl, fun _ _ => by go_simp⟩) S10 ?_
  simp only [Act.put, List.setIfInBounds_toArray, List.set_cons_zero, List.set_cons_succ]
  refine wpAnyH_done (by kernel_rfl) ?_ _
  have hq7 : q → OwnR w10 w.heap.size 2 1 A6 n6 c6 (sv yN.dv) := fun h => ((hq6 h).oth o10 (fun e => by have := ((hq6 h).lt e).1; have : w7.drew.heap.size = w7.heap.size := rfl; omega)).base_le B8.out.size
  have ha7 : OwnR w10 w.heap.size 66 8 B k d (flat yL) := (ha6.oth o10 (fun e => by have := (ha6.lt e).1; have : w7.drew.heap.size = w7.heap.size := rfl; omega)).base_le B8.out.size
  have P7 := hid (And.intro V10 (And.intro hq7 (And.intro ha7 ((B8.out.trans (b9.mono B8.out.size)).trans (b10.mono (by have := D7.out; omega))))))
  have HL := hid hl6
  clear V10 hq7 ha7 S9 S10 V9 v10 b10 o10 s10 b9 hq6 hr6 ha6 hl6 S1 V1 V2 V3 V4 V5 V6 V7 V7d B7 B8 HM HD g67
  go_wp2_with fail
  obtain ⟨V7, hq7, ha7, B7⟩ := P7.out
  refine bodyPost_ret (results_ctt (cs := encn yN A6 n6 c6) Tryz.results16 _ rfl V7.1 rfl) rfl ?_
  refine ⟨A6, n6, c6, B, k, d, rfl, HL.out, hq7, fun h => ?_, ha7, B7⟩
  rcases hq.out h with h | h
  · exact T9.Own.row (hq7 h)
  · rw [h] at HL ⊢
    rw [HL.out]
    exact T9.Row.nil _ _ _
theorem hearF_any (x : Nd) (m : Md) (A Ab : Option Addr) (n c BB nb kb Bb : Nat) (now began : Int) (bs : List Nat) (bad : Bool) (w : World) (hr : T9.Row w BB A n (sv x.dv)) (hB : BB ≤ w.heap.size) (hn : n ≤ 100) (s0 : 0 ≤ x.sl) (mb : x.mb < 65536)
    (hb : F8.Row w Bb Ab nb (F8.bv bs)) (hBb : Bb ≤ w.heap.size) (ho : F8.Oct bs) (hnc : nb ≤ kb) (hn5 : nb ≤ 1048579) :
    Calls Tryz.prog 16 #[mv m, nv x A n c, .int .i64 now, .int .i64 began, .slice Ab nb kb, .bool bad] w (RetD w.heap.size (outN (mayB now began = true ∧ nodeOk m x) x (heaN m x now began bs bad) (heaE m x now began bs bad)) (outL (mayB now began = true ∧ nodeOk m x) (heaL m x now began bs bad) (heaE m x now began bs bad)) (outE (mayB now began = true ∧ nodeOk m x) (heaE m x now began bs bad)) (outQ (mayB now began = true ∧ nodeOk m x) x (heaE m x now began bs bad) ∧ ¬ (mayB now began = true ∧ nodeOk m x ∧ ¬ (heaE m x now began bs bad) = 0)) (outQ (mayB now began = true ∧ nodeOk m x) x (heaE m x now began bs bad)) w) := by
  rcases ht : timeB now with _ | _
  · exact hearF_f x m A Ab n c BB nb kb Bb now began bs bad w hr hB hn s0 mb hb hBb ho hnc hn5 ht
  · exact hearF_t x m A Ab n c BB nb kb Bb now began bs bad w hr hB hn s0 mb hb hBb ho hnc hn5 ht
end Go.Proofs.YtlgedfljmgedfaaGreat
namespace Go.Proofs.YtlgedfljmgedfaaGreat
open Go Go.RowKit
open M10 (hid Md encm mv mz Oth range_keep there_keep range_other there_other setCells_oth setCells_size there_set Ty enct tv tz Fr encf fv fz)
open O6 (Oc enco ov oz)
open T9 (sv)
theorem zero23 (w : World) : (zeroValue 23).run Tryz.prog w = .ok (mv mz) w := by kernel_rfl
/-! ### four, few -/
def m4 : Md := ⟨4, 100, 20, 30, 10⟩
set_option maxRecDepth 100000 in
theorem four_any (w : World) : Calls Tryz.prog 28 #[] w fun e w' => e = .returned (mv m4) ∧ Below w.heap.size w w' := by
  go_enter Tryz.func28, Tryz.ntmps28
  go_wp2_with (first
    | (refine wpList_gst 23 (encm m4) rfl (.tmp 0) (.tmp 1) rfl rfl rfl v1 (by show 0 + 5 ≤ 5; omega) size23 (M10.encm_one _) ?_; intro w2 v2 b2 o2 s2)
    | (refine wpList_galloc 23 (encm mz) zero23 rfl rfl ?_; intro w1 v1 b1 s1))
  refine bodyPost_ret (results_cs (cs := encm m4) Tryz.results28 _ rfl v2.1 Tryz.underlying23 rfl size23) rfl ?_
  exact ⟨rfl, b1.trans b2⟩
def fewB (n k : Nat) : Bool := decide ((n : Int) ≤ 100) && decide ((k : Int) ≤ 500)
set_option maxRecDepth 100000 in
theorem few_any (x : Nd) (A Ab : Option Addr) (n c k d : Nat) (w : World) : Calls Tryz.prog 8 #[nv x A n c, .slice Ab k d] w fun e w' => e = .returned (.bool (fewB n k)) ∧ Below w.heap.size w w' := by
  unfold fewB
  by_cases h : (n : Int) ≤ 100
  · have h1 : decide ((n : Int) ≤ 100) = true := by simp; omega
    rw [h1]
    clear h
    generalize hq : decide ((k : Int) ≤ 500) = q at *
    go_enter Tryz.func8, Tryz.ntmps8
    go_wp2_with (first
      | (refine wpList_gbox 32 (encn x A n c) rfl (.tmp 0) rfl rfl ?_; intro w1 v1 b1 s1; have c11 : w1.cell? ⟨w.heap.size, 11, none⟩ = some (.slice A n c) := v1.cell rfl))
    go_ret
    exact ⟨rfl, b1⟩
  · have h1 : decide ((n : Int) ≤ 100) = false := by simp; omega
    rw [h1]
    clear h
    go_enter Tryz.func8, Tryz.ntmps8
    go_wp2_with (first
      | (refine wpList_gbox 32 (encn x A n c) rfl (.tmp 0) rfl rfl ?_; intro w1 v1 b1 s1; have c11 : w1.cell? ⟨w.heap.size, 11, none⟩ = some (.slice A n c) := v1.cell rfl))
    go_ret
    exact ⟨rfl, b1⟩
/-! ### Acts read -/
theorem acts_at {w : World} {base : Nat} {B : Option Addr} {k d : Nat} {l : List Ac} (h : OwnR w base 66 8 B k d (flat l)) (hl : l ≠ []) : ∃ g, B = some ⟨g, 0, none⟩ ∧ g < w.heap.size ∧ ∀ j v, (flat l)[j]? = some v → w.cell? ⟨g, j, none⟩ = some v := by
  have hk : 0 < k := by
    have := h.len
    rw [flat_len] at this
    have : 0 < l.length := List.length_pos_iff.2 hl
    omega
  rcases h.2 with ⟨_, h0⟩ | ⟨g, cap, cur, hv, hb, hg, _⟩
  · omega
  · have hA : B = some ⟨g, 0, none⟩ := by injection hv
    subst hA
    refine ⟨g, rfl, (Array.getElem?_eq_some_iff.1 hg).1, fun j v hj => ?_⟩
    have := World.ownsRow.cells (g := g) h rfl j v hj
    rw [T9.plain_add] at this
    rwa [Nat.zero_add] at this
theorem acts_len {w : World} {base : Nat} {B : Option Addr} {k d : Nat} {l : List Ac} (h : OwnR w base 66 8 B k d (flat l)) : k = l.length := by
  have := h.len
  rw [flat_len] at this
  omega
/-! ### live -/
def o10 : Oc := ⟨10, 0, 0⟩
def n1 : Nd := newN 1 o10
def n2 : Nd := lisN n1 0
def n3 : Nd := staN n2 10000
theorem n1_ok : nodeOk m4 n1 := by decide +kernel
theorem n2_ok : nodeOk m4 n2 := by decide +kernel
theorem new1_is : newR m4 1 o10 = n1 := if_pos n1_ok
theorem new1_E : nodeE m4 (newN 1 o10) = 0 := if_pos n1_ok
end Go.Proofs.YtlgedfljmgedfaaGreat
namespace Go.Proofs.YtlgedfljmgedfaaGreat
open Go Go.RowKit
open M10 (hid Md encm mv mz Oth range_keep there_keep range_other there_other setCells_oth setCells_size there_set Ty enct tv tz Fr encf fv fz)
open O6 (Oc enco ov oz)
open T9 (sv)
section
variable {ops : Array Oper} {a : Act} {w : World} {Q : Exit → Act → World → Prop} {fuel : Nat} {listed : Array Bool}
/-- A call, and a struct loaded, in either order. -/
theorem rd_cld (i j : Nat) (di dj : Option Tmp) (f : FuncId) (args : Array Value) (v : Value) (ty : TypeId) (cs : List Value) {oi oj : Oper} {y : Operand} {b off : Nat} {R : World → Prop}
    (hr : Region.ready .any ops listed = [i, j]) (hri : Region.ready .any ops (listed.setIfInBounds i true) = [j]) (hrj : Region.ready .any ops (listed.setIfInBounds j true) = [i])
    (hi : ops[i]? = some oi) (hj : ops[j]? = some oj) (hdi : oi.dst = di) (hdj : oj.dst = dj)
    (he : (execOp a.eval oi).run Tryz.prog w = .ok (.enter f args) w) (he' : (execOp (a.put dj (.agg cs.toArray)).eval oi).run Tryz.prog w = .ok (.enter f args) w) (hc : Calls Tryz.prog f args w fun e w' => e = .returned v ∧ R w')
    (ho : oj.op = .load ty y) (hx : a.eval y = .pointer (some ⟨b, off, none⟩)) (hx' : (a.put di v).eval y = .pointer (some ⟨b, off, none⟩)) (hw : w.rangeAt b off cs) (hw' : ∀ w', R w' → w'.rangeAt b off cs) {t : TypeDesc} (hu : Tryz.prog.underlying ty = some t) (ht : t.isRow = true) (hs : (Tryz.prog.info? ty).map (·.size) = some cs.length)
    (hwi : Region.wanted oi (yielded ops a.tmps) = true) (hwi' : Region.wanted oi (yielded ops (a.put dj (.agg cs.toArray)).tmps) = true) (hwj : Region.wanted oj (yielded ops a.tmps) = true) (hwj' : Region.wanted oj (yielded ops (a.put di v).tmps) = true)
    (hl : (listed.setIfInBounds j true).setIfInBounds i true = (listed.setIfInBounds i true).setIfInBounds j true) (hp : (a.put dj (.agg cs.toArray)).put di v = (a.put di v).put dj (.agg cs.toArray))
    (h : ∀ w', R w' → wpAnyH Tryz.prog .any ops Q (fun _ => True) fuel ((listed.setIfInBounds i true).setIfInBounds j true) ((a.put di v).put dj (.agg cs.toArray)) w') :
    wpAnyH Tryz.prog .any ops Q (fun _ => True) (fuel + 2) listed a w := by
  subst hdi hdj
  refine wpAnyH_ready hr (by simp) (AllReadyH.cons hi (fun K hK => ?_) (AllReadyH.cons hj (fun K hK => ?_) AllReadyH.nil))
  · rw [if_pos hwi]
    unfold Oper.wp
    rw [he]
    refine hc.mono ?_
    rintro e w' ⟨rfl, h2⟩
    refine hK.out _ _ trivial fun _ => ?_
    refine wpAnyH_ready hri (by simp) (AllReadyH.cons hj (fun K hK => ?_) AllReadyH.nil)
    rw [if_pos hwj']
    exact wp_ls ty cs ho hx' (hw' w' h2) hu ht hs (hK.out _ _ trivial fun _ => h w' h2)
  · rw [if_pos hwj]
    refine wp_ls ty cs ho hx hw hu ht hs (hK.out _ _ trivial fun _ => ?_)
    refine wpAnyH_ready hrj (by simp) (AllReadyH.cons hi (fun K hK => ?_) AllReadyH.nil)
    rw [if_pos hwi']
    unfold Oper.wp
    rw [he']
    refine hc.mono ?_
    rintro e w' ⟨rfl, h2⟩
    refine hK.out _ _ trivial fun _ => ?_
    rw [hl, hp]
    exact h w' h2
end
set_option maxRecDepth 100000 in
set_option maxHeartbeats 4000000 in
theorem live_any (w : World) : Calls Tryz.prog 7 #[] w fun e w' => e = .returned (.bool true) ∧ Below w.heap.size w w' := by
  have HF := hid four_any
  have HN : Hid (∀ w, Calls Tryz.prog 18 #[mv m4, .int .i64 1, .agg #[.int .i64 10, .int .i64 0, .int .i64 0]] w fun e w' => e = .returned (.tuple #[nv n1 none 0 0, .int .i64 0]) ∧ Below w.heap.size w w') := hid (fun w => by have hf := new_any m4 1 o10 w; rw [new1_is, new1_E] at hf; exact hf)
  have HW : Hid (∀ (w : World) (A : Option Addr) (c : Nat), Calls Tryz.prog 10 #[mv m4, nv n1 A 0 c, .int .i64 0] w fun e w' => ∃ v, e = .returned v ∧ RD w.heap.size n2 [note 1 0, timr 10000] 0 True True w v w') := hid (fun w A c => RetD.named ((wakeF_any n1 m4 A 0 c 0 0 w (T9.Row.nil _ _ _) (Nat.zero_le _) (by omega) (by decide) (by decide)).mono fun _ _ ⟨A', n', c', B, k, d, h1, h2, h3, h4, h5⟩ => by
    have hb : timeB 0 = true ∧ nodeOk m4 n1 := ⟨by decide, n1_ok⟩
    have e0 : wakE m4 n1 0 = 0 := by decide +kernel
    have eN : outN (timeB 0 = true ∧ nodeOk m4 n1) n1 (wakN n1 0) (wakE m4 n1 0) = n2 := by unfold outN; rw [if_pos hb, if_pos e0]; rfl
    have eL : outL (timeB 0 = true ∧ nodeOk m4 n1) (wakL m4 n1 0) (wakE m4 n1 0) = [note 1 0, timr 10000] := by unfold outL; rw [if_pos hb, if_pos e0]; decide +kernel
    have eE : outE (timeB 0 = true ∧ nodeOk m4 n1) (wakE m4 n1 0) = 0 := by unfold outE; rw [if_pos hb]; exact e0
    rw [eN] at h1 h2 h3 h4
    rw [eE] at h1
    rw [eL] at h5
    exact ⟨A', n', c', B, k, d, h1, h2, fun _ => h3 ⟨.inr (.inl e0), fun h => h.2.2 e0⟩, fun _ => h4 (.inr (.inl e0)), h5⟩))
  have HT : Hid (∀ (w : World) (A : Option Addr) (c : Nat), Calls Tryz.prog 14 #[mv m4, nv n2 A 0 c, .int .i64 10000] w fun e w' => ∃ v, e = .returned v ∧ RD w.heap.size n3 [note 2 0, timr 10200] 0 True True w v w') := hid (fun w A c => RetD.named ((timerF_any n2 m4 A 0 c 0 10000 w (T9.Row.nil _ _ _) (Nat.zero_le _) (by omega) (by decide) (by decide)).mono fun _ _ ⟨A', n', c', B, k, d, h1, h2, h3, h4, h5⟩ => by
    have hb : timeB 10000 = true ∧ nodeOk m4 n2 := ⟨by decide, n2_ok⟩
    have e0 : timE m4 n2 10000 = 0 := by decide +kernel
    have eN : outN (timeB 10000 = true ∧ nodeOk m4 n2) n2 (timN m4 n2 10000) (timE m4 n2 10000) = n3 := by unfold outN; rw [if_pos hb, if_pos e0]; rfl
    have eL : outL (timeB 10000 = true ∧ nodeOk m4 n2) (timL m4 n2 10000) (timE m4 n2 10000) = [note 2 0, timr 10200] := by unfold outL; rw [if_pos hb, if_pos e0]; decide +kernel
    have eE : outE (timeB 10000 = true ∧ nodeOk m4 n2) (timE m4 n2 10000) = 0 := by unfold outE; rw [if_pos hb]; exact e0
    rw [eN] at h1 h2 h3 h4
    rw [eE] at h1
    rw [eL] at h5
    exact ⟨A', n', c', B, k, d, h1, h2, fun _ => h3 ⟨.inr (.inl e0), fun h => h.2.2 e0⟩, fun _ => h4 (.inr (.inl e0)), h5⟩))
  go_enter Tryz.func7, Tryz.ntmps7
  go_wp2_with (first
    | (refine wpList_gst 32 (encn n1 none 0 0) rfl (.tmp 1) (.tmp 11) rfl rfl rfl v3 (by show 0 + 14 ≤ 14; omega) size32 (encn_one _ _ _ _) ?_; intro w4 v4 b4 o4 s4)
    | (refine wpList_galloc 32 (encn nz none 0 0) zero32 rfl rfl ?_; intro w3 v3 b3 s3)
    | (go_at_call 18; (with_reducible refine (HN.out w1).mono ?_); rintro e w2 ⟨rfl, b2⟩)
    | (go_at_call 28; (with_reducible refine (HF.out w).mono ?_); rintro e w1 ⟨rfl, b1⟩))
  have V4 : Var w4 w2.heap.size (encn n1 none 0 0) := v4
  have B4 : Below w.heap.size w w4 := ((b1.trans (b2.mono b1.size)).trans (b3.mono (Nat.le_trans b1.size b2.size))).trans (b4.mono (Nat.le_trans b1.size b2.size))
  have B4 := hid B4.drew
  have V4 := hid V4.drew
  have LB : Hid (w.heap.size ≤ w2.heap.size) := hid (Nat.le_trans b1.size b2.size)
  clear b1 b2 b3 b4 v3 v4 o4 s3 s4
  generalize w2.heap.size = g at *
  refine wp_region_held_drew (S := fun _ => True) (by kernel_rfl) trivial (fun _ => ?_)
  refine rd_cld 0 1 (some 14) (some 15) 28 #[] (mv m4) 32 (encn n1 none 0 0) (by kernel_rfl) (by kernel_rfl) (by kernel_rfl) rfl rfl rfl rfl (by unfold execOp; simp [go_sem] <;> rfl) (by unfold execOp; simp [go_sem] <;> rfl) (HF.out _) rfl rfl rfl V4.out.1 (fun w' b => (V4.out.below b (V4.out.lt (by show 0 < 14; omega))).1) Tryz.underlying32 rfl size32 rfl rfl rfl rfl rfl rfl ?_
  intro w5 b5
  simp only [Act.put, List.setIfInBounds_toArray, List.set_cons_zero, List.set_cons_succ]
  have B5 := hid (B4.out.trans (b5.mono B4.out.size))
  have V5 := V4.out.below b5 (V4.out.lt (by show 0 < 14; omega))
  refine rd_cle 2 (some 16) 10 #[mv m4, nv n1 none 0 0, .int .i64 0] (by kernel_rfl) rfl rfl (by unfold execOp; simp [go_sem] <;> rfl) (HW.out _ _ _) rfl ?_
  rintro v w6 ⟨A4, n4, c4, BB4, k4, d4, rfl, hl4, hq4, hr4, ha4, b6⟩
  obtain rfl : n4 = 0 := hl4
  have hk4 := acts_len ha4
  obtain rfl : k4 = 2 := hk4
  have B6 := hid (B5.out.trans (b6.mono B5.out.size))
  have V6 := V5.below b6 (V5.lt (by show 0 < 14; omega))
  refine ⟨trivial, ?_⟩
  simp only [Act.put, List.setIfInBounds_toArray, List.set_cons_zero, List.set_cons_succ]
  refine tk 3 (some 13) (.tuple #[nv n2 A4 0 c4, .slice BB4 2 d4, .int .i64 0]) rfl rfl (by kernel_rfl) (by kernel_rfl) (by kernel_rfl) (fun _ _ _ h => h) (.inl ⟨by rfl, fun _ _ => by go_simp⟩) trivial ?_
  simp only [Act.put, List.setIfInBounds_toArray, List.set_cons_zero, List.set_cons_succ]
  refine tk 4 (some 17) (nv n2 A4 0 c4) rfl rfl (by kernel_rfl) (by kernel_rfl) (by kernel_rfl) (fun _ _ _ h => h) (.inl ⟨by rfl, fun _ _ => by go_simp⟩) trivial ?_
  simp only [Act.put, List.setIfInBounds_toArray, List.set_cons_zero, List.set_cons_succ]
  refine tk 5 (some 18) (.slice BB4 2 d4) rfl rfl (by kernel_rfl) (by kernel_rfl) (by kernel_rfl) (fun _ _ _ h => h) (.inl ⟨by rfl, fun _ _ => by go_simp⟩) trivial ?_
  simp only [Act.put, List.setIfInBounds_toArray, List.set_cons_zero, List.set_cons_succ]
  refine tk 6 (some 19) (.int .i64 0) rfl rfl (by kernel_rfl) (by kernel_rfl) (by kernel_rfl) (fun _ _ _ h => h) (.inl ⟨by rfl, fun _ _ => by go_simp⟩) trivial ?_
  simp only [Act.put, List.setIfInBounds_toArray, List.set_cons_zero, List.set_cons_succ]
  refine rd_gst 7 0 (encn n2 A4 0 c4) 32 (by kernel_rfl) rfl rfl rfl rfl rfl V6 (by show 0 + 14 ≤ 14; omega) size32 (encn_one _ _ _ _) rfl ?_
  intro w7 v7 b7 o7 s7
  have V7 : Var w7 g (encn n2 A4 0 c4) := v7
  refine ⟨trivial, ?_⟩
  refine tk 8 (some 3) (.slice BB4 2 d4) rfl rfl (by kernel_rfl) (by kernel_rfl) (by kernel_rfl) (fun _ _ _ h => h) (.inl ⟨by rfl, fun _ _ => by go_simp⟩) trivial ?_
  simp only [Act.put, List.setIfInBounds_toArray, List.set_cons_zero, List.set_cons_succ]
  refine tk 9 (some 4) (.int .i64 0) rfl rfl (by kernel_rfl) (by kernel_rfl) (by kernel_rfl) (fun _ _ _ h => h) (.inl ⟨by rfl, fun _ _ => by go_simp⟩) trivial ?_
  simp only [Act.put, List.setIfInBounds_toArray, List.set_cons_zero, List.set_cons_succ]
  refine wpAnyH_done (by kernel_rfl) ?_ _
  have g5 : w5.heap.size ≤ w6.heap.size := b6.size
  have hg : g < w5.heap.size := V5.lt (by show 0 < 14; omega)
  obtain ⟨ga, rfl, hga, ca⟩ := acts_at ha4 (by simp)
  have hgb := (ha4.lt (k := ga) rfl).1
  have t1 : w6.cell? ⟨ga, 9, none⟩ = some (.int .i64 10000) := ca 9 _ rfl
  have T7 : Hid (w7.cell? ⟨ga, 9, none⟩ = some (.int .i64 10000)) := hid ((World.cell?_of_block (a := ⟨ga, 9, none⟩) (o7 ga (by omega))).trans t1)
  have NGA : Hid (ga ≠ g) := hid (by omega)
  have L7 : Hid (ga < w7.heap.size) := hid (by rw [s7.out]; exact hga)
  have B7 := hid (B6.out.trans (b7.mono LB.out))
  have V7 := hid V7
  clear V4 B4 V5 V6 B5 B6 v7 b7 o7 s7 b5 b6 t1 hga hgb ca ha4 hq4 hr4 hg g5 HW HN
  go_wp2_with fail
  have Bd := hid B7.out.drew
  have Vd := hid V7.out.drew
  have T8 : Hid (w7.drew.cell? ⟨ga, 9, none⟩ = some (.int .i64 10000)) := hid T7.out
  refine wp_region_held_drew (S := fun _ => True) (by kernel_rfl) trivial (fun _ => ?_)
  refine rd_cld 0 1 (some 21) (some 22) 28 #[] (mv m4) 32 (encn n2 A4 0 c4) (by kernel_rfl) (by kernel_rfl) (by kernel_rfl) rfl rfl rfl rfl (by unfold execOp; simp [go_sem] <;> rfl) (by unfold execOp; simp [go_sem] <;> rfl) (HF.out _) rfl rfl rfl Vd.out.1 (fun w' b => (Vd.out.below b (Vd.out.lt (by show 0 < 14; omega))).1) Tryz.underlying32 rfl size32 rfl rfl rfl rfl rfl rfl ?_
  intro w8 b8
  simp only [Act.put, List.setIfInBounds_toArray, List.set_cons_zero, List.set_cons_succ]
  have B8 := hid (Bd.out.trans (b8.mono Bd.out.size))
  have V8 := Vd.out.below b8 (Vd.out.lt (by show 0 < 14; omega))
  refine rd_cle 2 (some 23) 14 #[mv m4, nv n2 A4 0 c4, .int .i64 10000] (by kernel_rfl) rfl rfl (by unfold execOp; simp [go_sem] <;> rfl) (HT.out _ _ _) rfl ?_
  rintro v w9 ⟨A7, n7, c7, BB7, k7, d7, rfl, hl7, hq7, hr7, ha7, b9⟩
  obtain rfl : n7 = 0 := hl7
  have hk7 := acts_len ha7
  obtain rfl : k7 = 2 := hk7
  have B9 := hid (B8.out.trans (b9.mono B8.out.size))
  have V9 := V8.below b9 (V8.lt (by show 0 < 14; omega))
  refine ⟨trivial, ?_⟩
  simp only [Act.put, List.setIfInBounds_toArray, List.set_cons_zero, List.set_cons_succ]
  refine tk 3 (some 20) (.tuple #[nv n3 A7 0 c7, .slice BB7 2 d7, .int .i64 0]) rfl rfl (by kernel_rfl) (by kernel_rfl) (by kernel_rfl) (fun _ _ _ h => h) (.inl ⟨by rfl, fun _ _ => by go_simp⟩) trivial ?_
  simp only [Act.put, List.setIfInBounds_toArray, List.set_cons_zero, List.set_cons_succ]
  refine tk 4 (some 24) (nv n3 A7 0 c7) rfl rfl (by kernel_rfl) (by kernel_rfl) (by kernel_rfl) (fun _ _ _ h => h) (.inl ⟨by rfl, fun _ _ => by go_simp⟩) trivial ?_
  simp only [Act.put, List.setIfInBounds_toArray, List.set_cons_zero, List.set_cons_succ]
  refine tk 5 (some 25) (.slice BB7 2 d7) rfl rfl (by kernel_rfl) (by kernel_rfl) (by kernel_rfl) (fun _ _ _ h => h) (.inl ⟨by rfl, fun _ _ => by go_simp⟩) trivial ?_
  simp only [Act.put, List.setIfInBounds_toArray, List.set_cons_zero, List.set_cons_succ]
  refine tk 6 (some 26) (.int .i64 0) rfl rfl (by kernel_rfl) (by kernel_rfl) (by kernel_rfl) (fun _ _ _ h => h) (.inl ⟨by rfl, fun _ _ => by go_simp⟩) trivial ?_
  simp only [Act.put, List.setIfInBounds_toArray, List.set_cons_zero, List.set_cons_succ]
  refine rd_gst 7 0 (encn n3 A7 0 c7) 32 (by kernel_rfl) rfl rfl rfl rfl rfl V9 (by show 0 + 14 ≤ 14; omega) size32 (encn_one _ _ _ _) rfl ?_
  intro w10 v10 b10 o10 s10
  have V10 : Var w10 g (encn n3 A7 0 c7) := v10
  refine ⟨trivial, ?_⟩
  refine tk 8 (some 5) (.slice BB7 2 d7) rfl rfl (by kernel_rfl) (by kernel_rfl) (by kernel_rfl) (fun _ _ _ h => h) (.inl ⟨by rfl, fun _ _ => by go_simp⟩) trivial ?_
  simp only [Act.put, List.setIfInBounds_toArray, List.set_cons_zero, List.set_cons_succ]
  refine tk 9 (some 6) (.int .i64 0) rfl rfl (by kernel_rfl) (by kernel_rfl) (by kernel_rfl) (fun _ _ _ h => h) (.inl ⟨by rfl, fun _ _ => by go_simp⟩) trivial ?_
  simp only [Act.put, List.setIfInBounds_toArray, List.set_cons_zero, List.set_cons_succ]
  refine wpAnyH_done (by kernel_rfl) ?_ _
  obtain ⟨gb, rfl, hgb, cb⟩ := acts_at ha7 (by simp)
  have hgb1 := (ha7.lt (k := gb) rfl).1
  have hg8 : g < w8.heap.size := V8.lt (by show 0 < 14; omega)
  have u1 : w9.cell? ⟨gb, 9, none⟩ = some (.int .i64 10200) := cb 9 _ rfl
  have x1 : w10.cell? ⟨gb, 9, none⟩ = some (.int .i64 10200) := (World.cell?_of_block (a := ⟨gb, 9, none⟩) (o10 gb (by omega))).trans u1
  have hga8 : ga < w7.drew.heap.size := L7.out
  have y1 : w8.cell? ⟨ga, 9, none⟩ = some (.int .i64 10000) := (b8.cell (p := ⟨ga, 9, none⟩) hga8).trans T8.out
  have y2 : w9.cell? ⟨ga, 9, none⟩ = some (.int .i64 10000) := (b9.cell (p := ⟨ga, 9, none⟩) (Nat.lt_of_lt_of_le hga8 b8.size)).trans y1
  have x2 : w10.cell? ⟨ga, 9, none⟩ = some (.int .i64 10000) := (World.cell?_of_block (a := ⟨ga, 9, none⟩) (o10 ga NGA.out)).trans y2
  have x3 : w10.cell? ⟨g, 1, none⟩ = some (.int .i64 2) := V10.cell rfl
  have B10 := hid (B9.out.trans (b10.mono LB.out))
  clear V7 B7 Vd Bd V8 B8 T7 T8 V9 B9 V10 v10 b10 o10 s10 b8 b9 u1 y1 y2 hgb1 hg8 hgb cb ha7 hq7 hr7 HT HF hga8
  go_wp2_with fail
  go_ret
  exact ⟨rfl, B10.out⟩
end Go.Proofs.YtlgedfljmgedfaaGreat
