/-
  Texts PA of this seat, as far as they are used.
-/
import Derived.Test.YtlgedfljmgedfaaGreatJ36
import Derived.Test.YtlgedfljmgedfaaGreatJ38
import Derived.Test.YtlgedfljmgedfaaGreatJ39
import Derived.Test.YtlgedfljmgedfaaGreatJ40
namespace Go.Proofs.YtlgedfljmgedfaaGreat
open Go Go.RowKit
open M10 (hid Md encm mv mz Oth range_keep there_keep range_other there_other setCells_oth setCells_size there_set Ty enct tv tz Fr encf fv fz)
open O6 (Oc enco ov oz)
open T9 (sv)
/-! ### A node that may be -/
theorem timeB_of {t : Int} (h : timeB t = true) : 0 ≤ t ∧ t ≤ 1152921504606846976 := by
  unfold timeB at h
  simpa using h
theorem far_of {d t : Int} (h : farB d t = false) : -d ≤ t ∧ t ≤ d := by
  unfold farB at h
  simpa using h
theorem ok_of {m : Md} {x : Nd} (h : nodeOk m x) (s0 : 0 ≤ x.sl) (mb : x.mb < 65536) : NdOk m x := by
  obtain ⟨hm, ho, hf, _⟩ := h
  unfold fitB at hf
  simp only [Bool.and_eq_true, decide_eq_true_eq, Bool.not_eq_true'] at hf
  obtain ⟨⟨⟨⟨⟨⟨⟨⟨⟨h0, h1⟩, h2⟩, h3⟩, h4⟩, h5⟩, h6⟩, h7⟩, h8⟩, h9⟩ := hf
  have t3 := timeB_of h3
  have f4 := far_of h4
  refine ⟨hm, ho, h0.1, by omega, h1.1, h1.2, s0, h2, t3.1, t3.2, f4.1, f4.2, mb, ⟨⟨h5.1, h5.2⟩, h6.1, h6.2⟩, h7, fun y hy => ?_, h9.1, h9.2⟩
  unfold anyFar at h8
  rw [List.any_eq_false] at h8
  exact far_of (by simpa using h8 y hy)
/-! ### What is told -/
section
variable (b : Prop) [Decidable b]
def outN (x y : Nd) (E : Int) : Nd := if b then (if E = 0 then y else x) else x
def outL (l : List Ac) (E : Int) : List Ac := if b then (if E = 0 then l else []) else []
def outE (E : Int) : Int := if b then E else 1
end
/-- Where this is so the list told is the node's own. -/
def outQ (b : Prop) (x : Nd) (E : Int) : Prop := ¬ b ∨ E = 0 ∨ x.dv = []
section
variable {ops : Array Oper} {S : World → Prop} {o : Oper} {a : Act} {w : World} {Q : Exit → Act → World → Prop} {fuel : Nat} {listed : Array Bool}
theorem rd_cle (i : Nat) (d : Option Tmp) (f : FuncId) (args : Array Value) {R : Value → World → Prop} (hr : Region.ready .any ops listed = [i]) (hi : ops[i]? = some o) (hd : o.dst = d) (he : (execOp a.eval o).run Tryz.prog w = .ok (.enter f args) w) (hc : Calls Tryz.prog f args w fun e w' => ∃ v, e = .returned v ∧ R v w') (hw : Region.wanted o (yielded ops a.tmps) = true)
    (h : ∀ v w', R v w' → S w' ∧ wpAnyH Tryz.prog .any ops Q S fuel (listed.setIfInBounds i true) (a.put d v) w') : wpAnyH Tryz.prog .any ops Q S (fuel + 1) listed a w := by
  subst hd
  refine wpAnyH_ready hr (by simp) (AllReadyH.cons hi (fun K hK => ?_) AllReadyH.nil)
  rw [if_pos hw]
  unfold Oper.wp
  rw [he]
  refine hc.mono ?_
  rintro e w' ⟨v, rfl, h2⟩
  exact hK.out _ _ (h v w' h2).1 fun _ => (h v w' h2).2
end
theorem results_ctt {w : World} {g : Nat} {cs : List Value} {fn : Func} {p q r : Tmp} (h : fn.results = #[.cell p 32, .tmp q, .tmp r]) (tmps : Array Value) (hp : tmps.getD p undef = .pointer (some ⟨g, 0, none⟩)) (hx : w.rangeAt g 0 cs) (hs : cs.length = 14) :
    (results fn tmps).run Tryz.prog w = .ok (.tuple #[.agg cs.toArray, tmps.getD q undef, tmps.getD r undef]) w := by
  have := run_loadVar_mid (P := Tryz.prog) w g 0 32 cs _ hx Tryz.underlying32 rfl (by rw [size32, hs])
  have hp' : tmps[p]?.getD undef = .pointer (some ⟨g, 0, none⟩) := by simpa using hp
  simp only [results, h]
  simp [Result.andThen, hp', this, asAddr]
/-- RetD, the value named. -/
def RD (base : Nat) (y : Nd) (l : List Ac) (E : Int) (q r : Prop) (w : World) (v : Value) (w' : World) : Prop :=
  ∃ A n c B k d, v = .tuple #[nv y A n c, .slice B k d, .int .i64 E] ∧ n = y.dv.length ∧ (q → OwnR w' base 2 1 A n c (sv y.dv)) ∧ (r → T9.Row w' w'.heap.size A n (sv y.dv)) ∧ OwnR w' base 66 8 B k d (flat l) ∧ Below base w w'
theorem RetD.named {base : Nat} {y : Nd} {l : List Ac} {E : Int} {q r : Prop} {w : World} {f : FuncId} {args : Array Value} (h : Calls Tryz.prog f args w (RetD base y l E q r w)) : Calls Tryz.prog f args w fun e w' => ∃ v, e = .returned v ∧ RD base y l E q r w v w' :=
  h.mono fun _ _ ⟨A, n, c, B, k, d, he, r⟩ => ⟨_, he, A, n, c, B, k, d, rfl, r⟩
/-- do, whatever comes of it. -/
theorem do31_any (x : Nd) (m : Md) (A : Option Addr) (n c BB : Nat) (may : Bool) (cn : Nat) (y : Nd) (l : List Ac) (E : Int) (w : World) (hr : T9.Row w BB A n (sv x.dv)) (hB : BB ≤ w.heap.size) (hn : n ≤ 100)
    (HC : may = true → nodeOk m x → ∀ (K : Nat → Prop) (base g : Nat) (w1 : World), Wk w1 K base g x m [] → (∀ k, k < w.heap.size → K k) → Below w.heap.size w w1 → Calls Tryz.prog 31 #[.pointer (some ⟨g, 0, none⟩), .pointer (some ⟨cn, 0, none⟩)] w1 (RetW K base g y m l (.int .i64 E) w1)) :
    Calls Tryz.prog 29 #[mv m, nv x A n c, .bool may, .func (.func 31) #[] #[.pointer (some ⟨cn, 0, none⟩)]] w (RetD w.heap.size (outN (may = true ∧ nodeOk m x) x y E) (outL (may = true ∧ nodeOk m x) l E) (outE (may = true ∧ nodeOk m x) E) (outQ (may = true ∧ nodeOk m x) x E ∧ ¬ (may = true ∧ nodeOk m x ∧ ¬ E = 0)) (outQ (may = true ∧ nodeOk m x) x E) w) := by
  by_cases hm : may = true
  · by_cases hk : nodeOk m x
    · have hb : may = true ∧ nodeOk m x := ⟨hm, hk⟩
      unfold outN outL outE
      rw [if_pos hb, if_pos hb, if_pos hb]
      by_cases hE : E = 0
      · rw [if_pos hE, if_pos hE]
        have h := do31_ok x m A n c BB may cn w hr hB hn hm (if_pos hk) y l E hE (HC hm hk)
        rw [hE]
        exact h.mono fun _ _ ⟨A, n, c, B, k, d, h1, h2, h3, h4, h5⟩ => ⟨A, n, c, B, k, d, h1, h2, fun _ => h3 trivial, fun _ => h4 trivial, h5⟩
      · rw [if_neg hE, if_neg hE]
        have h := do31_err x m A n c BB may cn w hr hB hn hm (if_pos hk) y l E hE (HC hm hk)
        exact h.mono fun _ _ ⟨A, n, c, B, k, d, h1, h2, h3, h4, h5⟩ => ⟨A, n, c, B, k, d, h1, h2, fun hh => absurd ⟨hm, hk, hE⟩ hh.2, fun hh => h4 (by rcases hh with hh | hh | hh; exact absurd hb hh; exact absurd hh hE; exact hh), h5⟩
    · have hb : ¬ (may = true ∧ nodeOk m x) := fun h => hk h.2
      unfold outN outL outE
      rw [if_neg hb, if_neg hb, if_neg hb]
      exact (do31_chk x m A n c BB may cn w hr hB hn hm (if_neg hk)).mono fun _ _ ⟨A, n, c, B, k, d, h1, h2, h3, h4, h5⟩ => ⟨A, n, c, B, k, d, h1, h2, fun _ => h3 trivial, fun _ => h4 trivial, h5⟩
  · have hb : ¬ (may = true ∧ nodeOk m x) := fun h => hm h.1
    unfold outN outL outE
    rw [if_neg hb, if_neg hb, if_neg hb]
    exact (do31_not x m A n c BB may cn w hr hB hn (by simpa using hm)).mono fun _ _ ⟨A, n, c, B, k, d, h1, h2, h3, h4, h5⟩ => ⟨A, n, c, B, k, d, h1, h2, fun _ => h3 trivial, fun _ => h4 trivial, h5⟩
theorem do37_any (x : Nd) (m : Md) (A : Option Addr) (n c BB : Nat) (may : Bool) (cn : Nat) (y : Nd) (l : List Ac) (E : Int) (w : World) (hr : T9.Row w BB A n (sv x.dv)) (hB : BB ≤ w.heap.size) (hn : n ≤ 100)
    (HC : may = true → nodeOk m x → ∀ (K : Nat → Prop) (base g : Nat) (w1 : World), Wk w1 K base g x m [] → (∀ k, k < w.heap.size → K k) → Below w.heap.size w w1 → Calls Tryz.prog 37 #[.pointer (some ⟨g, 0, none⟩), .pointer (some ⟨cn, 0, none⟩)] w1 (RetW K base g y m l (.int .i64 E) w1)) :
    Calls Tryz.prog 29 #[mv m, nv x A n c, .bool may, .func (.func 37) #[] #[.pointer (some ⟨cn, 0, none⟩)]] w (RetD w.heap.size (outN (may = true ∧ nodeOk m x) x y E) (outL (may = true ∧ nodeOk m x) l E) (outE (may = true ∧ nodeOk m x) E) (outQ (may = true ∧ nodeOk m x) x E ∧ ¬ (may = true ∧ nodeOk m x ∧ ¬ E = 0)) (outQ (may = true ∧ nodeOk m x) x E) w) := by
  by_cases hm : may = true
  · by_cases hk : nodeOk m x
    · have hb : may = true ∧ nodeOk m x := ⟨hm, hk⟩
      unfold outN outL outE
      rw [if_pos hb, if_pos hb, if_pos hb]
      by_cases hE : E = 0
      · rw [if_pos hE, if_pos hE]
        have h := do37_ok x m A n c BB may cn w hr hB hn hm (if_pos hk) y l E hE (HC hm hk)
        rw [hE]
        exact h.mono fun _ _ ⟨A, n, c, B, k, d, h1, h2, h3, h4, h5⟩ => ⟨A, n, c, B, k, d, h1, h2, fun _ => h3 trivial, fun _ => h4 trivial, h5⟩
      · rw [if_neg hE, if_neg hE]
        have h := do37_err x m A n c BB may cn w hr hB hn hm (if_pos hk) y l E hE (HC hm hk)
        exact h.mono fun _ _ ⟨A, n, c, B, k, d, h1, h2, h3, h4, h5⟩ => ⟨A, n, c, B, k, d, h1, h2, fun hh => absurd ⟨hm, hk, hE⟩ hh.2, fun hh => h4 (by rcases hh with hh | hh | hh; exact absurd hb hh; exact absurd hh hE; exact hh), h5⟩
    · have hb : ¬ (may = true ∧ nodeOk m x) := fun h => hk h.2
      unfold outN outL outE
      rw [if_neg hb, if_neg hb, if_neg hb]
      exact (do37_chk x m A n c BB may cn w hr hB hn hm (if_neg hk)).mono fun _ _ ⟨A, n, c, B, k, d, h1, h2, h3, h4, h5⟩ => ⟨A, n, c, B, k, d, h1, h2, fun _ => h3 trivial, fun _ => h4 trivial, h5⟩
  · have hb : ¬ (may = true ∧ nodeOk m x) := fun h => hm h.1
    unfold outN outL outE
    rw [if_neg hb, if_neg hb, if_neg hb]
    exact (do37_not x m A n c BB may cn w hr hB hn (by simpa using hm)).mono fun _ _ ⟨A, n, c, B, k, d, h1, h2, h3, h4, h5⟩ => ⟨A, n, c, B, k, d, h1, h2, fun _ => h3 trivial, fun _ => h4 trivial, h5⟩
theorem do47_any (x : Nd) (m : Md) (A : Option Addr) (n c BB : Nat) (may : Bool) (cb cd cn cg : Nat) (y : Nd) (l : List Ac) (E : Int) (w : World) (hr : T9.Row w BB A n (sv x.dv)) (hB : BB ≤ w.heap.size) (hn : n ≤ 100)
    (HC : may = true → nodeOk m x → ∀ (K : Nat → Prop) (base g : Nat) (w1 : World), Wk w1 K base g x m [] → (∀ k, k < w.heap.size → K k) → Below w.heap.size w w1 → Calls Tryz.prog 47 #[.pointer (some ⟨g, 0, none⟩), .pointer (some ⟨cb, 0, none⟩), .pointer (some ⟨cd, 0, none⟩), .pointer (some ⟨cn, 0, none⟩), .pointer (some ⟨cg, 0, none⟩)] w1 (RetW K base g y m l (.int .i64 E) w1)) :
    Calls Tryz.prog 29 #[mv m, nv x A n c, .bool may, .func (.func 47) #[] #[.pointer (some ⟨cb, 0, none⟩), .pointer (some ⟨cd, 0, none⟩), .pointer (some ⟨cn, 0, none⟩), .pointer (some ⟨cg, 0, none⟩)]] w (RetD w.heap.size (outN (may = true ∧ nodeOk m x) x y E) (outL (may = true ∧ nodeOk m x) l E) (outE (may = true ∧ nodeOk m x) E) (outQ (may = true ∧ nodeOk m x) x E ∧ ¬ (may = true ∧ nodeOk m x ∧ ¬ E = 0)) (outQ (may = true ∧ nodeOk m x) x E) w) := by
  by_cases hm : may = true
  · by_cases hk : nodeOk m x
    · have hb : may = true ∧ nodeOk m x := ⟨hm, hk⟩
      unfold outN outL outE
      rw [if_pos hb, if_pos hb, if_pos hb]
      by_cases hE : E = 0
      · rw [if_pos hE, if_pos hE]
        have h := do47_ok x m A n c BB may cb cd cn cg w hr hB hn hm (if_pos hk) y l E hE (HC hm hk)
        rw [hE]
        exact h.mono fun _ _ ⟨A, n, c, B, k, d, h1, h2, h3, h4, h5⟩ => ⟨A, n, c, B, k, d, h1, h2, fun _ => h3 trivial, fun _ => h4 trivial, h5⟩
      · rw [if_neg hE, if_neg hE]
        have h := do47_err x m A n c BB may cb cd cn cg w hr hB hn hm (if_pos hk) y l E hE (HC hm hk)
        exact h.mono fun _ _ ⟨A, n, c, B, k, d, h1, h2, h3, h4, h5⟩ => ⟨A, n, c, B, k, d, h1, h2, fun hh => absurd ⟨hm, hk, hE⟩ hh.2, fun hh => h4 (by rcases hh with hh | hh | hh; exact absurd hb hh; exact absurd hh hE; exact hh), h5⟩
    · have hb : ¬ (may = true ∧ nodeOk m x) := fun h => hk h.2
      unfold outN outL outE
      rw [if_neg hb, if_neg hb, if_neg hb]
      exact (do47_chk x m A n c BB may cb cd cn cg w hr hB hn hm (if_neg hk)).mono fun _ _ ⟨A, n, c, B, k, d, h1, h2, h3, h4, h5⟩ => ⟨A, n, c, B, k, d, h1, h2, fun _ => h3 trivial, fun _ => h4 trivial, h5⟩
  · have hb : ¬ (may = true ∧ nodeOk m x) := fun h => hm h.1
    unfold outN outL outE
    rw [if_neg hb, if_neg hb, if_neg hb]
    exact (do47_not x m A n c BB may cb cd cn cg w hr hB hn (by simpa using hm)).mono fun _ _ ⟨A, n, c, B, k, d, h1, h2, h3, h4, h5⟩ => ⟨A, n, c, B, k, d, h1, h2, fun _ => h3 trivial, fun _ => h4 trivial, h5⟩
set_option maxRecDepth 100000 in
set_option maxHeartbeats 2000000 in
theorem wakeF_any (x : Nd) (m : Md) (A : Option Addr) (n c BB : Nat) (now : Int) (w : World) (hr : T9.Row w BB A n (sv x.dv)) (hB : BB ≤ w.heap.size) (hn : n ≤ 100) (s0 : 0 ≤ x.sl) (mb : x.mb < 65536) :
    Calls Tryz.prog 10 #[mv m, nv x A n c, .int .i64 now] w (RetD w.heap.size (outN (timeB now = true ∧ nodeOk m x) x (wakN x now) (wakE m x now)) (outL (timeB now = true ∧ nodeOk m x) (wakL m x now) (wakE m x now)) (outE (timeB now = true ∧ nodeOk m x) (wakE m x now)) (outQ (timeB now = true ∧ nodeOk m x) x (wakE m x now) ∧ ¬ (timeB now = true ∧ nodeOk m x ∧ ¬ (wakE m x now) = 0)) (outQ (timeB now = true ∧ nodeOk m x) x (wakE m x now)) w) := by
  have HM := hid (fun (w : World) => isTime_any now w)
  have HD : Hid (∀ (cn : Nat) (w1 : World), Below w.heap.size w w1 → w1.cell? ⟨cn, 0, none⟩ = some (.int .i64 now) → Calls Tryz.prog 29 #[mv m, nv x A n c, .bool (timeB now), .func (.func 31) #[] #[.pointer (some ⟨cn, 0, none⟩)]] w1 fun e w' => ∃ v, e = .returned v ∧ RD w1.heap.size (outN (timeB now = true ∧ nodeOk m x) x (wakN x now) (wakE m x now)) (outL (timeB now = true ∧ nodeOk m x) (wakL m x now) (wakE m x now)) (outE (timeB now = true ∧ nodeOk m x) (wakE m x now)) (outQ (timeB now = true ∧ nodeOk m x) x (wakE m x now) ∧ ¬ (timeB now = true ∧ nodeOk m x ∧ ¬ (wakE m x now) = 0)) (outQ (timeB now = true ∧ nodeOk m x) x (wakE m x now)) w1 v w') := hid (fun cn w1 k hc => RetD.named (do31_any x m A n c BB (timeB now) cn (wakN x now) (wakL m x now) (wakE m x now) w1 (hr.below (k.mono hB)) (Nat.le_trans hB k.size) hn (fun hm hk K base g w2 hw hK hb => wake_c K base g cn x m now w2 hw (ok_of hk s0 mb) ((hb.cell (World.block_lt_of_cell? w1 _ hc)).trans hc) (timeB_of hm).1 (timeB_of hm).2)))
  have hq : Hid (outQ (timeB now = true ∧ nodeOk m x) x (wakE m x now) → (outQ (timeB now = true ∧ nodeOk m x) x (wakE m x now) ∧ ¬ (timeB now = true ∧ nodeOk m x ∧ ¬ (wakE m x now) = 0)) ∨ (outN (timeB now = true ∧ nodeOk m x) x (wakN x now) (wakE m x now)).dv = []) := hid (fun h => by
    by_cases hh : timeB now = true ∧ nodeOk m x ∧ ¬ (wakE m x now) = 0
    · refine .inr ?_
      unfold outN
      rw [if_pos ⟨hh.1, hh.2.1⟩, if_neg hh.2.2]
      rcases h with h | h | h
      · exact absurd ⟨hh.1, hh.2.1⟩ h
      · exact absurd h hh.2.2
      · exact h
    · exact .inl ⟨h, hh⟩)
  clear hr hB hn s0 mb
  generalize outN (timeB now = true ∧ nodeOk m x) x (wakN x now) (wakE m x now) = yN at *
  generalize outL (timeB now = true ∧ nodeOk m x) (wakL m x now) (wakE m x now) = yL at *
  generalize outE (timeB now = true ∧ nodeOk m x) (wakE m x now) = yE at *
  generalize (outQ (timeB now = true ∧ nodeOk m x) x (wakE m x now) ∧ ¬ (timeB now = true ∧ nodeOk m x ∧ ¬ (wakE m x now) = 0)) = q at *
  generalize outQ (timeB now = true ∧ nodeOk m x) x (wakE m x now) = r at *
  go_enter Tryz.func10, Tryz.ntmps10
  go_wp2_with (first
    | (refine wpList_galloc 32 (encn nz none 0 0) zero32 rfl rfl ?_; intro w4 v4 b4 s4; have V1 := hid (((v1.below b2 l1).below b3 (Nat.lt_of_lt_of_le l1 b2.size)).below b4 (Nat.lt_of_lt_of_le l1 (Nat.le_trans b2.size b3.size))); have V2 := hid ((v2.below b3 l2).below b4 (Nat.lt_of_lt_of_le l2 b3.size)); have V3 := hid (v3.below b4 l3); have V4 := hid v4; have B4 := hid (((b1.trans (b2.mono b1.size)).trans (b3.mono (Nat.le_trans b1.size b2.size))).trans (b4.mono (Nat.le_trans b1.size (Nat.le_trans b2.size b3.size)))); have D4 : Hid (w.heap.size < w3.heap.size ∧ w1.heap.size < w3.heap.size ∧ w2.heap.size < w3.heap.size ∧ w3.heap.size < w4.heap.size) := hid ⟨Nat.lt_of_lt_of_le l1 (Nat.le_trans b2.size b3.size), Nat.lt_of_lt_of_le l2 b3.size, l3, v4.lt (by show 0 < 14; omega)⟩; clear v1 v2 v3 v4 b1 b2 b3 b4 s1 s2 s3 s4 l1 l2 l3)
    | (refine wpList_gbox 2 [.int .i64 now] rfl (.tmp 2) rfl rfl ?_; intro w3 v3 b3 s3; have l3 := v3.lt (by show 0 < 1; omega))
    | (refine wpList_gbox 32 (encn x A n c) rfl (.tmp 1) rfl rfl ?_; intro w2 v2 b2 s2; have l2 := v2.lt (by show 0 < 14; omega))
    | (refine wpList_gbox 23 (encm m) rfl (.tmp 0) rfl rfl ?_; intro w1 v1 b1 s1; have l1 := v1.lt (by show 0 < 5; omega)))
  generalize w1.heap.size = h2 at *
  generalize w2.heap.size = h3 at *
  have B5 := hid B4.out.drew
  have S1 : (fun w' => Var w' w.heap.size (encm m) ∧ Var w' h2 (encn x A n c) ∧ Var w' h3 [.int .i64 now]) w4.drew := ⟨V1.out.drew, V2.out.drew, V3.out.drew⟩
  have V4d := hid V4.out.drew
  refine wp_region_held_drew (S := fun w' => Var w' w.heap.size (encm m) ∧ Var w' h2 (encn x A n c) ∧ Var w' h3 [.int .i64 now]) (by kernel_rfl) S1 (fun _ => ?_)
  refine tk 0 (some 9) (mv m) rfl rfl (by kernel_rfl) (by kernel_rfl) (by kernel_rfl) (fun _ _ _ h => h) (yls 23 (encm m) rfl rfl (fun w h => h.1.1) Tryz.underlying23 rfl size23 rfl) S1 ?_
  simp only [Act.put, List.setIfInBounds_toArray, List.set_cons_zero, List.set_cons_succ]
  refine tk 1 (some 10) (nv x A n c) rfl rfl (by kernel_rfl) (by kernel_rfl) (by kernel_rfl) (fun _ _ _ h => h) (yls 32 (encn x A n c) rfl rfl (fun w h => h.2.1.1) Tryz.underlying32 rfl size32 rfl) S1 ?_
  simp only [Act.put, List.setIfInBounds_toArray, List.set_cons_zero, List.set_cons_succ]
  refine tk 2 (some 11) (.int .i64 now) rfl rfl (by kernel_rfl) (by kernel_rfl) (by kernel_rfl) (fun _ _ _ h => h) (yl1 2 (p := ⟨h3, 0, none⟩) (v := .int .i64 now) rfl rfl Tryz.isAgg2 (fun w h => h.2.2.cell rfl) rfl) S1 ?_
  simp only [Act.put, List.setIfInBounds_toArray, List.set_cons_zero, List.set_cons_succ]
  refine tk 4 (some 13) (.func (.func 31) #[] #[.pointer (some ⟨h3, 0, none⟩)]) rfl rfl (by kernel_rfl) (by kernel_rfl) (by kernel_rfl) (fun _ _ _ h => h) (.inl ⟨by rfl, fun _ _ => by unfold execOp; simp [go_sem] <;> rfl⟩) S1 ?_
  simp only [Act.put, List.setIfInBounds_toArray, List.set_cons_zero, List.set_cons_succ]
  refine rd_cl 3 (some 12) 30 #[.int .i64 now] _ (by kernel_rfl) rfl rfl (by unfold execOp; simp [go_sem] <;> rfl) (HM.out _) rfl ?_
  intro wq hwq
  subst hwq
  refine ⟨S1, ?_⟩
  simp only [Act.put, List.setIfInBounds_toArray, List.set_cons_zero, List.set_cons_succ]
  refine rd_cle 5 (some 14) 29 #[mv m, nv x A n c, .bool (timeB now), .func (.func 31) #[] #[.pointer (some ⟨h3, 0, none⟩)]] (by kernel_rfl) rfl rfl (by unfold execOp; simp [go_sem] <;> rfl) (HD.out h3 _ B5.out V3.out.drew.one) rfl ?_
  rintro v w6 ⟨A6, n6, c6, B, k, d, rfl, hl6, hq6, hr6, ha6, b6⟩
  have S6 : Var w6 w.heap.size (encm m) ∧ Var w6 h2 (encn x A n c) ∧ Var w6 h3 [.int .i64 now] := ⟨V1.out.drew.below b6 (V1.out.drew.lt (by show 0 < 5; omega)), V2.out.drew.below b6 (V2.out.drew.lt (by show 0 < 14; omega)), V3.out.drew.below b6 (V3.out.drew.lt (by show 0 < 1; omega))⟩
  have V6 := V4d.out.below b6 (V4d.out.lt (by show 0 < 14; omega))
  have g36 : w3.heap.size < w4.heap.size := D4.out.2.2.2
  refine ⟨S6, ?_⟩
  simp only [Act.put, List.setIfInBounds_toArray, List.set_cons_zero, List.set_cons_succ]
  refine tk 6 (some 15) (nv yN A6 n6 c6) rfl rfl (by kernel_rfl) (by kernel_rfl) (by kernel_rfl) (fun _ _ _ h => h) (.inl ⟨by rfl, fun _ _ => by go_simp⟩) S6 ?_
  simp only [Act.put, List.setIfInBounds_toArray, List.set_cons_zero, List.set_cons_succ]
  refine tk 7 (some 16) (.slice B k d) rfl rfl (by kernel_rfl) (by kernel_rfl) (by kernel_rfl) (fun _ _ _ h => h) (.inl ⟨by rfl, fun _ _ => by go_simp⟩) S6 ?_
  simp only [Act.put, List.setIfInBounds_toArray, List.set_cons_zero, List.set_cons_succ]
  refine tk 8 (some 17) (.int .i64 yE) rfl rfl (by kernel_rfl) (by kernel_rfl) (by kernel_rfl) (fun _ _ _ h => h) (.inl ⟨by rfl, fun _ _ => by go_simp⟩) S6 ?_
  simp only [Act.put, List.setIfInBounds_toArray, List.set_cons_zero, List.set_cons_succ]
  refine rd_gst 9 0 (encn yN A6 n6 c6) 32 (by kernel_rfl) rfl rfl rfl rfl rfl V6 (by show 0 + 14 ≤ 14; omega) size32 (encn_one _ _ _ _) rfl ?_
  intro w7 v7 b7 o7 s7
  have V7 : Var w7 w3.heap.size (encn yN A6 n6 c6) := v7
  have S7 : Var w7 w.heap.size (encm m) ∧ Var w7 h2 (encn x A n c) ∧ Var w7 h3 [.int .i64 now] := ⟨S6.1.other o7 (by have := D4.out; omega), S6.2.1.other o7 (by have := D4.out; omega), S6.2.2.other o7 (by have := D4.out; omega)⟩
  refine ⟨S7, ?_⟩
  refine tk 10 (some 7) (.slice B k d) rfl rfl (by kernel_rfl) (by kernel_rfl) (by kernel_rfl) (fun _ _ _ h => h) (.inl ⟨by rfl, fun _ _ => by go_simp⟩) S7 ?_
  simp only [Act.put, List.setIfInBounds_toArray, List.set_cons_zero, List.set_cons_succ]
  refine tk 11 (some 8) (.int .i64 yE) rfl rfl (by kernel_rfl) (by kernel_rfl) (by kernel_rfl) (fun _ _ _ h => h) (.inl ⟨by rfl, fun _ _ => by go_simp⟩) S7 ?_
  simp only [Act.put, List.setIfInBounds_toArray, List.set_cons_zero, List.set_cons_succ]
  refine wpAnyH_done (by kernel_rfl) ?_ _
  have hq7 : q → OwnR w7 w.heap.size 2 1 A6 n6 c6 (sv yN.dv) := fun h => ((hq6 h).oth o7 (fun e => by have := ((hq6 h).lt e).1; have : w4.drew.heap.size = w4.heap.size := rfl; omega)).base_le B5.out.size
  have ha7 : OwnR w7 w.heap.size 66 8 B k d (flat yL) := (ha6.oth o7 (fun e => by have := (ha6.lt e).1; have : w4.drew.heap.size = w4.heap.size := rfl; omega)).base_le B5.out.size
  have P7 := hid (And.intro V7 (And.intro hq7 (And.intro ha7 ((B5.out.trans (b6.mono B5.out.size)).trans (b7.mono (by have := D4.out; omega))))))
  have HL := hid hl6
  clear V7 hq7 ha7 S6 S7 V6 v7 b7 o7 s7 b6 hq6 hr6 ha6 hl6 S1 V1 V2 V3 V4 V4d B4 B5 HM HD g36
  go_wp2_with fail
  obtain ⟨V7, hq7, ha7, B7⟩ := P7.out
  refine bodyPost_ret (results_ctt (cs := encn yN A6 n6 c6) Tryz.results10 _ rfl V7.1 rfl) rfl ?_
  refine ⟨A6, n6, c6, B, k, d, rfl, HL.out, hq7, fun h => ?_, ha7, B7⟩
  rcases hq.out h with h | h
  · exact T9.Own.row (hq7 h)
  · rw [h] at HL ⊢
    rw [HL.out]
    exact T9.Row.nil _ _ _
set_option maxRecDepth 100000 in
set_option maxHeartbeats 2000000 in
theorem timerF_any (x : Nd) (m : Md) (A : Option Addr) (n c BB : Nat) (now : Int) (w : World) (hr : T9.Row w BB A n (sv x.dv)) (hB : BB ≤ w.heap.size) (hn : n ≤ 100) (s0 : 0 ≤ x.sl) (mb : x.mb < 65536) :
    Calls Tryz.prog 14 #[mv m, nv x A n c, .int .i64 now] w (RetD w.heap.size (outN (timeB now = true ∧ nodeOk m x) x (timN m x now) (timE m x now)) (outL (timeB now = true ∧ nodeOk m x) (timL m x now) (timE m x now)) (outE (timeB now = true ∧ nodeOk m x) (timE m x now)) (outQ (timeB now = true ∧ nodeOk m x) x (timE m x now) ∧ ¬ (timeB now = true ∧ nodeOk m x ∧ ¬ (timE m x now) = 0)) (outQ (timeB now = true ∧ nodeOk m x) x (timE m x now)) w) := by
  have HM := hid (fun (w : World) => isTime_any now w)
  have HD : Hid (∀ (cn : Nat) (w1 : World), Below w.heap.size w w1 → w1.cell? ⟨cn, 0, none⟩ = some (.int .i64 now) → Calls Tryz.prog 29 #[mv m, nv x A n c, .bool (timeB now), .func (.func 37) #[] #[.pointer (some ⟨cn, 0, none⟩)]] w1 fun e w' => ∃ v, e = .returned v ∧ RD w1.heap.size (outN (timeB now = true ∧ nodeOk m x) x (timN m x now) (timE m x now)) (outL (timeB now = true ∧ nodeOk m x) (timL m x now) (timE m x now)) (outE (timeB now = true ∧ nodeOk m x) (timE m x now)) (outQ (timeB now = true ∧ nodeOk m x) x (timE m x now) ∧ ¬ (timeB now = true ∧ nodeOk m x ∧ ¬ (timE m x now) = 0)) (outQ (timeB now = true ∧ nodeOk m x) x (timE m x now)) w1 v w') := hid (fun cn w1 k hc => RetD.named (do37_any x m A n c BB (timeB now) cn (timN m x now) (timL m x now) (timE m x now) w1 (hr.below (k.mono hB)) (Nat.le_trans hB k.size) hn (fun hm hk K base g w2 hw hK hb => timer_c K base g cn x m now w2 hw (ok_of hk s0 mb) ((hb.cell (World.block_lt_of_cell? w1 _ hc)).trans hc) (timeB_of hm).1 (timeB_of hm).2)))
  have hq : Hid (outQ (timeB now = true ∧ nodeOk m x) x (timE m x now) → (outQ (timeB now = true ∧ nodeOk m x) x (timE m x now) ∧ ¬ (timeB now = true ∧ nodeOk m x ∧ ¬ (timE m x now) = 0)) ∨ (outN (timeB now = true ∧ nodeOk m x) x (timN m x now) (timE m x now)).dv = []) := hid (fun h => by
    by_cases hh : timeB now = true ∧ nodeOk m x ∧ ¬ (timE m x now) = 0
    · refine .inr ?_
      unfold outN
      rw [if_pos ⟨hh.1, hh.2.1⟩, if_neg hh.2.2]
      rcases h with h | h | h
      · exact absurd ⟨hh.1, hh.2.1⟩ h
      · exact absurd h hh.2.2
      · exact h
    · exact .inl ⟨h, hh⟩)
  clear hr hB hn s0 mb
  generalize outN (timeB now = true ∧ nodeOk m x) x (timN m x now) (timE m x now) = yN at *
  generalize outL (timeB now = true ∧ nodeOk m x) (timL m x now) (timE m x now) = yL at *
  generalize outE (timeB now = true ∧ nodeOk m x) (timE m x now) = yE at *
  generalize (outQ (timeB now = true ∧ nodeOk m x) x (timE m x now) ∧ ¬ (timeB now = true ∧ nodeOk m x ∧ ¬ (timE m x now) = 0)) = q at *
  generalize outQ (timeB now = true ∧ nodeOk m x) x (timE m x now) = r at *
  go_enter Tryz.func14, Tryz.ntmps14
  go_wp2_with (first
    | (refine wpList_galloc 32 (encn nz none 0 0) zero32 rfl rfl ?_; intro w4 v4 b4 s4; have V1 := hid (((v1.below b2 l1).below b3 (Nat.lt_of_lt_of_le l1 b2.size)).below b4 (Nat.lt_of_lt_of_le l1 (Nat.le_trans b2.size b3.size))); have V2 := hid ((v2.below b3 l2).below b4 (Nat.lt_of_lt_of_le l2 b3.size)); have V3 := hid (v3.below b4 l3); have V4 := hid v4; have B4 := hid (((b1.trans (b2.mono b1.size)).trans (b3.mono (Nat.le_trans b1.size b2.size))).trans (b4.mono (Nat.le_trans b1.size (Nat.le_trans b2.size b3.size)))); have D4 : Hid (w.heap.size < w3.heap.size ∧ w1.heap.size < w3.heap.size ∧ w2.heap.size < w3.heap.size ∧ w3.heap.size < w4.heap.size) := hid ⟨Nat.lt_of_lt_of_le l1 (Nat.le_trans b2.size b3.size), Nat.lt_of_lt_of_le l2 b3.size, l3, v4.lt (by show 0 < 14; omega)⟩; clear v1 v2 v3 v4 b1 b2 b3 b4 s1 s2 s3 s4 l1 l2 l3)
    | (refine wpList_gbox 2 [.int .i64 now] rfl (.tmp 2) rfl rfl ?_; intro w3 v3 b3 s3; have l3 := v3.lt (by show 0 < 1; omega))
    | (refine wpList_gbox 32 (encn x A n c) rfl (.tmp 1) rfl rfl ?_; intro w2 v2 b2 s2; have l2 := v2.lt (by show 0 < 14; omega))
    | (refine wpList_gbox 23 (encm m) rfl (.tmp 0) rfl rfl ?_; intro w1 v1 b1 s1; have l1 := v1.lt (by show 0 < 5; omega)))
  generalize w1.heap.size = h2 at *
  generalize w2.heap.size = h3 at *
  have B5 := hid B4.out.drew
  have S1 : (fun w' => Var w' w.heap.size (encm m) ∧ Var w' h2 (encn x A n c) ∧ Var w' h3 [.int .i64 now]) w4.drew := ⟨V1.out.drew, V2.out.drew, V3.out.drew⟩
  have V4d := hid V4.out.drew
  refine wp_region_held_drew (S := fun w' => Var w' w.heap.size (encm m) ∧ Var w' h2 (encn x A n c) ∧ Var w' h3 [.int .i64 now]) (by kernel_rfl) S1 (fun _ => ?_)
  refine tk 0 (some 9) (mv m) rfl rfl (by kernel_rfl) (by kernel_rfl) (by kernel_rfl) (fun _ _ _ h => h) (yls 23 (encm m) rfl rfl (fun w h => h.1.1) Tryz.underlying23 rfl size23 rfl) S1 ?_
  simp only [Act.put, List.setIfInBounds_toArray, List.set_cons_zero, List.set_cons_succ]
  refine tk 1 (some 10) (nv x A n c) rfl rfl (by kernel_rfl) (by kernel_rfl) (by kernel_rfl) (fun _ _ _ h => h) (yls 32 (encn x A n c) rfl rfl (fun w h => h.2.1.1) Tryz.underlying32 rfl size32 rfl) S1 ?_
  simp only [Act.put, List.setIfInBounds_toArray, List.set_cons_zero, List.set_cons_succ]
  refine tk 2 (some 11) (.int .i64 now) rfl rfl (by kernel_rfl) (by kernel_rfl) (by kernel_rfl) (fun _ _ _ h => h) (yl1 2 (p := ⟨h3, 0, none⟩) (v := .int .i64 now) rfl rfl Tryz.isAgg2 (fun w h => h.2.2.cell rfl) rfl) S1 ?_
  simp only [Act.put, List.setIfInBounds_toArray, List.set_cons_zero, List.set_cons_succ]
  refine tk 4 (some 13) (.func (.func 37) #[] #[.pointer (some ⟨h3, 0, none⟩)]) rfl rfl (by kernel_rfl) (by kernel_rfl) (by kernel_rfl) (fun _ _ _ h => h) (.inl ⟨by rfl, fun _ _ => by unfold execOp; simp [go_sem] <;> rfl⟩) S1 ?_
  simp only [Act.put, List.setIfInBounds_toArray, List.set_cons_zero, List.set_cons_succ]
  refine rd_cl 3 (some 12) 30 #[.int .i64 now] _ (by kernel_rfl) rfl rfl (by unfold execOp; simp [go_sem] <;> rfl) (HM.out _) rfl ?_
  intro wq hwq
  subst hwq
  refine ⟨S1, ?_⟩
  simp only [Act.put, List.setIfInBounds_toArray, List.set_cons_zero, List.set_cons_succ]
  refine rd_cle 5 (some 14) 29 #[mv m, nv x A n c, .bool (timeB now), .func (.func 37) #[] #[.pointer (some ⟨h3, 0, none⟩)]] (by kernel_rfl) rfl rfl (by unfold execOp; simp [go_sem] <;> rfl) (HD.out h3 _ B5.out V3.out.drew.one) rfl ?_
  rintro v w6 ⟨A6, n6, c6, B, k, d, rfl, hl6, hq6, hr6, ha6, b6⟩
  have S6 : Var w6 w.heap.size (encm m) ∧ Var w6 h2 (encn x A n c) ∧ Var w6 h3 [.int .i64 now] := ⟨V1.out.drew.below b6 (V1.out.drew.lt (by show 0 < 5; omega)), V2.out.drew.below b6 (V2.out.drew.lt (by show 0 < 14; omega)), V3.out.drew.below b6 (V3.out.drew.lt (by show 0 < 1; omega))⟩
  have V6 := V4d.out.below b6 (V4d.out.lt (by show 0 < 14; omega))
  have g36 : w3.heap.size < w4.heap.size := D4.out.2.2.2
  refine ⟨S6, ?_⟩
  simp only [Act.put, List.setIfInBounds_toArray, List.set_cons_zero, List.set_cons_succ]
  refine tk 6 (some 15) (nv yN A6 n6 c6) rfl rfl (by kernel_rfl) (by kernel_rfl) (by kernel_rfl) (fun _ _ _ h => h) (.inl ⟨by rfl, fun _ _ => by go_simp⟩) S6 ?_
  simp only [Act.put, List.setIfInBounds_toArray, List.set_cons_zero, List.set_cons_succ]
  refine tk 7 (some 16) (.slice B k d) rfl rfl (by kernel_rfl) (by kernel_rfl) (by kernel_rfl) (fun _ _ _ h => h) (.inl ⟨by rfl, fun _ _ => by go_simp⟩) S6 ?_
  simp only [Act.put, List.setIfInBounds_toArray, List.set_cons_zero, List.set_cons_succ]
  refine tk 8 (some 17) (.int .i64 yE) rfl rfl (by kernel_rfl) (by kernel_rfl) (by kernel_rfl) (fun _ _ _ h => h) (.inl ⟨by rfl, fun _ _ => by go_simp⟩) S6 ?_
  simp only [Act.put, List.setIfInBounds_toArray, List.set_cons_zero, List.set_cons_succ]
  refine rd_gst 9 0 (encn yN A6 n6 c6) 32 (by kernel_rfl) rfl rfl rfl rfl rfl V6 (by show 0 + 14 ≤ 14; omega) size32 (encn_one _ _ _ _) rfl ?_
  intro w7 v7 b7 o7 s7
  have V7 : Var w7 w3.heap.size (encn yN A6 n6 c6) := v7
  have S7 : Var w7 w.heap.size (encm m) ∧ Var w7 h2 (encn x A n c) ∧ Var w7 h3 [.int .i64 now] := ⟨S6.1.other o7 (by have := D4.out; omega), S6.2.1.other o7 (by have := D4.out; omega), S6.2.2.other o7 (by have := D4.out; omega)⟩
  refine ⟨S7, ?_⟩
  refine tk 10 (some 7) (.slice B k d) rfl rfl (by kernel_rfl) (by kernel_rfl) (by kernel_rfl) (fun _ _ _ h => h) (.inl ⟨by rfl, fun _ _ => by go_simp⟩) S7 ?_
  simp only [Act.put, List.setIfInBounds_toArray, List.set_cons_zero, List.set_cons_succ]
  refine tk 11 (some 8) (.int .i64 yE) rfl rfl (by kernel_rfl) (by kernel_rfl) (by kernel_rfl) (fun _ _ _ h => h) (.inl ⟨by rfl, fun _ _ => by go_simp⟩) S7 ?_
  simp only [Act.put, List.setIfInBounds_toArray, List.set_cons_zero, List.set_cons_succ]
  refine wpAnyH_done (by kernel_rfl) ?_ _
  have hq7 : q → OwnR w7 w.heap.size 2 1 A6 n6 c6 (sv yN.dv) := fun h => ((hq6 h).oth o7 (fun e => by have := ((hq6 h).lt e).1; have : w4.drew.heap.size = w4.heap.size := rfl; omega)).base_le B5.out.size
  have ha7 : OwnR w7 w.heap.size 66 8 B k d (flat yL) := (ha6.oth o7 (fun e => by have := (ha6.lt e).1; have : w4.drew.heap.size = w4.heap.size := rfl; omega)).base_le B5.out.size
  have P7 := hid (And.intro V7 (And.intro hq7 (And.intro ha7 ((B5.out.trans (b6.mono B5.out.size)).trans (b7.mono (by have := D4.out; omega))))))
  have HL := hid hl6
  clear V7 hq7 ha7 S6 S7 V6 v7 b7 o7 s7 b6 hq6 hr6 ha6 hl6 S1 V1 V2 V3 V4 V4d B4 B5 HM HD g36
  go_wp2_with fail
  obtain ⟨V7, hq7, ha7, B7⟩ := P7.out
  refine bodyPost_ret (results_ctt (cs := encn yN A6 n6 c6) Tryz.results14 _ rfl V7.1 rfl) rfl ?_
  refine ⟨A6, n6, c6, B, k, d, rfl, HL.out, hq7, fun h => ?_, ha7, B7⟩
  rcases hq.out h with h | h
  · exact T9.Own.row (hq7 h)
  · rw [h] at HL ⊢
    rw [HL.out]
    exact T9.Row.nil _ _ _
end Go.Proofs.YtlgedfljmgedfaaGreat
