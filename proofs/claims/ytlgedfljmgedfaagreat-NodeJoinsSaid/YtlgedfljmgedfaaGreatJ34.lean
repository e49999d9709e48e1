/-
  Texts NU, NZ of this seat, as far as they are used.
-/
import Derived.Test.YtlgedfljmgedfaaGreatJ30
import Derived.Test.YtlgedfljmgedfaaGreatJ33
import Derived.Laws.AppendOwn
import Derived.Defers
namespace Go.Proofs.YtlgedfljmgedfaaGreat
open Go Go.RowKit
open M10 (hid Md encm mv mz Oth range_keep there_keep range_other there_other setCells_oth setCells_size there_set Ty enct tv tz Fr encf fv fz)
open O6 (Oc enco ov oz)
open T9 (sv)
/-! ### own -/
theorem ownR_of {w : World} {base : Nat} {e : TypeId} {A : Option Addr} {n c : Nat} {vs : List Value} (h : T9.Own w base e A n c vs) : OwnR w base e 1 A n c vs := h
/-- A node told: it, its list new from block base on. -/
def RetN (base : Nat) (x : Nd) (n : Nat) (w : World) (e : Ending) (w' : World) : Prop := ∃ A c, e = .returned (nv x A n c) ∧ OwnR w' base 2 1 A n c (sv x.dv) ∧ Below base w w'
set_option maxRecDepth 100000 in
set_option maxHeartbeats 1000000 in
theorem own_any (x : Nd) (A : Option Addr) (n c BB : Nat) (w : World) (hr : T9.Row w BB A n (sv x.dv)) (hB : BB ≤ w.heap.size) (hn : n ≤ 100) :
    Calls Tryz.prog 70 #[nv x A n c] w (RetN w.heap.size x n w) := by
  have HC := hid (fun (w2 : World) (k : Below w.heap.size w w2) => T9.clone_any A n c BB x.dv w2 (hr.below (k.mono hB)) (Nat.le_trans hB k.size) hn)
  clear hr hB hn
  go_enter Tryz.func70, Tryz.ntmps70
  go_wp2_with (first
    | (refine wpList_gst 32 (encn x A2 n c2) rfl (.tmp 2) (.tmp 7) rfl rfl rfl U4.out (by show 0 + 14 ≤ 14; omega) size32 (encn_one _ _ _ _) ?_; intro w5 v5 b5 o5 s5)
    | (refine wpList_ln (z := x) (A := A2) (n := n) (c := c2) (.tmp 1) rfl rfl V4.out.1 rfl ?_)
    | (refine wpList_gst1 30 (.slice A2 n c2) rfl (.tmp 6) (.tmp 5) rfl rfl rfl V3.out (by show 11 < 14; omega) (by kernel_rfl) rfl rfl ?_; intro w4 v4 b4 o4 s4; have V4 : Hid (Var w4 w.heap.size (encn x A2 n c2)) := hid v4; have U4 := hid (U3.out.other o4 NE.out); have O4 := hid (O3.out.oth o4 (fun e => by have := (O3.out.lt e).1; have := L1.out; omega)); have B4 := hid (B3.out.trans b4))
    | (go_at_call 121; (with_reducible refine (HC.out w2 B2.out).mono ?_); rintro e w3 ⟨A2, c2, rfl, own2, b3⟩; have V3 : Hid (Var w3 w.heap.size (encn x A n c)) := hid (V2.out.below b3 (V2.out.lt (by show 0 < 14; omega))); have U3 : Hid (Var w3 w1.heap.size (encn nz none 0 0)) := hid (U2.out.below b3 (U2.out.lt (by show 0 < 14; omega))); have O3 := hid (ownR_of own2); have B3 := hid (B2.out.trans (b3.mono B2.out.size)); clear own2 b3)
    | (refine wpList_galloc 32 (encn nz none 0 0) zero32 rfl rfl ?_; intro w2 v2 b2 s2; have V2 : Hid (Var w2 w.heap.size (encn x A n c)) := hid (v1.below b2 (v1.lt (by show 0 < 14; omega))); have U2 := hid v2; have B2 := hid (b1.trans (b2.mono b1.size)); have c11 : w2.cell? ⟨w.heap.size, 11, none⟩ = some (.slice A n c) := V2.out.cell rfl; have NE : Hid (w1.heap.size ≠ w.heap.size) := hid (by have := v1.lt (by show 0 < 14; omega); omega); have L1 : Hid (w.heap.size < w2.heap.size) := hid (V2.out.lt (by show 0 < 14; omega)); have L2 : Hid (w1.heap.size < w2.heap.size) := hid (U2.out.lt (by show 0 < 14; omega)); have L3 : Hid (w.heap.size ≤ w1.heap.size) := hid b1.size; clear v1 v2 b1 b2 s1 s2)
    | (refine wpList_gbox 32 (encn x A n c) rfl (.tmp 0) rfl rfl ?_; intro w1 v1 b1 s1))
  refine bodyPost_ret (results_cs (cs := encn x A2 n c2) Tryz.results70 _ rfl v5.1 Tryz.underlying32 rfl size32) rfl ?_
  exact ⟨A2, c2, rfl, (O4.out.oth o5 (fun e => by have := (O4.out.lt e).1; have := L2.out; omega)).base_le (Nat.le_of_lt L1.out), B4.out.trans (b5.mono L3.out)⟩
/-! ### New -/
def newN (id : Int) (o : Oc) : Nd := ⟨id, 0, 0, 0, o, 0, 0, ⟨0, 0⟩, [], false, 0⟩
def newR (m : Md) (id : Int) (o : Oc) : Nd := if nodeOk m (newN id o) then newN id o else nz
theorem results_ct {w : World} {g : Nat} {cs : List Value} {ty : TypeId} {fn : Func} {p q : Tmp} (h : fn.results = #[.cell p ty, .tmp q]) (tmps : Array Value) (hp : tmps.getD p undef = .pointer (some ⟨g, 0, none⟩)) (hx : w.rangeAt g 0 cs) {d : TypeDesc} (hu : Tryz.prog.underlying ty = some d) (hd : d.isRow = true) (hs : (Tryz.prog.info? ty).map (·.size) = some cs.length) :
    (results fn tmps).run Tryz.prog w = .ok (.tuple #[.agg cs.toArray, tmps.getD q undef]) w := by
  have := run_loadVar_mid (P := Tryz.prog) w g 0 ty cs _ hx hu hd hs
  have hp' : tmps[p]?.getD undef = .pointer (some ⟨g, 0, none⟩) := by simpa using hp
  simp only [results, h]
  simp [Result.andThen, hp', this, asAddr]
set_option maxRecDepth 100000 in
set_option maxHeartbeats 1000000 in
theorem new_ok (m : Md) (id : Int) (o : Oc) (w : World) (hE : nodeE m (newN id o) = 0) : Calls Tryz.prog 18 #[mv m, .int .i64 id, ov o] w fun e w' => e = .returned (.tuple #[nv (newN id o) none 0 0, .int .i64 0]) ∧ Below w.heap.size w w' := by
  have HC := hid (fun (w : World) => by have hf := ncheck_any (newN id o) m none 0 0 0 w (T9.Row.nil _ _ _) (Nat.zero_le _) (by omega); rw [hE] at hf; exact hf)
  clear hE
  go_enter Tryz.func18, Tryz.ntmps18
  go_wp2_with (first
    | (refine wpList_gst 32 (encn (newN id o) none 0 0) rfl (.tmp 6) (.tmp 20) rfl rfl rfl U6.out (by show 0 + 14 ≤ 14; omega) size32 (encn_one _ _ _ _) ?_; intro w7 v7 b7 o7 s7)
    | (refine wpList_ln (z := newN id o) (A := none) (n := 0) (c := 0) (.tmp 8) rfl rfl V6.out.1 rfl ?_)
    | (go_at_call 20; (with_reducible refine (HC.out w5).mono ?_); rintro e w6 ⟨rfl, b6⟩; have U6 := hid (U5.out.below b6 (U5.out.lt (by show 0 < 14; omega))); have V6 := hid (V5.out.below b6 (V5.out.lt (by show 0 < 14; omega))); have B6 := hid (B5.out.trans (b6.mono B5.out.size)); clear b6)
    | (refine wpList_ln (z := newN id o) (A := none) (n := 0) (c := 0) (.tmp 8) rfl rfl V5.out.1 rfl ?_)
    | (refine wpList_lm (.tmp 3) rfl rfl M5.out.1 rfl ?_)
    | (refine wpList_gst 32 (encn (newN id o) none 0 0) rfl (.tmp 8) (.tmp 12) rfl rfl rfl v4 (by show 0 + 14 ≤ 14; omega) size32 (encn_one _ _ _ _) ?_; intro w5 v5 b5 o5 s5; have V5 : Hid (Var w5 w3.heap.size (encn (newN id o) none 0 0)) := hid v5; have M5 := hid (M4.out.below b5 LM.out); have U5 := hid (U4.out.below b5 LU.out); have B5 := hid (B4.out.trans (b5.mono L3.out)); clear v4 v5 b5 o5 s5)
    | (refine wpList_galloc 32 (encn nz none 0 0) zero32 rfl rfl ?_; intro w4 v4 b4 s4; have M4 := hid (M3.out.below b4 (M3.out.lt (by show 0 < 5; omega))); have U4 := hid (U3.out.below b4 (U3.out.lt (by show 0 < 14; omega))); have B4 := hid (B3.out.trans (b4.mono B3.out.size)); have LM := hid (M3.out.lt (by show 0 < 5; omega)); have LU := hid (U3.out.lt (by show 0 < 14; omega)); have L3 := hid B3.out.size; clear b4 s4)
    | (refine wpList_gld 26 [.int .i64 o.p, .int .i64 o.d, .int .i64 o.r] (.tmp 5) rfl rfl O3.out.1 Tryz.underlying26 rfl size26 rfl ?_)
    | (refine wpList_galloc 32 (encn nz none 0 0) zero32 rfl rfl ?_; intro w3 v3 b3 s3; have M3 := hid ((v1.below b2 (v1.lt (by show 0 < 5; omega))).below b3 (by have := v1.lt (by show 0 < 5; omega); have := b2.size; omega)); have O3 := hid (v2.below b3 (v2.lt (by show 0 < 3; omega))); have U3 := hid v3; have NU : Hid (w.heap.size ≤ w2.heap.size) := hid (Nat.le_trans b1.size b2.size); have B3 := hid ((b1.trans (b2.mono b1.size)).trans (b3.mono (Nat.le_trans b1.size b2.size))); clear v1 v2 v3 b1 b2 b3 s1 s2 s3)
    | (refine wpList_gbox 26 (enco o) rfl (.tmp 2) rfl rfl ?_; intro w2 v2 b2 s2)
    | (refine wpList_gbox 23 (encm m) rfl (.tmp 0) rfl rfl ?_; intro w1 v1 b1 s1))
  refine bodyPost_ret (results_ct (cs := encn (newN id o) none 0 0) Tryz.results18 _ rfl v7.1 Tryz.underlying32 rfl size32) rfl ?_
  exact ⟨rfl, B6.out.trans (b7.mono NU.out)⟩
set_option maxRecDepth 100000 in
set_option maxHeartbeats 1000000 in
theorem new_bad (m : Md) (id : Int) (o : Oc) (w : World) (hE : nodeE m (newN id o) = 1) : Calls Tryz.prog 18 #[mv m, .int .i64 id, ov o] w fun e w' => e = .returned (.tuple #[nv nz none 0 0, .int .i64 1]) ∧ Below w.heap.size w w' := by
  have HC := hid (fun (w : World) => by have hf := ncheck_any (newN id o) m none 0 0 0 w (T9.Row.nil _ _ _) (Nat.zero_le _) (by omega); rw [hE] at hf; exact hf)
  clear hE
  go_enter Tryz.func18, Tryz.ntmps18
  go_wp2_with (first
    | (refine wpList_gst 32 (encn nz none 0 0) rfl (.tmp 6) (.tmp 18) rfl rfl rfl U6.out (by show 0 + 14 ≤ 14; omega) size32 (encn_one _ _ _ _) ?_; intro w7 v7 b7 o7 s7)
    | (go_at_call 20; (with_reducible refine (HC.out w5).mono ?_); rintro e w6 ⟨rfl, b6⟩; have U6 := hid (U5.out.below b6 (U5.out.lt (by show 0 < 14; omega))); have V6 := hid (V5.out.below b6 (V5.out.lt (by show 0 < 14; omega))); have B6 := hid (B5.out.trans (b6.mono B5.out.size)); clear b6)
    | (refine wpList_ln (z := newN id o) (A := none) (n := 0) (c := 0) (.tmp 8) rfl rfl V5.out.1 rfl ?_)
    | (refine wpList_lm (.tmp 3) rfl rfl M5.out.1 rfl ?_)
    | (refine wpList_gst 32 (encn (newN id o) none 0 0) rfl (.tmp 8) (.tmp 12) rfl rfl rfl v4 (by show 0 + 14 ≤ 14; omega) size32 (encn_one _ _ _ _) ?_; intro w5 v5 b5 o5 s5; have V5 : Hid (Var w5 w3.heap.size (encn (newN id o) none 0 0)) := hid v5; have M5 := hid (M4.out.below b5 LM.out); have U5 := hid (U4.out.below b5 LU.out); have B5 := hid (B4.out.trans (b5.mono L3.out)); clear v4 v5 b5 o5 s5)
    | (refine wpList_galloc 32 (encn nz none 0 0) zero32 rfl rfl ?_; intro w4 v4 b4 s4; have M4 := hid (M3.out.below b4 (M3.out.lt (by show 0 < 5; omega))); have U4 := hid (U3.out.below b4 (U3.out.lt (by show 0 < 14; omega))); have B4 := hid (B3.out.trans (b4.mono B3.out.size)); have LM := hid (M3.out.lt (by show 0 < 5; omega)); have LU := hid (U3.out.lt (by show 0 < 14; omega)); have L3 := hid B3.out.size; clear b4 s4)
    | (refine wpList_gld 26 [.int .i64 o.p, .int .i64 o.d, .int .i64 o.r] (.tmp 5) rfl rfl O3.out.1 Tryz.underlying26 rfl size26 rfl ?_)
    | (refine wpList_galloc 32 (encn nz none 0 0) zero32 rfl rfl ?_; intro w3 v3 b3 s3; have M3 := hid ((v1.below b2 (v1.lt (by show 0 < 5; omega))).below b3 (by have := v1.lt (by show 0 < 5; omega); have := b2.size; omega)); have O3 := hid (v2.below b3 (v2.lt (by show 0 < 3; omega))); have U3 := hid v3; have NU : Hid (w.heap.size ≤ w2.heap.size) := hid (Nat.le_trans b1.size b2.size); have B3 := hid ((b1.trans (b2.mono b1.size)).trans (b3.mono (Nat.le_trans b1.size b2.size))); clear v1 v2 v3 b1 b2 b3 s1 s2 s3)
    | (refine wpList_gbox 26 (enco o) rfl (.tmp 2) rfl rfl ?_; intro w2 v2 b2 s2)
    | (refine wpList_gbox 23 (encm m) rfl (.tmp 0) rfl rfl ?_; intro w1 v1 b1 s1))
  refine bodyPost_ret (results_ct (cs := encn nz none 0 0) Tryz.results18 _ rfl v7.1 Tryz.underlying32 rfl size32) rfl ?_
  exact ⟨rfl, B6.out.trans (b7.mono NU.out)⟩
theorem new_any (m : Md) (id : Int) (o : Oc) (w : World) : Calls Tryz.prog 18 #[mv m, .int .i64 id, ov o] w fun e w' => e = .returned (.tuple #[nv (newR m id o) none 0 0, .int .i64 (nodeE m (newN id o))]) ∧ Below w.heap.size w w' := by
  unfold newR
  by_cases h : nodeOk m (newN id o)
  · rw [if_pos h, show nodeE m (newN id o) = 0 from if_pos h]; exact new_ok m id o w (if_pos h)
  · rw [if_neg h, show nodeE m (newN id o) = 1 from if_neg h]; exact new_bad m id o w (if_neg h)
end Go.Proofs.YtlgedfljmgedfaaGreat
namespace Go.Proofs.YtlgedfljmgedfaaGreat
open Go Go.RowKit
open M10 (hid Md encm mv mz Oth range_keep there_keep range_other there_other setCells_oth setCells_size there_set Ty enct tv tz Fr encf fv fz)
open O6 (Oc enco ov oz)
open T9 (sv)
/-! ### A deferring function's way out by a panic does not look at most slots -/
theorem res29 (tmps : Array Value) (i : Nat) (v : Value) (h8 : i ≠ 8) (h9 : i ≠ 9) (h10 : i ≠ 10) : results Tryz.f29 (tmps.setIfInBounds i v) = results Tryz.f29 tmps := by
  unfold results
  rw [Tryz.results29]
  simp [Array.getElem?_setIfInBounds_ne h8, Array.getElem?_setIfInBounds_ne h9, Array.getElem?_setIfInBounds_ne h10]
theorem leaves_put {tmps tmps' : Array Value} (h : results Tryz.f29 tmps' = results Tryz.f29 tmps) {R : Ending → World → Prop} : ∀ (ds : List Deferred) (u : FrameMode) (w : World), Leaves Tryz.prog Tryz.f29 tmps' R ds u w → Leaves Tryz.prog Tryz.f29 tmps R ds u w
  | [], .returning, w, ⟨v, hv, hR⟩ => ⟨v, h ▸ hv, hR⟩
  | [], .panicking _, _, hR => hR
  | [], .run, _, hR => hR
  | d :: ds, u, w, ⟨hu, fv, cap, f, args, ht, hi, hc⟩ => ⟨hu, fv, cap, f, args, ht, hi, hc.mono fun e u' w' he => by
      cases e with
      | returned _ => exact leaves_put h ds _ _ he
      | panicked _ => exact leaves_put h ds _ _ he
      | outgrown => exact he⟩
theorem putQ {K : Act → World → Prop} {R : Ending → World → Prop} {i : Nat} {v : Value} (h8 : i ≠ 8) (h9 : i ≠ 9) (h10 : i ≠ 10) (c : List PanicEntry) (a : Act) (w : World)
    (h : Exit.then K (bodyPostD Tryz.prog Tryz.f29 R) (Exit.panic c) (a.put (some i) v) w) : Exit.then K (bodyPostD Tryz.prog Tryz.f29 R) (Exit.panic c) a w :=
  leaves_put (res29 a.tmps i v h8 h9 h10) _ _ _ h
/-! ### The deferred closure -/
set_option maxRecDepth 100000 in
theorem doD_ok (ge gw ga gl : Nat) (u : FrameMode) (w : World) (hc : w.cell? ⟨ge, 0, none⟩ = some (.int .i64 0)) :
    CallsD Tryz.prog 71 #[.pointer (some ⟨ge, 0, none⟩), .pointer (some ⟨gw, 0, none⟩), .pointer (some ⟨ga, 0, none⟩), .pointer (some ⟨gl, 0, none⟩)] u w fun e u' w' => u' = u ∧ (e = .returned (.tuple #[]) ∧ w' = w) := by
  go_enter_d Tryz.func71, Tryz.ntmps71
  go_wp2_with fail
  go_end0
  exact ⟨rfl, rfl⟩
set_option maxRecDepth 100000 in
theorem doD_err (ge gw ga gl : Nat) (E : Int) (x : Nd) (A : Option Addr) (n c : Nat) (cs : List Value) (v : Value) (u : FrameMode) (w : World) (hc : w.cell? ⟨ge, 0, none⟩ = some (.int .i64 E)) (hE : ¬ E = 0)
    (hw : w.rangeAt gw 0 (encn x A n c)) (ha : Var w ga cs) (hl : cs.length = 14) (hv : Var w gl [v]) (hne : gl ≠ ga) :
    CallsD Tryz.prog 71 #[.pointer (some ⟨ge, 0, none⟩), .pointer (some ⟨gw, 0, none⟩), .pointer (some ⟨ga, 0, none⟩), .pointer (some ⟨gl, 0, none⟩)] u w fun e u' w' => u' = u ∧ (e = .returned (.tuple #[]) ∧ Var w' ga (encn x A n c) ∧ Var w' gl [.slice none 0 0] ∧ Kept (fun k => k ≠ ga ∧ k ≠ gl) w w') := by
  have HW := hid hw
  have HA := hid ha
  have HV := hid hv
  have e1 : (E != 0) = true := by simpa using hE
  have NE := hid hne
  have HL := hid hl
  clear hw ha hv hE hne hl
  go_enter_d Tryz.func71, Tryz.ntmps71
  go_wp2_with (first
    | (refine wpList_gst1 37 (.slice none 0 0) rfl (.tmp 3) (.const (.slice none 0 0)) rfl rfl rfl (HV.out.other o1 NE.out) (by show 0 < 1; omega) (by kernel_rfl) rfl rfl ?_; intro w2 v2 b2 o2 s2)
    | (refine wpList_gst 32 (encn x A n c) rfl (.tmp 2) (.tmp 6) rfl rfl rfl HA.out (by rw [HL.out]; exact Nat.le_refl 14) size32 (encn_one _ _ _ _) ?_; intro w1 v1 b1 o1 s1)
    | (refine wpList_ln (z := x) (A := A) (n := n) (c := c) (.tmp 1) rfl rfl HW.out rfl ?_))
  go_end0
  have V1 : Var w1 ga (encn x A n c) := by
    have : setv cs 0 (encn x A n c) = encn x A n c := by
      unfold setv
      rw [List.drop_of_length_le (by rw [HL.out]; exact Nat.le_refl 14)]
      simp
    exact this ▸ v1
  refine ⟨rfl, V1.other o2 (Ne.symm NE.out), v2, ?_⟩
  exact (Kept.oth b1 o1 (fun h => h.1 rfl)).trans (Kept.oth b2 o2 (fun h => h.2 rfl))
/-! ### do -/
theorem Var.one {w : World} {g : Nat} {v : Value} (h : Var w g [v]) : w.cell? ⟨g, 0, none⟩ = some v := h.cell rfl
theorem results_3c {w : World} {g gl ge : Nat} {cs : List Value} {v u : Value} {fn : Func} {p q r : Tmp} (h : fn.results = #[.cell p 32, .cell q 37, .cell r 38]) (tmps : Array Value) (hp : tmps.getD p undef = .pointer (some ⟨g, 0, none⟩)) (hq : tmps.getD q undef = .pointer (some ⟨gl, 0, none⟩)) (hr : tmps.getD r undef = .pointer (some ⟨ge, 0, none⟩)) (hx : w.rangeAt g 0 cs) (hs : cs.length = 14) (h1 : w.cell? ⟨gl, 0, none⟩ = some v) (h2 : w.cell? ⟨ge, 0, none⟩ = some u) :
    (results fn tmps).run Tryz.prog w = .ok (.tuple #[.agg cs.toArray, v, u]) w := by
  have := run_loadVar_mid (P := Tryz.prog) w g 0 32 cs _ hx Tryz.underlying32 rfl (by rw [size32, hs])
  have hp' : tmps[p]?.getD undef = .pointer (some ⟨g, 0, none⟩) := by simpa using hp
  have hq' : tmps[q]?.getD undef = .pointer (some ⟨gl, 0, none⟩) := by simpa using hq
  have hr' : tmps[r]?.getD undef = .pointer (some ⟨ge, 0, none⟩) := by simpa using hr
  have l1 : (loadVar 37 ⟨gl, 0, none⟩).run Tryz.prog w = .ok v w := by simp [loadVar, Tryz.isAgg37, h1]
  have l2 : (loadVar 38 ⟨ge, 0, none⟩).run Tryz.prog w = .ok u w := by simp [loadVar, Tryz.isAgg38, h2]
  simp only [results, h]
  simp [Result.andThen, hp', hq', hr', this, asAddr, l1, l2]
/-- What do tells: a node, acts, an error; where q, the node's list is its own, from block base on; where r, it is there. -/
def RetD (base : Nat) (y : Nd) (l : List Ac) (E : Int) (q r : Prop) (w : World) (e : Ending) (w' : World) : Prop :=
  ∃ A n c B k d, e = .returned (.tuple #[nv y A n c, .slice B k d, .int .i64 E]) ∧ n = y.dv.length ∧ (q → OwnR w' base 2 1 A n c (sv y.dv)) ∧ (r → T9.Row w' w'.heap.size A n (sv y.dv)) ∧ OwnR w' base 66 8 B k d (flat l) ∧ Below base w w'
theorem zero37 (w : World) : (zeroValue 37).run Tryz.prog w = .ok (.slice none 0 0) w := by kernel_rfl
theorem zero38 (w : World) : (zeroValue 38).run Tryz.prog w = .ok (.int .i64 0) w := by kernel_rfl
theorem wk_n {w : World} {g : Nat} {x : Nd} {A B : Option Addr} {n c k d : Nat} {m : Md} (h : Var w g (encw x A n c m B k d)) : w.rangeAt g 0 (encn x A n c) := h.part fun j v hv => by
  rw [Nat.zero_add]
  unfold encw
  rw [List.getElem?_append_left (List.getElem?_eq_some_iff.1 hv).1]
  exact hv
end Go.Proofs.YtlgedfljmgedfaaGreat
