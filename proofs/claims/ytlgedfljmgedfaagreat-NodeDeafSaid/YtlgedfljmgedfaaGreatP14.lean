/-
  Texts NP, NS, NSb, NSc, NSd, NSe, NT, NU, NZ of this seat, as far as they are used.
-/
import Derived.Test.YtlgedfljmgedfaaGreatP8
import Derived.Test.YtlgedfljmgedfaaGreatP13
import Derived.Laws.StructEq
import Derived.Deep.QuietTactic
import Derived.BigQuiet
import Derived.Laws.AppendOwn
import Derived.Defers
namespace Go.Proofs.YtlgedfljmgedfaaGreat
open Go Go.RowKit
open M10 (hid Md encm mv mz Oth range_keep there_keep range_other there_other setCells_oth setCells_size there_set Ty enct tv tz Fr encf fv fz)
open O6 (Oc enco ov oz)
open T9 (sv)
/-! ### A node but for its list -/
def encp (x : Nd) : List Value := [.int .i64 x.id, .int .i64 x.ph, .int .u64 x.sl, .int .i64 x.st, .int .i64 x.o.p, .int .i64 x.o.d, .int .i64 x.o.r, .int .i64 x.co, .int .u16 (x.mb : Int), .int .i64 x.t.g, .int .i64 x.t.b, .bool x.se, .int .i64 x.vd]
def pv (x : Nd) : Value := .agg (encp x).toArray
theorem encp_one (x : Nd) : ∀ u ∈ encp x, u.oneCell' = true := by
  intro u hu; simp [encp] at hu; rcases hu with rfl | rfl | rfl | rfl | rfl | rfl | rfl | rfl | rfl | rfl | rfl | rfl | rfl <;> rfl
theorem size94 : (Tryz.prog.info? 94).map (·.size) = some 13 := by kernel_rfl
theorem fo94 : Tryz.prog.underlying 94 = some (.struct (Tryz.prog.fieldsOf 94)) := by kernel_rfl
theorem si94 : Tryz.prog.stoodInHeld 94 = false := by kernel_rfl
theorem eg94 : Tryz.prog.eqGuardType Tryz.prog.depth 94 = false := by kernel_rfl
def pz : Nd := ⟨0, 0, 0, 0, oz, 0, 0, tz, [], false, 0⟩
theorem zero94 (w : World) : (zeroValue 94).run Tryz.prog w = .ok (pv pz) w := by kernel_rfl
set_option maxRecDepth 100000 in
set_option maxHeartbeats 1000000 in
theorem plain_any (x : Nd) (A : Option Addr) (n c : Nat) (w : World) : Calls Tryz.prog 59 #[nv x A n c] w fun e w' => e = .returned (pv x) ∧ Below w.heap.size w w' := by
  go_enter Tryz.func59, Tryz.ntmps59
  go_wp2_with (first
    | (refine wpList_gst 94 (encp x) rfl (.tmp 2) (.tmp 23) rfl rfl rfl v2 (by show 0 + 13 ≤ 13; omega) size94 (encp_one x) ?_; intro w3 v3 b3 o3 s3)
    | (refine wpList_gld 29 [.int .i64 x.t.g, .int .i64 x.t.b] (.tmp 17) rfl rfl T1.out Tryz.underlying29 rfl size29 rfl ?_)
    | (refine wpList_gld 26 [.int .i64 x.o.p, .int .i64 x.o.d, .int .i64 x.o.r] (.tmp 11) rfl rfl O1.out Tryz.underlying26 rfl size26 rfl ?_)
    | (refine wpList_galloc 94 (encp pz) zero94 rfl rfl ?_; intro w2 v2 b2 s2; have u2 : Var w2 w.heap.size (encn x A n c) := v1.below b2 (v1.lt (by show 0 < 14; omega)); have c0 : w2.cell? ⟨w.heap.size, 0, none⟩ = some (.int .i64 x.id) := u2.cell rfl; have c1 : w2.cell? ⟨w.heap.size, 1, none⟩ = some (.int .i64 x.ph) := u2.cell rfl; have c2 : w2.cell? ⟨w.heap.size, 2, none⟩ = some (.int .u64 x.sl) := u2.cell rfl; have c3 : w2.cell? ⟨w.heap.size, 3, none⟩ = some (.int .i64 x.st) := u2.cell rfl; have c7 : w2.cell? ⟨w.heap.size, 7, none⟩ = some (.int .i64 x.co) := u2.cell rfl; have c8 : w2.cell? ⟨w.heap.size, 8, none⟩ = some (.int .u16 (x.mb : Int)) := u2.cell rfl; have c12 : w2.cell? ⟨w.heap.size, 12, none⟩ = some (.bool x.se) := u2.cell rfl; have c13 : w2.cell? ⟨w.heap.size, 13, none⟩ = some (.int .i64 x.vd) := u2.cell rfl; have O1 : Hid (w2.rangeAt w.heap.size 4 (enco x.o)) := hid (u2.part fun j v hv => match j, hv with | 0, hv => hv | 1, hv => hv | 2, hv => hv); have T1 : Hid (w2.rangeAt w.heap.size 9 (enct x.t)) := hid (u2.part fun j v hv => match j, hv with | 0, hv => hv | 1, hv => hv); clear u2)
    | (refine wpList_gbox 32 (encn x A n c) rfl (.tmp 0) rfl rfl ?_; intro w1 v1 b1 s1))
  refine bodyPost_ret (results_cs (cs := encp x) Tryz.results59 _ rfl v3.1 fo94 rfl size94) rfl ?_
  exact ⟨rfl, (b1.trans (b2.mono b1.size)).trans (b3.mono (Nat.le_trans b1.size (Nat.le_refl _)))⟩
/-! ### compared -/
/-- The same but for their lists. -/
def plB (x y : Nd) : Bool := decide (x.id = y.id ∧ x.ph = y.ph ∧ x.sl = y.sl ∧ x.st = y.st ∧ (x.o.p = y.o.p ∧ x.o.d = y.o.d ∧ x.o.r = y.o.r) ∧ x.co = y.co ∧ x.mb = y.mb ∧ (x.t.g = y.t.g ∧ x.t.b = y.t.b) ∧ x.se = y.se ∧ x.vd = y.vd)
theorem eqIn94 (x y : Nd) (w : World) : (Op.equalIn 10000 94 (pv x) (pv y)).run Tryz.prog w = .ok (plB x y) w := by
  unfold pv encp
  rw [run_equalIn_agg w 9999 94 _ _ fo94 si94]
  simp [go_sem]
  have e : ((x.mb : Int) = (y.mb : Int)) ↔ x.mb = y.mb := by omega
  simp only [e, plB]
  by_cases h0 : x.id = y.id
  case neg => simp [h0]
  rw [if_pos h0]
  by_cases h1 : x.ph = y.ph
  case neg => simp [h1]
  rw [if_pos h1]
  by_cases h2 : x.sl = y.sl
  case neg => simp [h2]
  rw [if_pos h2]
  by_cases h3 : x.st = y.st
  case neg => simp [h3]
  rw [if_pos h3]
  by_cases h4 : x.o.p = y.o.p
  case neg => simp [h4]
  rw [if_pos h4]
  by_cases h5 : x.o.d = y.o.d
  case neg => simp [h5]
  rw [if_pos h5]
  by_cases h6 : x.o.r = y.o.r
  case neg => simp [h6]
  rw [if_pos h6]
  by_cases h7 : x.co = y.co
  case neg => simp [h7]
  rw [if_pos h7]
  by_cases h8 : x.mb = y.mb
  case neg => simp [h8]
  rw [if_pos h8]
  by_cases h9 : x.t.g = y.t.g
  case neg => simp [h9]
  rw [if_pos h9]
  by_cases h10 : x.t.b = y.t.b
  case neg => simp [h10]
  rw [if_pos h10]
  by_cases h11 : x.se = y.se
  case neg => simp [h11]
  rw [if_pos h11]
  by_cases h12 : x.vd = y.vd
  case neg => simp [h12]
  rw [if_pos h12]
  simp [h0, h1, h2, h3, h4, h5, h6, h7, h8, h9, h10, h11, h12]
theorem eql94 (x y : Nd) (w : World) : (binOp .eql 94 (pv x) (pv y)).run Tryz.prog w = .ok (.bool (plB x y)) w := by
  have := eqIn94 x y w
  unfold pv at this ⊢
  rw [run_eql_struct, this]; rfl
theorem gua94 (op : BinOp) (a b : Operand) (x y : Nd) (w : World) : (eqGuard op 94 a b (pv x) (pv y)).run Tryz.prog w = .ok () w := run_eqGuard_agg w op 94 a b _ _ eg94
theorem wpQuiet_ln {w : World} {x : Nd} {A : Option Addr} {n c : Nat} {ops : Array Oper} {Q : Act → Prop} {o : Oper} {rest : List Oper} {a : Act} {y : Operand} {b : Nat} (hw : Region.wanted o (yielded ops a.tmps) = true) (ho : o.op = .load 32 y) (hx : a.eval y = .pointer (some ⟨b, 0, none⟩)) (hv : w.rangeAt b 0 (encn x A n c))
    (h : wpQuiet Tryz.prog ops (fun w' => ∃ p : Regrown, w' = Sort.grow (redrawn w p.d) p.os) Q rest (a.put o.dst (nv x A n c))) : wpQuiet Tryz.prog ops (fun w' => ∃ p : Regrown, w' = Sort.grow (redrawn w p.d) p.os) Q (o :: rest) a :=
  wpQuiet_gld 32 (encn x A n c) hw ho hx hv Tryz.underlying32 rfl size32 h
/-- All parts are the same. -/
def saB (x y : Nd) : Bool := plB x y && decide (x.dv = y.dv)
set_option maxRecDepth 100000 in
set_option maxHeartbeats 1000000 in
theorem same_any (x y : Nd) (A A2 : Option Addr) (n c m c2 B B2 : Nat) (w : World) (ha : T9.Row w B A n (sv x.dv)) (hb : T9.Row w B2 A2 m (sv y.dv)) (hB : B ≤ w.heap.size) (hB2 : B2 ≤ w.heap.size) (hn : n ≤ 1000000000) (hm : m ≤ 1000000000) :
    Calls Tryz.prog 22 #[nv x A n c, nv y A2 m c2] w fun e w' => e = .returned (.bool (saB x y)) ∧ Below w.heap.size w w' := by
  have HA := hid ha
  have HB := hid hb
  have q1 := fun w => eql94 x y w
  have q2 := fun p q w => gua94 .eql p q x y w
  unfold saB
  clear ha hb
  cases hR : plB x y
  · rw [hR] at q1
    go_enter Tryz.func22, Tryz.ntmps22
    go_wp2_with (first
      | (refine wpList_gbox 32 (encn y A2 m c2) rfl (.tmp 1) rfl rfl ?_; intro w2 v2 b2 s2)
      | (refine wpList_gbox 32 (encn x A n c) rfl (.tmp 0) rfl rfl ?_; intro w1 v1 b1 s1))
    have U1 := hid (v1.below b2 (v1.lt (by show 0 < 14; omega))).1
    have U2 := hid v2.1
    have BT := hid (b1.trans (b2.mono b1.size))
    clear v1 v2 b1 b2 s1 s2
    have T1 := hid (fun d os => Calls.regrown_of (d := d) (os := os) (plain_any x A n c (Sort.grow (redrawn w2 d) os)))
    have T2 := hid (fun d os => Calls.regrown_of (d := d) (os := os) (plain_any y A2 m c2 (Sort.grow (redrawn w2 d) os)))
    refine wp_region_quiet_below (by kernel_rfl) (by kernel_rfl) ?_
    repeat (first | go_big_quiet_skip | refine wpQuiet_ln rfl rfl rfl U1.out ?_ | refine wpQuiet_ln rfl rfl rfl U2.out ?_ | quiet_step (first | with_reducible exact T1.out _ _ | with_reducible exact T2.out _ _))
    refine wpQuiet_nil ?_
    intro _ hw'
    obtain ⟨⟨dq, osq⟩, hw''⟩ := hw'
    subst hw''
    go_wp2
    go_ret
    exact ⟨rfl, BT.out.trans ((below_regrown _ dq osq).mono BT.out.size)⟩
  · rw [hR] at q1
    go_enter Tryz.func22, Tryz.ntmps22
    go_wp2_with (first
      | (refine wpList_gbox 32 (encn y A2 m c2) rfl (.tmp 1) rfl rfl ?_; intro w2 v2 b2 s2)
      | (refine wpList_gbox 32 (encn x A n c) rfl (.tmp 0) rfl rfl ?_; intro w1 v1 b1 s1))
    have V1 := v1.below b2 (v1.lt (by show 0 < 14; omega))
    have U1 := hid V1.1
    have U2 := hid v2.1
    have d1 : Hid (w2.cell? ⟨w.heap.size, 11, none⟩ = some (.slice A n c)) := hid (V1.cell rfl)
    have d2 : Hid (w2.cell? ⟨w1.heap.size, 11, none⟩ = some (.slice A2 m c2)) := hid (v2.cell rfl)
    have BT := hid (b1.trans (b2.mono b1.size))
    clear v1 v2 b1 b2 s1 s2 V1
    have T1 := hid (fun d os => Calls.regrown_of (d := d) (os := os) (plain_any x A n c (Sort.grow (redrawn w2 d) os)))
    have T2 := hid (fun d os => Calls.regrown_of (d := d) (os := os) (plain_any y A2 m c2 (Sort.grow (redrawn w2 d) os)))
    have T3 := hid (fun d os => by
      have k := BT.out.trans ((below_regrown w2 d os).mono BT.out.size)
      exact Calls.regrown_of (d := d) (os := os) (equal_60 A A2 n c m c2 B B2 x.dv y.dv (Sort.grow (redrawn w2 d) os) (HA.out.below (k.mono hB)) (HB.out.below (k.mono hB2)) (Nat.le_trans hB k.size) (Nat.le_trans hB2 k.size) hn hm))
    refine wp_region_quiet_below (by kernel_rfl) (by kernel_rfl) ?_
    repeat (first | refine wpQuiet_ln rfl rfl rfl U1.out ?_ | refine wpQuiet_ln rfl rfl rfl U2.out ?_ | refine wpQuiet_gl1 30 rfl rfl rfl Tryz.isAgg30 d1.out ?_ | refine wpQuiet_gl1 30 rfl rfl rfl Tryz.isAgg30 d2.out ?_ | quiet_step (first | with_reducible exact T1.out _ _ | with_reducible exact T2.out _ _ | with_reducible exact T3.out _ _))
    refine wpQuiet_nil ?_
    intro _ hw'
    obtain ⟨⟨dq, osq⟩, hw''⟩ := hw'
    subst hw''
    go_wp2
    go_ret
    exact ⟨rfl, BT.out.trans ((below_regrown _ dq osq).mono BT.out.size)⟩
end Go.Proofs.YtlgedfljmgedfaaGreat
namespace Go.Proofs.YtlgedfljmgedfaaGreat
open Go Go.RowKit
open M10 (hid Md encm mv mz Oth range_keep there_keep range_other there_other setCells_oth setCells_size there_set Ty enct tv tz Fr encf fv fz)
open O6 (Oc enco ov oz)
open T9 (sv)
/-! ### fits -/
def fitB (m : Md) (x : Nd) : Bool := (decide (0 ≤ x.id) && decide (x.id ≤ m.n - 1)) && (decide (0 ≤ x.ph) && decide (x.ph ≤ 3)) && decide (x.sl ≤ 4294967296) && timeB x.st && !farB m.d x.co && (decide (0 ≤ x.t.g) && decide (x.t.g ≤ 1073741824)) && (decide (0 ≤ x.t.b) && decide (x.t.b ≤ 1073741824)) && decide ((x.dv.length : Int) ≤ m.n) && !anyFar m.d x.dv && (decide (0 ≤ x.vd) && decide (x.vd ≤ 3))
set_option maxRecDepth 100000 in
set_option maxHeartbeats 2000000 in
theorem fits_0 (x : Nd) (m : Md) (A : Option Addr) (n c BB : Nat) (w : World) (hm : M10.Ok m) (hr : T9.Row w BB A n (sv x.dv)) (_hB : BB ≤ w.heap.size) (_hn : n ≤ 9223372036854775807) (h0 : (decide (0 ≤ x.id) && decide (x.id ≤ m.n - 1)) = false) :
    Calls Tryz.prog 56 #[mv m, nv x A n c] w fun e w' => e = .returned (.bool false) ∧ Below w.heap.size w w' := by
  have hmf : ∀ (fn : Fn) (first cap : Array Value) (w : World), (Instr.makeFunc fn first cap).run Tryz.prog w = .ok (.func fn first cap) w := fun _ _ _ _ => rfl
  obtain ⟨m1, m2, m3, m4, m5, m6, m7, m8, m9⟩ := id hm
  have d0 : 0 ≤ m.d := by omega
  have d1 : m.d ≤ 1048576 := by omega
  have HR := hid hr
  have hl : x.dv.length = n := by have := hr.1; simpa [sv] using this
  have eN : IntKind.i64.wrap (m.n - 1) = m.n - 1 := by rw [IntKind.wrap_i64]; omega
  have H0 := hid h0
  clear h0
  clear hr hm hl m1 m2 m3 m4 m5 m6 m7 m8 m9
  go_enter Tryz.func56, Tryz.ntmps56
  go_wp2_with (first
    | (go_at_call 109; (with_reducible refine C0.out.mono ?_); rintro e wq ⟨rfl, hq⟩; rw [hq]; clear hq wq)
    | (refine wpList_gbox 32 (encn x A n c) rfl (.tmp 1) rfl rfl ?_; intro w2 v2 b2 s2; have V1 := v1.below b2 (v1.lt (by show 0 < 5; omega)); have BT := hid (b1.trans (b2.mono b1.size)); have mc : w2.cell? ⟨w.heap.size, 4, none⟩ = some (.int .i64 m.d) := V1.cell rfl; have mn : w2.cell? ⟨w.heap.size, 0, none⟩ = some (.int .i64 m.n) := V1.cell rfl; have a0 : w2.cell? ⟨w1.heap.size, 0, none⟩ = some (.int .i64 x.id) := v2.cell rfl; have C0 := within_109 x.id 0 (m.n - 1) _ rfl w2; rw [H0.out] at C0; have C0 := hid C0; clear V1 v1 v2 b1 b2 s1 s2 mc d0 d1 HR)
    | (refine wpList_gbox 23 (encm m) rfl (.tmp 0) rfl rfl ?_; intro w1 v1 b1 s1))
  go_ret
  exact ⟨rfl, BT.out⟩
set_option maxRecDepth 100000 in
set_option maxHeartbeats 2000000 in
theorem fits_1 (x : Nd) (m : Md) (A : Option Addr) (n c BB : Nat) (w : World) (hm : M10.Ok m) (hr : T9.Row w BB A n (sv x.dv)) (_hB : BB ≤ w.heap.size) (_hn : n ≤ 9223372036854775807) (h0 : (decide (0 ≤ x.id) && decide (x.id ≤ m.n - 1)) = true) (h1 : (decide (0 ≤ x.ph) && decide (x.ph ≤ 3)) = false) :
    Calls Tryz.prog 56 #[mv m, nv x A n c] w fun e w' => e = .returned (.bool false) ∧ Below w.heap.size w w' := by
  have hmf : ∀ (fn : Fn) (first cap : Array Value) (w : World), (Instr.makeFunc fn first cap).run Tryz.prog w = .ok (.func fn first cap) w := fun _ _ _ _ => rfl
  obtain ⟨m1, m2, m3, m4, m5, m6, m7, m8, m9⟩ := id hm
  have d0 : 0 ≤ m.d := by omega
  have d1 : m.d ≤ 1048576 := by omega
  have HR := hid hr
  have hl : x.dv.length = n := by have := hr.1; simpa [sv] using this
  have eN : IntKind.i64.wrap (m.n - 1) = m.n - 1 := by rw [IntKind.wrap_i64]; omega
  have H0 := hid h0
  clear h0
  have H1 := hid h1
  clear h1
  clear hr hm hl m1 m2 m3 m4 m5 m6 m7 m8 m9
  go_enter Tryz.func56, Tryz.ntmps56
  go_wp2_with (first
    | (go_at_call 109; (with_reducible refine C0.out.mono ?_); rintro e wq ⟨rfl, hq⟩; rw [hq]; clear hq wq)
    | (go_at_call 109; (with_reducible refine C1.out.mono ?_); rintro e wq ⟨rfl, hq⟩; rw [hq]; clear hq wq)
    | (refine wpList_gbox 32 (encn x A n c) rfl (.tmp 1) rfl rfl ?_; intro w2 v2 b2 s2; have V1 := v1.below b2 (v1.lt (by show 0 < 5; omega)); have BT := hid (b1.trans (b2.mono b1.size)); have mc : w2.cell? ⟨w.heap.size, 4, none⟩ = some (.int .i64 m.d) := V1.cell rfl; have mn : w2.cell? ⟨w.heap.size, 0, none⟩ = some (.int .i64 m.n) := V1.cell rfl; have a0 : w2.cell? ⟨w1.heap.size, 0, none⟩ = some (.int .i64 x.id) := v2.cell rfl; have a1 : w2.cell? ⟨w1.heap.size, 1, none⟩ = some (.int .i64 x.ph) := v2.cell rfl; have C0 := within_109 x.id 0 (m.n - 1) _ rfl w2; rw [H0.out] at C0; have C0 := hid C0; have C1 := within_109 x.ph 0 3 _ rfl w2; rw [H1.out] at C1; have C1 := hid C1; clear V1 v1 v2 b1 b2 s1 s2 mc d0 d1 HR)
    | (refine wpList_gbox 23 (encm m) rfl (.tmp 0) rfl rfl ?_; intro w1 v1 b1 s1))
  go_ret
  exact ⟨rfl, BT.out⟩
set_option maxRecDepth 100000 in
set_option maxHeartbeats 2000000 in
theorem fits_2 (x : Nd) (m : Md) (A : Option Addr) (n c BB : Nat) (w : World) (hm : M10.Ok m) (hr : T9.Row w BB A n (sv x.dv)) (_hB : BB ≤ w.heap.size) (_hn : n ≤ 9223372036854775807) (h0 : (decide (0 ≤ x.id) && decide (x.id ≤ m.n - 1)) = true) (h1 : (decide (0 ≤ x.ph) && decide (x.ph ≤ 3)) = true) (h2 : decide (x.sl ≤ 4294967296) = false) :
    Calls Tryz.prog 56 #[mv m, nv x A n c] w fun e w' => e = .returned (.bool false) ∧ Below w.heap.size w w' := by
  have hmf : ∀ (fn : Fn) (first cap : Array Value) (w : World), (Instr.makeFunc fn first cap).run Tryz.prog w = .ok (.func fn first cap) w := fun _ _ _ _ => rfl
  obtain ⟨m1, m2, m3, m4, m5, m6, m7, m8, m9⟩ := id hm
  have d0 : 0 ≤ m.d := by omega
  have d1 : m.d ≤ 1048576 := by omega
  have HR := hid hr
  have hl : x.dv.length = n := by have := hr.1; simpa [sv] using this
  have eN : IntKind.i64.wrap (m.n - 1) = m.n - 1 := by rw [IntKind.wrap_i64]; omega
  have H0 := hid h0
  clear h0
  have H1 := hid h1
  clear h1
  clear hr hm hl m1 m2 m3 m4 m5 m6 m7 m8 m9
  go_enter Tryz.func56, Tryz.ntmps56
  go_wp2_with (first
    | (go_at_call 109; (with_reducible refine C0.out.mono ?_); rintro e wq ⟨rfl, hq⟩; rw [hq]; clear hq wq)
    | (go_at_call 109; (with_reducible refine C1.out.mono ?_); rintro e wq ⟨rfl, hq⟩; rw [hq]; clear hq wq)
    | (refine wpList_gbox 32 (encn x A n c) rfl (.tmp 1) rfl rfl ?_; intro w2 v2 b2 s2; have V1 := v1.below b2 (v1.lt (by show 0 < 5; omega)); have BT := hid (b1.trans (b2.mono b1.size)); have mc : w2.cell? ⟨w.heap.size, 4, none⟩ = some (.int .i64 m.d) := V1.cell rfl; have mn : w2.cell? ⟨w.heap.size, 0, none⟩ = some (.int .i64 m.n) := V1.cell rfl; have a0 : w2.cell? ⟨w1.heap.size, 0, none⟩ = some (.int .i64 x.id) := v2.cell rfl; have a1 : w2.cell? ⟨w1.heap.size, 1, none⟩ = some (.int .i64 x.ph) := v2.cell rfl; have a2 : w2.cell? ⟨w1.heap.size, 2, none⟩ = some (.int .u64 x.sl) := v2.cell rfl; have C0 := within_109 x.id 0 (m.n - 1) _ rfl w2; rw [H0.out] at C0; have C0 := hid C0; have C1 := within_109 x.ph 0 3 _ rfl w2; rw [H1.out] at C1; have C1 := hid C1; clear V1 v1 v2 b1 b2 s1 s2 mc d0 d1 HR)
    | (refine wpList_gbox 23 (encm m) rfl (.tmp 0) rfl rfl ?_; intro w1 v1 b1 s1))
  go_ret
  exact ⟨rfl, BT.out⟩
set_option maxRecDepth 100000 in
set_option maxHeartbeats 2000000 in
theorem fits_3 (x : Nd) (m : Md) (A : Option Addr) (n c BB : Nat) (w : World) (hm : M10.Ok m) (hr : T9.Row w BB A n (sv x.dv)) (_hB : BB ≤ w.heap.size) (_hn : n ≤ 9223372036854775807) (h0 : (decide (0 ≤ x.id) && decide (x.id ≤ m.n - 1)) = true) (h1 : (decide (0 ≤ x.ph) && decide (x.ph ≤ 3)) = true) (h2 : decide (x.sl ≤ 4294967296) = true) (h3 : timeB x.st = false) :
    Calls Tryz.prog 56 #[mv m, nv x A n c] w fun e w' => e = .returned (.bool false) ∧ Below w.heap.size w w' := by
  have hmf : ∀ (fn : Fn) (first cap : Array Value) (w : World), (Instr.makeFunc fn first cap).run Tryz.prog w = .ok (.func fn first cap) w := fun _ _ _ _ => rfl
  obtain ⟨m1, m2, m3, m4, m5, m6, m7, m8, m9⟩ := id hm
  have d0 : 0 ≤ m.d := by omega
  have d1 : m.d ≤ 1048576 := by omega
  have HR := hid hr
  have hl : x.dv.length = n := by have := hr.1; simpa [sv] using this
  have eN : IntKind.i64.wrap (m.n - 1) = m.n - 1 := by rw [IntKind.wrap_i64]; omega
  have H0 := hid h0
  clear h0
  have H1 := hid h1
  clear h1
  have H3 := hid h3
  clear h3
  clear hr hm hl m1 m2 m3 m4 m5 m6 m7 m8 m9
  go_enter Tryz.func56, Tryz.ntmps56
  go_wp2_with (first
    | (go_at_call 109; (with_reducible refine C0.out.mono ?_); rintro e wq ⟨rfl, hq⟩; rw [hq]; clear hq wq)
    | (go_at_call 109; (with_reducible refine C1.out.mono ?_); rintro e wq ⟨rfl, hq⟩; rw [hq]; clear hq wq)
    | (go_at_call 30; (with_reducible refine C3.out.mono ?_); rintro e wq ⟨rfl, hq⟩; rw [hq]; clear hq wq)
    | (refine wpList_gbox 32 (encn x A n c) rfl (.tmp 1) rfl rfl ?_; intro w2 v2 b2 s2; have V1 := v1.below b2 (v1.lt (by show 0 < 5; omega)); have BT := hid (b1.trans (b2.mono b1.size)); have mc : w2.cell? ⟨w.heap.size, 4, none⟩ = some (.int .i64 m.d) := V1.cell rfl; have mn : w2.cell? ⟨w.heap.size, 0, none⟩ = some (.int .i64 m.n) := V1.cell rfl; have a0 : w2.cell? ⟨w1.heap.size, 0, none⟩ = some (.int .i64 x.id) := v2.cell rfl; have a1 : w2.cell? ⟨w1.heap.size, 1, none⟩ = some (.int .i64 x.ph) := v2.cell rfl; have a2 : w2.cell? ⟨w1.heap.size, 2, none⟩ = some (.int .u64 x.sl) := v2.cell rfl; have a3 : w2.cell? ⟨w1.heap.size, 3, none⟩ = some (.int .i64 x.st) := v2.cell rfl; have C0 := within_109 x.id 0 (m.n - 1) _ rfl w2; rw [H0.out] at C0; have C0 := hid C0; have C1 := within_109 x.ph 0 3 _ rfl w2; rw [H1.out] at C1; have C1 := hid C1; have C3 := isTime_any x.st w2; rw [H3.out] at C3; have C3 := hid C3; clear V1 v1 v2 b1 b2 s1 s2 mc d0 d1 HR)
    | (refine wpList_gbox 23 (encm m) rfl (.tmp 0) rfl rfl ?_; intro w1 v1 b1 s1))
  go_ret
  exact ⟨rfl, BT.out⟩
end Go.Proofs.YtlgedfljmgedfaaGreat
namespace Go.Proofs.YtlgedfljmgedfaaGreat
open Go Go.RowKit
open M10 (hid Md encm mv mz Oth range_keep there_keep range_other there_other setCells_oth setCells_size there_set Ty enct tv tz Fr encf fv fz)
open O6 (Oc enco ov oz)
open T9 (sv)
set_option maxRecDepth 100000 in
set_option maxHeartbeats 2000000 in
theorem fits_4 (x : Nd) (m : Md) (A : Option Addr) (n c BB : Nat) (w : World) (hm : M10.Ok m) (hr : T9.Row w BB A n (sv x.dv)) (_hB : BB ≤ w.heap.size) (_hn : n ≤ 9223372036854775807) (h0 : (decide (0 ≤ x.id) && decide (x.id ≤ m.n - 1)) = true) (h1 : (decide (0 ≤ x.ph) && decide (x.ph ≤ 3)) = true) (h2 : decide (x.sl ≤ 4294967296) = true) (h3 : timeB x.st = true) (h4 : farB m.d x.co = true) :
    Calls Tryz.prog 56 #[mv m, nv x A n c] w fun e w' => e = .returned (.bool false) ∧ Below w.heap.size w w' := by
  have hmf : ∀ (fn : Fn) (first cap : Array Value) (w : World), (Instr.makeFunc fn first cap).run Tryz.prog w = .ok (.func fn first cap) w := fun _ _ _ _ => rfl
  obtain ⟨m1, m2, m3, m4, m5, m6, m7, m8, m9⟩ := id hm
  have d0 : 0 ≤ m.d := by omega
  have d1 : m.d ≤ 1048576 := by omega
  have HR := hid hr
  have hl : x.dv.length = n := by have := hr.1; simpa [sv] using this
  have eN : IntKind.i64.wrap (m.n - 1) = m.n - 1 := by rw [IntKind.wrap_i64]; omega
  have H0 := hid h0
  clear h0
  have H1 := hid h1
  clear h1
  have H3 := hid h3
  clear h3
  have H4 := hid h4
  clear h4
  clear hr hm hl m1 m2 m3 m4 m5 m6 m7 m8 m9
  go_enter Tryz.func56, Tryz.ntmps56
  go_wp2_with (first
    | (go_at_call 109; (with_reducible refine C0.out.mono ?_); rintro e wq ⟨rfl, hq⟩; rw [hq]; clear hq wq)
    | (go_at_call 109; (with_reducible refine C1.out.mono ?_); rintro e wq ⟨rfl, hq⟩; rw [hq]; clear hq wq)
    | (go_at_call 30; (with_reducible refine C3.out.mono ?_); rintro e wq ⟨rfl, hq⟩; rw [hq]; clear hq wq)
    | (go_at_call 108; (with_reducible refine C4.out.mono ?_); rintro e wq ⟨rfl, hq⟩; rw [hq]; clear hq wq)
    | (refine wpList_gbox 32 (encn x A n c) rfl (.tmp 1) rfl rfl ?_; intro w2 v2 b2 s2; have V1 := v1.below b2 (v1.lt (by show 0 < 5; omega)); have BT := hid (b1.trans (b2.mono b1.size)); have mc : w2.cell? ⟨w.heap.size, 4, none⟩ = some (.int .i64 m.d) := V1.cell rfl; have mn : w2.cell? ⟨w.heap.size, 0, none⟩ = some (.int .i64 m.n) := V1.cell rfl; have a0 : w2.cell? ⟨w1.heap.size, 0, none⟩ = some (.int .i64 x.id) := v2.cell rfl; have a1 : w2.cell? ⟨w1.heap.size, 1, none⟩ = some (.int .i64 x.ph) := v2.cell rfl; have a2 : w2.cell? ⟨w1.heap.size, 2, none⟩ = some (.int .u64 x.sl) := v2.cell rfl; have a3 : w2.cell? ⟨w1.heap.size, 3, none⟩ = some (.int .i64 x.st) := v2.cell rfl; have a7 : w2.cell? ⟨w1.heap.size, 7, none⟩ = some (.int .i64 x.co) := v2.cell rfl; have C0 := within_109 x.id 0 (m.n - 1) _ rfl w2; rw [H0.out] at C0; have C0 := hid C0; have C1 := within_109 x.ph 0 3 _ rfl w2; rw [H1.out] at C1; have C1 := hid C1; have C3 := isTime_any x.st w2; rw [H3.out] at C3; have C3 := hid C3; have C4 := far_any x.co m.d w.heap.size w2 d0 d1 mc; rw [H4.out] at C4; have C4 := hid C4; clear V1 v1 v2 b1 b2 s1 s2 mc d0 d1 HR)
    | (refine wpList_gbox 23 (encm m) rfl (.tmp 0) rfl rfl ?_; intro w1 v1 b1 s1))
  go_ret
  exact ⟨rfl, BT.out⟩
set_option maxRecDepth 100000 in
set_option maxHeartbeats 2000000 in
theorem fits_5 (x : Nd) (m : Md) (A : Option Addr) (n c BB : Nat) (w : World) (hm : M10.Ok m) (hr : T9.Row w BB A n (sv x.dv)) (_hB : BB ≤ w.heap.size) (_hn : n ≤ 9223372036854775807) (h0 : (decide (0 ≤ x.id) && decide (x.id ≤ m.n - 1)) = true) (h1 : (decide (0 ≤ x.ph) && decide (x.ph ≤ 3)) = true) (h2 : decide (x.sl ≤ 4294967296) = true) (h3 : timeB x.st = true) (h4 : farB m.d x.co = false) (h5 : (decide (0 ≤ x.t.g) && decide (x.t.g ≤ 1073741824)) = false) :
    Calls Tryz.prog 56 #[mv m, nv x A n c] w fun e w' => e = .returned (.bool false) ∧ Below w.heap.size w w' := by
  have hmf : ∀ (fn : Fn) (first cap : Array Value) (w : World), (Instr.makeFunc fn first cap).run Tryz.prog w = .ok (.func fn first cap) w := fun _ _ _ _ => rfl
  obtain ⟨m1, m2, m3, m4, m5, m6, m7, m8, m9⟩ := id hm
  have d0 : 0 ≤ m.d := by omega
  have d1 : m.d ≤ 1048576 := by omega
  have HR := hid hr
  have hl : x.dv.length = n := by have := hr.1; simpa [sv] using this
  have eN : IntKind.i64.wrap (m.n - 1) = m.n - 1 := by rw [IntKind.wrap_i64]; omega
  have H0 := hid h0
  clear h0
  have H1 := hid h1
  clear h1
  have H3 := hid h3
  clear h3
  have H4 := hid h4
  clear h4
  have H5 := hid h5
  clear h5
  clear hr hm hl m1 m2 m3 m4 m5 m6 m7 m8 m9
  go_enter Tryz.func56, Tryz.ntmps56
  go_wp2_with (first
    | (go_at_call 109; (with_reducible refine C0.out.mono ?_); rintro e wq ⟨rfl, hq⟩; rw [hq]; clear hq wq)
    | (go_at_call 109; (with_reducible refine C1.out.mono ?_); rintro e wq ⟨rfl, hq⟩; rw [hq]; clear hq wq)
    | (go_at_call 30; (with_reducible refine C3.out.mono ?_); rintro e wq ⟨rfl, hq⟩; rw [hq]; clear hq wq)
    | (go_at_call 108; (with_reducible refine C4.out.mono ?_); rintro e wq ⟨rfl, hq⟩; rw [hq]; clear hq wq)
    | (go_at_call 109; (with_reducible refine C5.out.mono ?_); rintro e wq ⟨rfl, hq⟩; rw [hq]; clear hq wq)
    | (refine wpList_gbox 32 (encn x A n c) rfl (.tmp 1) rfl rfl ?_; intro w2 v2 b2 s2; have V1 := v1.below b2 (v1.lt (by show 0 < 5; omega)); have BT := hid (b1.trans (b2.mono b1.size)); have mc : w2.cell? ⟨w.heap.size, 4, none⟩ = some (.int .i64 m.d) := V1.cell rfl; have mn : w2.cell? ⟨w.heap.size, 0, none⟩ = some (.int .i64 m.n) := V1.cell rfl; have a0 : w2.cell? ⟨w1.heap.size, 0, none⟩ = some (.int .i64 x.id) := v2.cell rfl; have a1 : w2.cell? ⟨w1.heap.size, 1, none⟩ = some (.int .i64 x.ph) := v2.cell rfl; have a2 : w2.cell? ⟨w1.heap.size, 2, none⟩ = some (.int .u64 x.sl) := v2.cell rfl; have a3 : w2.cell? ⟨w1.heap.size, 3, none⟩ = some (.int .i64 x.st) := v2.cell rfl; have a7 : w2.cell? ⟨w1.heap.size, 7, none⟩ = some (.int .i64 x.co) := v2.cell rfl; have a9 : w2.cell? ⟨w1.heap.size, 9, none⟩ = some (.int .i64 x.t.g) := v2.cell rfl; have C0 := within_109 x.id 0 (m.n - 1) _ rfl w2; rw [H0.out] at C0; have C0 := hid C0; have C1 := within_109 x.ph 0 3 _ rfl w2; rw [H1.out] at C1; have C1 := hid C1; have C3 := isTime_any x.st w2; rw [H3.out] at C3; have C3 := hid C3; have C4 := far_any x.co m.d w.heap.size w2 d0 d1 mc; rw [H4.out] at C4; have C4 := hid C4; have C5 := within_109 x.t.g 0 1073741824 _ rfl w2; rw [H5.out] at C5; have C5 := hid C5; clear V1 v1 v2 b1 b2 s1 s2 mc d0 d1 HR)
    | (refine wpList_gbox 23 (encm m) rfl (.tmp 0) rfl rfl ?_; intro w1 v1 b1 s1))
  go_ret
  exact ⟨rfl, BT.out⟩
set_option maxRecDepth 100000 in
set_option maxHeartbeats 2000000 in
theorem fits_6 (x : Nd) (m : Md) (A : Option Addr) (n c BB : Nat) (w : World) (hm : M10.Ok m) (hr : T9.Row w BB A n (sv x.dv)) (_hB : BB ≤ w.heap.size) (_hn : n ≤ 9223372036854775807) (h0 : (decide (0 ≤ x.id) && decide (x.id ≤ m.n - 1)) = true) (h1 : (decide (0 ≤ x.ph) && decide (x.ph ≤ 3)) = true) (h2 : decide (x.sl ≤ 4294967296) = true) (h3 : timeB x.st = true) (h4 : farB m.d x.co = false) (h5 : (decide (0 ≤ x.t.g) && decide (x.t.g ≤ 1073741824)) = true) (h6 : (decide (0 ≤ x.t.b) && decide (x.t.b ≤ 1073741824)) = false) :
    Calls Tryz.prog 56 #[mv m, nv x A n c] w fun e w' => e = .returned (.bool false) ∧ Below w.heap.size w w' := by
  have hmf : ∀ (fn : Fn) (first cap : Array Value) (w : World), (Instr.makeFunc fn first cap).run Tryz.prog w = .ok (.func fn first cap) w := fun _ _ _ _ => rfl
  obtain ⟨m1, m2, m3, m4, m5, m6, m7, m8, m9⟩ := id hm
  have d0 : 0 ≤ m.d := by omega
  have d1 : m.d ≤ 1048576 := by omega
  have HR := hid hr
  have hl : x.dv.length = n := by have := hr.1; simpa [sv] using this
  have eN : IntKind.i64.wrap (m.n - 1) = m.n - 1 := by rw [IntKind.wrap_i64]; omega
  have H0 := hid h0
  clear h0
  have H1 := hid h1
  clear h1
  have H3 := hid h3
  clear h3
  have H4 := hid h4
  clear h4
  have H5 := hid h5
  clear h5
  have H6 := hid h6
  clear h6
  clear hr hm hl m1 m2 m3 m4 m5 m6 m7 m8 m9
  go_enter Tryz.func56, Tryz.ntmps56
  go_wp2_with (first
    | (go_at_call 109; (with_reducible refine C0.out.mono ?_); rintro e wq ⟨rfl, hq⟩; rw [hq]; clear hq wq)
    | (go_at_call 109; (with_reducible refine C1.out.mono ?_); rintro e wq ⟨rfl, hq⟩; rw [hq]; clear hq wq)
    | (go_at_call 30; (with_reducible refine C3.out.mono ?_); rintro e wq ⟨rfl, hq⟩; rw [hq]; clear hq wq)
    | (go_at_call 108; (with_reducible refine C4.out.mono ?_); rintro e wq ⟨rfl, hq⟩; rw [hq]; clear hq wq)
    | (go_at_call 109; (with_reducible refine C5.out.mono ?_); rintro e wq ⟨rfl, hq⟩; rw [hq]; clear hq wq)
    | (go_at_call 109; (with_reducible refine C6.out.mono ?_); rintro e wq ⟨rfl, hq⟩; rw [hq]; clear hq wq)
    | (refine wpList_gbox 32 (encn x A n c) rfl (.tmp 1) rfl rfl ?_; intro w2 v2 b2 s2; have V1 := v1.below b2 (v1.lt (by show 0 < 5; omega)); have BT := hid (b1.trans (b2.mono b1.size)); have mc : w2.cell? ⟨w.heap.size, 4, none⟩ = some (.int .i64 m.d) := V1.cell rfl; have mn : w2.cell? ⟨w.heap.size, 0, none⟩ = some (.int .i64 m.n) := V1.cell rfl; have a0 : w2.cell? ⟨w1.heap.size, 0, none⟩ = some (.int .i64 x.id) := v2.cell rfl; have a1 : w2.cell? ⟨w1.heap.size, 1, none⟩ = some (.int .i64 x.ph) := v2.cell rfl; have a2 : w2.cell? ⟨w1.heap.size, 2, none⟩ = some (.int .u64 x.sl) := v2.cell rfl; have a3 : w2.cell? ⟨w1.heap.size, 3, none⟩ = some (.int .i64 x.st) := v2.cell rfl; have a7 : w2.cell? ⟨w1.heap.size, 7, none⟩ = some (.int .i64 x.co) := v2.cell rfl; have a9 : w2.cell? ⟨w1.heap.size, 9, none⟩ = some (.int .i64 x.t.g) := v2.cell rfl; have a10 : w2.cell? ⟨w1.heap.size, 10, none⟩ = some (.int .i64 x.t.b) := v2.cell rfl; have C0 := within_109 x.id 0 (m.n - 1) _ rfl w2; rw [H0.out] at C0; have C0 := hid C0; have C1 := within_109 x.ph 0 3 _ rfl w2; rw [H1.out] at C1; have C1 := hid C1; have C3 := isTime_any x.st w2; rw [H3.out] at C3; have C3 := hid C3; have C4 := far_any x.co m.d w.heap.size w2 d0 d1 mc; rw [H4.out] at C4; have C4 := hid C4; have C5 := within_109 x.t.g 0 1073741824 _ rfl w2; rw [H5.out] at C5; have C5 := hid C5; have C6 := within_109 x.t.b 0 1073741824 _ rfl w2; rw [H6.out] at C6; have C6 := hid C6; clear V1 v1 v2 b1 b2 s1 s2 mc d0 d1 HR)
    | (refine wpList_gbox 23 (encm m) rfl (.tmp 0) rfl rfl ?_; intro w1 v1 b1 s1))
  go_ret
  exact ⟨rfl, BT.out⟩
end Go.Proofs.YtlgedfljmgedfaaGreat
namespace Go.Proofs.YtlgedfljmgedfaaGreat
open Go Go.RowKit
open M10 (hid Md encm mv mz Oth range_keep there_keep range_other there_other setCells_oth setCells_size there_set Ty enct tv tz Fr encf fv fz)
open O6 (Oc enco ov oz)
open T9 (sv)
set_option maxRecDepth 100000 in
set_option maxHeartbeats 2000000 in
theorem fits_7 (x : Nd) (m : Md) (A : Option Addr) (n c BB : Nat) (w : World) (hm : M10.Ok m) (hr : T9.Row w BB A n (sv x.dv)) (_hB : BB ≤ w.heap.size) (_hn : n ≤ 9223372036854775807) (h0 : (decide (0 ≤ x.id) && decide (x.id ≤ m.n - 1)) = true) (h1 : (decide (0 ≤ x.ph) && decide (x.ph ≤ 3)) = true) (h2 : decide (x.sl ≤ 4294967296) = true) (h3 : timeB x.st = true) (h4 : farB m.d x.co = false) (h5 : (decide (0 ≤ x.t.g) && decide (x.t.g ≤ 1073741824)) = true) (h6 : (decide (0 ≤ x.t.b) && decide (x.t.b ≤ 1073741824)) = true) (h7 : decide ((x.dv.length : Int) ≤ m.n) = false) :
    Calls Tryz.prog 56 #[mv m, nv x A n c] w fun e w' => e = .returned (.bool false) ∧ Below w.heap.size w w' := by
  have hmf : ∀ (fn : Fn) (first cap : Array Value) (w : World), (Instr.makeFunc fn first cap).run Tryz.prog w = .ok (.func fn first cap) w := fun _ _ _ _ => rfl
  obtain ⟨m1, m2, m3, m4, m5, m6, m7, m8, m9⟩ := id hm
  have d0 : 0 ≤ m.d := by omega
  have d1 : m.d ≤ 1048576 := by omega
  have HR := hid hr
  have hl : x.dv.length = n := by have := hr.1; simpa [sv] using this
  have eN : IntKind.i64.wrap (m.n - 1) = m.n - 1 := by rw [IntKind.wrap_i64]; omega
  rw [hl] at h7
  have H0 := hid h0
  clear h0
  have H1 := hid h1
  clear h1
  have H3 := hid h3
  clear h3
  have H4 := hid h4
  clear h4
  have H5 := hid h5
  clear h5
  have H6 := hid h6
  clear h6
  clear hr hm hl m1 m2 m3 m4 m5 m6 m7 m8 m9
  go_enter Tryz.func56, Tryz.ntmps56
  go_wp2_with (first
    | (go_at_call 109; (with_reducible refine C0.out.mono ?_); rintro e wq ⟨rfl, hq⟩; rw [hq]; clear hq wq)
    | (go_at_call 109; (with_reducible refine C1.out.mono ?_); rintro e wq ⟨rfl, hq⟩; rw [hq]; clear hq wq)
    | (go_at_call 30; (with_reducible refine C3.out.mono ?_); rintro e wq ⟨rfl, hq⟩; rw [hq]; clear hq wq)
    | (go_at_call 108; (with_reducible refine C4.out.mono ?_); rintro e wq ⟨rfl, hq⟩; rw [hq]; clear hq wq)
    | (go_at_call 109; (with_reducible refine C5.out.mono ?_); rintro e wq ⟨rfl, hq⟩; rw [hq]; clear hq wq)
    | (go_at_call 109; (with_reducible refine C6.out.mono ?_); rintro e wq ⟨rfl, hq⟩; rw [hq]; clear hq wq)
    | (refine wpList_gbox 32 (encn x A n c) rfl (.tmp 1) rfl rfl ?_; intro w2 v2 b2 s2; have V1 := v1.below b2 (v1.lt (by show 0 < 5; omega)); have BT := hid (b1.trans (b2.mono b1.size)); have mc : w2.cell? ⟨w.heap.size, 4, none⟩ = some (.int .i64 m.d) := V1.cell rfl; have mn : w2.cell? ⟨w.heap.size, 0, none⟩ = some (.int .i64 m.n) := V1.cell rfl; have a0 : w2.cell? ⟨w1.heap.size, 0, none⟩ = some (.int .i64 x.id) := v2.cell rfl; have a1 : w2.cell? ⟨w1.heap.size, 1, none⟩ = some (.int .i64 x.ph) := v2.cell rfl; have a2 : w2.cell? ⟨w1.heap.size, 2, none⟩ = some (.int .u64 x.sl) := v2.cell rfl; have a3 : w2.cell? ⟨w1.heap.size, 3, none⟩ = some (.int .i64 x.st) := v2.cell rfl; have a7 : w2.cell? ⟨w1.heap.size, 7, none⟩ = some (.int .i64 x.co) := v2.cell rfl; have a9 : w2.cell? ⟨w1.heap.size, 9, none⟩ = some (.int .i64 x.t.g) := v2.cell rfl; have a10 : w2.cell? ⟨w1.heap.size, 10, none⟩ = some (.int .i64 x.t.b) := v2.cell rfl; have a11 : w2.cell? ⟨w1.heap.size, 11, none⟩ = some (.slice A n c) := v2.cell rfl; have C0 := within_109 x.id 0 (m.n - 1) _ rfl w2; rw [H0.out] at C0; have C0 := hid C0; have C1 := within_109 x.ph 0 3 _ rfl w2; rw [H1.out] at C1; have C1 := hid C1; have C3 := isTime_any x.st w2; rw [H3.out] at C3; have C3 := hid C3; have C4 := far_any x.co m.d w.heap.size w2 d0 d1 mc; rw [H4.out] at C4; have C4 := hid C4; have C5 := within_109 x.t.g 0 1073741824 _ rfl w2; rw [H5.out] at C5; have C5 := hid C5; have C6 := within_109 x.t.b 0 1073741824 _ rfl w2; rw [H6.out] at C6; have C6 := hid C6; clear V1 v1 v2 b1 b2 s1 s2 mc d0 d1 HR)
    | (refine wpList_gbox 23 (encm m) rfl (.tmp 0) rfl rfl ?_; intro w1 v1 b1 s1))
  go_ret
  exact ⟨rfl, BT.out⟩
set_option maxRecDepth 100000 in
set_option maxHeartbeats 2000000 in
theorem fits_8 (x : Nd) (m : Md) (A : Option Addr) (n c BB : Nat) (w : World) (hm : M10.Ok m) (hr : T9.Row w BB A n (sv x.dv)) (hB : BB ≤ w.heap.size) (hn : n ≤ 9223372036854775807) (h0 : (decide (0 ≤ x.id) && decide (x.id ≤ m.n - 1)) = true) (h1 : (decide (0 ≤ x.ph) && decide (x.ph ≤ 3)) = true) (h2 : decide (x.sl ≤ 4294967296) = true) (h3 : timeB x.st = true) (h4 : farB m.d x.co = false) (h5 : (decide (0 ≤ x.t.g) && decide (x.t.g ≤ 1073741824)) = true) (h6 : (decide (0 ≤ x.t.b) && decide (x.t.b ≤ 1073741824)) = true) (h7 : decide ((x.dv.length : Int) ≤ m.n) = true) (h8 : anyFar m.d x.dv = true) :
    Calls Tryz.prog 56 #[mv m, nv x A n c] w fun e w' => e = .returned (.bool false) ∧ Below w.heap.size w w' := by
  have hmf : ∀ (fn : Fn) (first cap : Array Value) (w : World), (Instr.makeFunc fn first cap).run Tryz.prog w = .ok (.func fn first cap) w := fun _ _ _ _ => rfl
  obtain ⟨m1, m2, m3, m4, m5, m6, m7, m8, m9⟩ := id hm
  have d0 : 0 ≤ m.d := by omega
  have d1 : m.d ≤ 1048576 := by omega
  have HR := hid hr
  have hl : x.dv.length = n := by have := hr.1; simpa [sv] using this
  have eN : IntKind.i64.wrap (m.n - 1) = m.n - 1 := by rw [IntKind.wrap_i64]; omega
  rw [hl] at h7
  have H0 := hid h0
  clear h0
  have H1 := hid h1
  clear h1
  have H3 := hid h3
  clear h3
  have H4 := hid h4
  clear h4
  have H5 := hid h5
  clear h5
  have H6 := hid h6
  clear h6
  have H8 := hid h8
  clear h8
  clear hr hm hl m1 m2 m3 m4 m5 m6 m7 m8 m9
  go_enter Tryz.func56, Tryz.ntmps56
  go_wp2_with (first
    | (go_at_call 109; (with_reducible refine C0.out.mono ?_); rintro e wq ⟨rfl, hq⟩; rw [hq]; clear hq wq)
    | (go_at_call 109; (with_reducible refine C1.out.mono ?_); rintro e wq ⟨rfl, hq⟩; rw [hq]; clear hq wq)
    | (go_at_call 30; (with_reducible refine C3.out.mono ?_); rintro e wq ⟨rfl, hq⟩; rw [hq]; clear hq wq)
    | (go_at_call 108; (with_reducible refine C4.out.mono ?_); rintro e wq ⟨rfl, hq⟩; rw [hq]; clear hq wq)
    | (go_at_call 109; (with_reducible refine C5.out.mono ?_); rintro e wq ⟨rfl, hq⟩; rw [hq]; clear hq wq)
    | (go_at_call 109; (with_reducible refine C6.out.mono ?_); rintro e wq ⟨rfl, hq⟩; rw [hq]; clear hq wq)
    | (go_at_call 110; (with_reducible refine C8.out.mono ?_); rintro e wq ⟨rfl, hq⟩; rw [hq]; clear hq wq)
    | (refine wpList_gbox 32 (encn x A n c) rfl (.tmp 1) rfl rfl ?_; intro w2 v2 b2 s2; have V1 := v1.below b2 (v1.lt (by show 0 < 5; omega)); have BT := hid (b1.trans (b2.mono b1.size)); have mc : w2.cell? ⟨w.heap.size, 4, none⟩ = some (.int .i64 m.d) := V1.cell rfl; have mn : w2.cell? ⟨w.heap.size, 0, none⟩ = some (.int .i64 m.n) := V1.cell rfl; have a0 : w2.cell? ⟨w1.heap.size, 0, none⟩ = some (.int .i64 x.id) := v2.cell rfl; have a1 : w2.cell? ⟨w1.heap.size, 1, none⟩ = some (.int .i64 x.ph) := v2.cell rfl; have a2 : w2.cell? ⟨w1.heap.size, 2, none⟩ = some (.int .u64 x.sl) := v2.cell rfl; have a3 : w2.cell? ⟨w1.heap.size, 3, none⟩ = some (.int .i64 x.st) := v2.cell rfl; have a7 : w2.cell? ⟨w1.heap.size, 7, none⟩ = some (.int .i64 x.co) := v2.cell rfl; have a9 : w2.cell? ⟨w1.heap.size, 9, none⟩ = some (.int .i64 x.t.g) := v2.cell rfl; have a10 : w2.cell? ⟨w1.heap.size, 10, none⟩ = some (.int .i64 x.t.b) := v2.cell rfl; have a11 : w2.cell? ⟨w1.heap.size, 11, none⟩ = some (.slice A n c) := v2.cell rfl; have C0 := within_109 x.id 0 (m.n - 1) _ rfl w2; rw [H0.out] at C0; have C0 := hid C0; have C1 := within_109 x.ph 0 3 _ rfl w2; rw [H1.out] at C1; have C1 := hid C1; have C3 := isTime_any x.st w2; rw [H3.out] at C3; have C3 := hid C3; have C4 := far_any x.co m.d w.heap.size w2 d0 d1 mc; rw [H4.out] at C4; have C4 := hid C4; have C5 := within_109 x.t.g 0 1073741824 _ rfl w2; rw [H5.out] at C5; have C5 := hid C5; have C6 := within_109 x.t.b 0 1073741824 _ rfl w2; rw [H6.out] at C6; have C6 := hid C6; have C8 := contains_any A n c BB x.dv m.d w.heap.size w2 hn d0 d1 mc (HR.out.below (BT.out.mono hB)); rw [H8.out] at C8; have C8 := hid C8; clear V1 v1 v2 b1 b2 s1 s2 mc d0 d1 HR)
    | (refine wpList_gbox 23 (encm m) rfl (.tmp 0) rfl rfl ?_; intro w1 v1 b1 s1))
  go_ret
  exact ⟨rfl, BT.out⟩
end Go.Proofs.YtlgedfljmgedfaaGreat
namespace Go.Proofs.YtlgedfljmgedfaaGreat
open Go Go.RowKit
open M10 (hid Md encm mv mz Oth range_keep there_keep range_other there_other setCells_oth setCells_size there_set Ty enct tv tz Fr encf fv fz)
open O6 (Oc enco ov oz)
open T9 (sv)
set_option maxRecDepth 100000 in
set_option maxHeartbeats 2000000 in
theorem fits_9 (x : Nd) (m : Md) (A : Option Addr) (n c BB : Nat) (w : World) (hm : M10.Ok m) (hr : T9.Row w BB A n (sv x.dv)) (hB : BB ≤ w.heap.size) (hn : n ≤ 9223372036854775807) (h0 : (decide (0 ≤ x.id) && decide (x.id ≤ m.n - 1)) = true) (h1 : (decide (0 ≤ x.ph) && decide (x.ph ≤ 3)) = true) (h2 : decide (x.sl ≤ 4294967296) = true) (h3 : timeB x.st = true) (h4 : farB m.d x.co = false) (h5 : (decide (0 ≤ x.t.g) && decide (x.t.g ≤ 1073741824)) = true) (h6 : (decide (0 ≤ x.t.b) && decide (x.t.b ≤ 1073741824)) = true) (h7 : decide ((x.dv.length : Int) ≤ m.n) = true) (h8 : anyFar m.d x.dv = false) (h9 : (decide (0 ≤ x.vd) && decide (x.vd ≤ 3)) = false) :
    Calls Tryz.prog 56 #[mv m, nv x A n c] w fun e w' => e = .returned (.bool false) ∧ Below w.heap.size w w' := by
  have hmf : ∀ (fn : Fn) (first cap : Array Value) (w : World), (Instr.makeFunc fn first cap).run Tryz.prog w = .ok (.func fn first cap) w := fun _ _ _ _ => rfl
  obtain ⟨m1, m2, m3, m4, m5, m6, m7, m8, m9⟩ := id hm
  have d0 : 0 ≤ m.d := by omega
  have d1 : m.d ≤ 1048576 := by omega
  have HR := hid hr
  have hl : x.dv.length = n := by have := hr.1; simpa [sv] using this
  have eN : IntKind.i64.wrap (m.n - 1) = m.n - 1 := by rw [IntKind.wrap_i64]; omega
  rw [hl] at h7
  have H0 := hid h0
  clear h0
  have H1 := hid h1
  clear h1
  have H3 := hid h3
  clear h3
  have H4 := hid h4
  clear h4
  have H5 := hid h5
  clear h5
  have H6 := hid h6
  clear h6
  have H8 := hid h8
  clear h8
  have H9 := hid h9
  clear h9
  clear hr hm hl m1 m2 m3 m4 m5 m6 m7 m8 m9
  go_enter Tryz.func56, Tryz.ntmps56
  go_wp2_with (first
    | (go_at_call 109; (with_reducible refine C0.out.mono ?_); rintro e wq ⟨rfl, hq⟩; rw [hq]; clear hq wq)
    | (go_at_call 109; (with_reducible refine C1.out.mono ?_); rintro e wq ⟨rfl, hq⟩; rw [hq]; clear hq wq)
    | (go_at_call 30; (with_reducible refine C3.out.mono ?_); rintro e wq ⟨rfl, hq⟩; rw [hq]; clear hq wq)
    | (go_at_call 108; (with_reducible refine C4.out.mono ?_); rintro e wq ⟨rfl, hq⟩; rw [hq]; clear hq wq)
    | (go_at_call 109; (with_reducible refine C5.out.mono ?_); rintro e wq ⟨rfl, hq⟩; rw [hq]; clear hq wq)
    | (go_at_call 109; (with_reducible refine C6.out.mono ?_); rintro e wq ⟨rfl, hq⟩; rw [hq]; clear hq wq)
    | (go_at_call 110; (with_reducible refine C8.out.mono ?_); rintro e wq ⟨rfl, hq⟩; rw [hq]; clear hq wq)
    | (go_at_call 109; (with_reducible refine C9.out.mono ?_); rintro e wq ⟨rfl, hq⟩; rw [hq]; clear hq wq)
    | (refine wpList_gbox 32 (encn x A n c) rfl (.tmp 1) rfl rfl ?_; intro w2 v2 b2 s2; have V1 := v1.below b2 (v1.lt (by show 0 < 5; omega)); have BT := hid (b1.trans (b2.mono b1.size)); have mc : w2.cell? ⟨w.heap.size, 4, none⟩ = some (.int .i64 m.d) := V1.cell rfl; have mn : w2.cell? ⟨w.heap.size, 0, none⟩ = some (.int .i64 m.n) := V1.cell rfl; have a0 : w2.cell? ⟨w1.heap.size, 0, none⟩ = some (.int .i64 x.id) := v2.cell rfl; have a1 : w2.cell? ⟨w1.heap.size, 1, none⟩ = some (.int .i64 x.ph) := v2.cell rfl; have a2 : w2.cell? ⟨w1.heap.size, 2, none⟩ = some (.int .u64 x.sl) := v2.cell rfl; have a3 : w2.cell? ⟨w1.heap.size, 3, none⟩ = some (.int .i64 x.st) := v2.cell rfl; have a7 : w2.cell? ⟨w1.heap.size, 7, none⟩ = some (.int .i64 x.co) := v2.cell rfl; have a9 : w2.cell? ⟨w1.heap.size, 9, none⟩ = some (.int .i64 x.t.g) := v2.cell rfl; have a10 : w2.cell? ⟨w1.heap.size, 10, none⟩ = some (.int .i64 x.t.b) := v2.cell rfl; have a11 : w2.cell? ⟨w1.heap.size, 11, none⟩ = some (.slice A n c) := v2.cell rfl; have a13 : w2.cell? ⟨w1.heap.size, 13, none⟩ = some (.int .i64 x.vd) := v2.cell rfl; have C0 := within_109 x.id 0 (m.n - 1) _ rfl w2; rw [H0.out] at C0; have C0 := hid C0; have C1 := within_109 x.ph 0 3 _ rfl w2; rw [H1.out] at C1; have C1 := hid C1; have C3 := isTime_any x.st w2; rw [H3.out] at C3; have C3 := hid C3; have C4 := far_any x.co m.d w.heap.size w2 d0 d1 mc; rw [H4.out] at C4; have C4 := hid C4; have C5 := within_109 x.t.g 0 1073741824 _ rfl w2; rw [H5.out] at C5; have C5 := hid C5; have C6 := within_109 x.t.b 0 1073741824 _ rfl w2; rw [H6.out] at C6; have C6 := hid C6; have C8 := contains_any A n c BB x.dv m.d w.heap.size w2 hn d0 d1 mc (HR.out.below (BT.out.mono hB)); rw [H8.out] at C8; have C8 := hid C8; have C9 := within_109 x.vd 0 3 _ rfl w2; rw [H9.out] at C9; have C9 := hid C9; clear V1 v1 v2 b1 b2 s1 s2 mc d0 d1 HR)
    | (refine wpList_gbox 23 (encm m) rfl (.tmp 0) rfl rfl ?_; intro w1 v1 b1 s1))
  go_ret
  exact ⟨rfl, BT.out⟩
set_option maxRecDepth 100000 in
set_option maxHeartbeats 2000000 in
theorem fits_10 (x : Nd) (m : Md) (A : Option Addr) (n c BB : Nat) (w : World) (hm : M10.Ok m) (hr : T9.Row w BB A n (sv x.dv)) (hB : BB ≤ w.heap.size) (hn : n ≤ 9223372036854775807) (h0 : (decide (0 ≤ x.id) && decide (x.id ≤ m.n - 1)) = true) (h1 : (decide (0 ≤ x.ph) && decide (x.ph ≤ 3)) = true) (h2 : decide (x.sl ≤ 4294967296) = true) (h3 : timeB x.st = true) (h4 : farB m.d x.co = false) (h5 : (decide (0 ≤ x.t.g) && decide (x.t.g ≤ 1073741824)) = true) (h6 : (decide (0 ≤ x.t.b) && decide (x.t.b ≤ 1073741824)) = true) (h7 : decide ((x.dv.length : Int) ≤ m.n) = true) (h8 : anyFar m.d x.dv = false) (h9 : (decide (0 ≤ x.vd) && decide (x.vd ≤ 3)) = true) :
    Calls Tryz.prog 56 #[mv m, nv x A n c] w fun e w' => e = .returned (.bool true) ∧ Below w.heap.size w w' := by
  have hmf : ∀ (fn : Fn) (first cap : Array Value) (w : World), (Instr.makeFunc fn first cap).run Tryz.prog w = .ok (.func fn first cap) w := fun _ _ _ _ => rfl
  obtain ⟨m1, m2, m3, m4, m5, m6, m7, m8, m9⟩ := id hm
  have d0 : 0 ≤ m.d := by omega
  have d1 : m.d ≤ 1048576 := by omega
  have HR := hid hr
  have hl : x.dv.length = n := by have := hr.1; simpa [sv] using this
  have eN : IntKind.i64.wrap (m.n - 1) = m.n - 1 := by rw [IntKind.wrap_i64]; omega
  rw [hl] at h7
  have H0 := hid h0
  clear h0
  have H1 := hid h1
  clear h1
  have H3 := hid h3
  clear h3
  have H4 := hid h4
  clear h4
  have H5 := hid h5
  clear h5
  have H6 := hid h6
  clear h6
  have H8 := hid h8
  clear h8
  have H9 := hid h9
  clear h9
  clear hr hm hl m1 m2 m3 m4 m5 m6 m7 m8 m9
  go_enter Tryz.func56, Tryz.ntmps56
  go_wp2_with (first
    | (go_at_call 109; (with_reducible refine C0.out.mono ?_); rintro e wq ⟨rfl, hq⟩; rw [hq]; clear hq wq)
    | (go_at_call 109; (with_reducible refine C1.out.mono ?_); rintro e wq ⟨rfl, hq⟩; rw [hq]; clear hq wq)
    | (go_at_call 30; (with_reducible refine C3.out.mono ?_); rintro e wq ⟨rfl, hq⟩; rw [hq]; clear hq wq)
    | (go_at_call 108; (with_reducible refine C4.out.mono ?_); rintro e wq ⟨rfl, hq⟩; rw [hq]; clear hq wq)
    | (go_at_call 109; (with_reducible refine C5.out.mono ?_); rintro e wq ⟨rfl, hq⟩; rw [hq]; clear hq wq)
    | (go_at_call 109; (with_reducible refine C6.out.mono ?_); rintro e wq ⟨rfl, hq⟩; rw [hq]; clear hq wq)
    | (go_at_call 110; (with_reducible refine C8.out.mono ?_); rintro e wq ⟨rfl, hq⟩; rw [hq]; clear hq wq)
    | (go_at_call 109; (with_reducible refine C9.out.mono ?_); rintro e wq ⟨rfl, hq⟩; rw [hq]; clear hq wq)
    | (refine wpList_gbox 32 (encn x A n c) rfl (.tmp 1) rfl rfl ?_; intro w2 v2 b2 s2; have V1 := v1.below b2 (v1.lt (by show 0 < 5; omega)); have BT := hid (b1.trans (b2.mono b1.size)); have mc : w2.cell? ⟨w.heap.size, 4, none⟩ = some (.int .i64 m.d) := V1.cell rfl; have mn : w2.cell? ⟨w.heap.size, 0, none⟩ = some (.int .i64 m.n) := V1.cell rfl; have a0 : w2.cell? ⟨w1.heap.size, 0, none⟩ = some (.int .i64 x.id) := v2.cell rfl; have a1 : w2.cell? ⟨w1.heap.size, 1, none⟩ = some (.int .i64 x.ph) := v2.cell rfl; have a2 : w2.cell? ⟨w1.heap.size, 2, none⟩ = some (.int .u64 x.sl) := v2.cell rfl; have a3 : w2.cell? ⟨w1.heap.size, 3, none⟩ = some (.int .i64 x.st) := v2.cell rfl; have a7 : w2.cell? ⟨w1.heap.size, 7, none⟩ = some (.int .i64 x.co) := v2.cell rfl; have a9 : w2.cell? ⟨w1.heap.size, 9, none⟩ = some (.int .i64 x.t.g) := v2.cell rfl; have a10 : w2.cell? ⟨w1.heap.size, 10, none⟩ = some (.int .i64 x.t.b) := v2.cell rfl; have a11 : w2.cell? ⟨w1.heap.size, 11, none⟩ = some (.slice A n c) := v2.cell rfl; have a13 : w2.cell? ⟨w1.heap.size, 13, none⟩ = some (.int .i64 x.vd) := v2.cell rfl; have C0 := within_109 x.id 0 (m.n - 1) _ rfl w2; rw [H0.out] at C0; have C0 := hid C0; have C1 := within_109 x.ph 0 3 _ rfl w2; rw [H1.out] at C1; have C1 := hid C1; have C3 := isTime_any x.st w2; rw [H3.out] at C3; have C3 := hid C3; have C4 := far_any x.co m.d w.heap.size w2 d0 d1 mc; rw [H4.out] at C4; have C4 := hid C4; have C5 := within_109 x.t.g 0 1073741824 _ rfl w2; rw [H5.out] at C5; have C5 := hid C5; have C6 := within_109 x.t.b 0 1073741824 _ rfl w2; rw [H6.out] at C6; have C6 := hid C6; have C8 := contains_any A n c BB x.dv m.d w.heap.size w2 hn d0 d1 mc (HR.out.below (BT.out.mono hB)); rw [H8.out] at C8; have C8 := hid C8; have C9 := within_109 x.vd 0 3 _ rfl w2; rw [H9.out] at C9; have C9 := hid C9; clear V1 v1 v2 b1 b2 s1 s2 mc d0 d1 HR)
    | (refine wpList_gbox 23 (encm m) rfl (.tmp 0) rfl rfl ?_; intro w1 v1 b1 s1))
  go_ret
  exact ⟨rfl, BT.out⟩
end Go.Proofs.YtlgedfljmgedfaaGreat
namespace Go.Proofs.YtlgedfljmgedfaaGreat
open Go Go.RowKit
open M10 (hid Md encm mv mz Oth range_keep there_keep range_other there_other setCells_oth setCells_size there_set Ty enct tv tz Fr encf fv fz)
open O6 (Oc enco ov oz)
open T9 (sv)
theorem fits_any (x : Nd) (m : Md) (A : Option Addr) (n c BB : Nat) (w : World) (hm : M10.Ok m) (hr : T9.Row w BB A n (sv x.dv)) (hB : BB ≤ w.heap.size) (hn : n ≤ 9223372036854775807) :
    Calls Tryz.prog 56 #[mv m, nv x A n c] w fun e w' => e = .returned (.bool (fitB m x)) ∧ Below w.heap.size w w' := by
  rcases hb0 : (decide (0 ≤ x.id) && decide (x.id ≤ m.n - 1)) with _ | _
  case false =>
    have e := fits_0 x m A n c BB w hm hr hB hn  hb0
    rwa [show false = fitB m x from by unfold fitB; simp only [hb0]; rfl] at e
  rcases hb1 : (decide (0 ≤ x.ph) && decide (x.ph ≤ 3)) with _ | _
  case false =>
    have e := fits_1 x m A n c BB w hm hr hB hn hb0 hb1
    rwa [show false = fitB m x from by unfold fitB; simp only [hb0, hb1]; rfl] at e
  rcases hb2 : decide (x.sl ≤ 4294967296) with _ | _
  case false =>
    have e := fits_2 x m A n c BB w hm hr hB hn hb0 hb1 hb2
    rwa [show false = fitB m x from by unfold fitB; simp only [hb0, hb1, hb2]; rfl] at e
  rcases hb3 : timeB x.st with _ | _
  case false =>
    have e := fits_3 x m A n c BB w hm hr hB hn hb0 hb1 hb2 hb3
    rwa [show false = fitB m x from by unfold fitB; simp only [hb0, hb1, hb2, hb3]; rfl] at e
  rcases hb4 : farB m.d x.co with _ | _
  case true =>
    have e := fits_4 x m A n c BB w hm hr hB hn hb0 hb1 hb2 hb3 hb4
    rwa [show false = fitB m x from by unfold fitB; simp only [hb0, hb1, hb2, hb3, hb4]; rfl] at e
  rcases hb5 : (decide (0 ≤ x.t.g) && decide (x.t.g ≤ 1073741824)) with _ | _
  case false =>
    have e := fits_5 x m A n c BB w hm hr hB hn hb0 hb1 hb2 hb3 hb4 hb5
    rwa [show false = fitB m x from by unfold fitB; simp only [hb0, hb1, hb2, hb3, hb4, hb5]; rfl] at e
  rcases hb6 : (decide (0 ≤ x.t.b) && decide (x.t.b ≤ 1073741824)) with _ | _
  case false =>
    have e := fits_6 x m A n c BB w hm hr hB hn hb0 hb1 hb2 hb3 hb4 hb5 hb6
    rwa [show false = fitB m x from by unfold fitB; simp only [hb0, hb1, hb2, hb3, hb4, hb5, hb6]; rfl] at e
  rcases hb7 : decide ((x.dv.length : Int) ≤ m.n) with _ | _
  case false =>
    have e := fits_7 x m A n c BB w hm hr hB hn hb0 hb1 hb2 hb3 hb4 hb5 hb6 hb7
    rwa [show false = fitB m x from by unfold fitB; simp only [hb0, hb1, hb2, hb3, hb4, hb5, hb6, hb7]; rfl] at e
  rcases hb8 : anyFar m.d x.dv with _ | _
  case true =>
    have e := fits_8 x m A n c BB w hm hr hB hn hb0 hb1 hb2 hb3 hb4 hb5 hb6 hb7 hb8
    rwa [show false = fitB m x from by unfold fitB; simp only [hb0, hb1, hb2, hb3, hb4, hb5, hb6, hb7, hb8]; rfl] at e
  rcases hb9 : (decide (0 ≤ x.vd) && decide (x.vd ≤ 3)) with _ | _
  case false =>
    have e := fits_9 x m A n c BB w hm hr hB hn hb0 hb1 hb2 hb3 hb4 hb5 hb6 hb7 hb8 hb9
    rwa [show false = fitB m x from by unfold fitB; simp only [hb0, hb1, hb2, hb3, hb4, hb5, hb6, hb7, hb8, hb9]; rfl] at e
  have e := fits_10 x m A n c BB w hm hr hB hn hb0 hb1 hb2 hb3 hb4 hb5 hb6 hb7 hb8 hb9
  rwa [show true = fitB m x from by unfold fitB; simp only [hb0, hb1, hb2, hb3, hb4, hb5, hb6, hb7, hb8, hb9]; rfl] at e
end Go.Proofs.YtlgedfljmgedfaaGreat
namespace Go.Proofs.YtlgedfljmgedfaaGreat
open Go Go.RowKit
open M10 (hid Md encm mv mz Oth range_keep there_keep range_other there_other setCells_oth setCells_size there_set Ty enct tv tz Fr encf fv fz)
open O6 (Oc enco ov oz)
open T9 (sv)
/-! ### Check -/
/-- A node that is off: it, but for its number and clock, is zero. -/
def offN (x : Nd) : Nd := ⟨x.id, 0, 0, 0, x.o, 0, 0, ⟨0, 0⟩, [], false, 0⟩
def nodeOk (m : Md) (x : Nd) : Prop := M10.Ok m ∧ O6.Ok x.o ∧ fitB m x = true ∧ (x.ph = 0 → saB x (offN x) = true)
instance (m : Md) (x : Nd) : Decidable (nodeOk m x) := by unfold nodeOk; infer_instance
def nodeE (m : Md) (x : Nd) : Int := if nodeOk m x then 0 else 1
set_option maxRecDepth 100000 in
set_option maxHeartbeats 2000000 in
theorem check_m (x : Nd) (m : Md) (A : Option Addr) (n c BB : Nat) (w : World) (_hr : T9.Row w BB A n (sv x.dv)) (_hB : BB ≤ w.heap.size) (_hn : n ≤ 1000000000) (hm : ¬ M10.Ok m) :
    Calls Tryz.prog 20 #[mv m, nv x A n c] w fun e w' => e = .returned (.int .i64 1) ∧ Below w.heap.size w w' := by
  have C54 : Hid (∀ w, Calls Tryz.prog 54 #[mv m] w fun e w' => e = .returned (.int .i64 1) ∧ Below w.heap.size w w') := hid (fun w => by have hf := M10.check_any m w; rw [show M10.okE m = 1 from if_neg hm] at hf; exact hf)
  clear _hr _hB _hn hm 
  go_enter Tryz.func20, Tryz.ntmps20
  go_wp2_with (first
    | (go_at_call 54; (with_reducible refine (C54.out w2).mono ?_); rintro e w3 ⟨rfl, b3⟩; have Vm3 := hid (V1.out.below b3 (V1.out.lt (by show 0 < 5; omega))); have Vn3 := hid (Vn.out.below b3 (Vn.out.lt (by show 0 < 14; omega))); have BT3 := hid (BT.out.trans (b3.mono BT.out.size)); clear b3)
    | (refine wpList_lm (.tmp 2) rfl rfl V1.out.1 rfl ?_)
    | (refine wpList_gbox 32 (encn x A n c) rfl (.tmp 1) rfl rfl ?_; intro w2 v2 b2 s2; have V1 := hid (v1.below b2 (v1.lt (by show 0 < 5; omega))); have BT := hid (b1.trans (b2.mono b1.size)); have Vn := hid v2; clear v1 v2 b1 b2 s1 s2)
    | (refine wpList_gbox 23 (encm m) rfl (.tmp 0) rfl rfl ?_; intro w1 v1 b1 s1))
  go_ret
  exact ⟨rfl, BT3.out⟩
set_option maxRecDepth 100000 in
set_option maxHeartbeats 2000000 in
theorem check_o (x : Nd) (m : Md) (A : Option Addr) (n c BB : Nat) (w : World) (_hr : T9.Row w BB A n (sv x.dv)) (_hB : BB ≤ w.heap.size) (_hn : n ≤ 1000000000) (hm : M10.Ok m) (ho : ¬ O6.Ok ⟨x.o.p, x.o.d, x.o.r⟩) :
    Calls Tryz.prog 20 #[mv m, nv x A n c] w fun e w' => e = .returned (.int .i64 1) ∧ Below w.heap.size w w' := by
  have C54 : Hid (∀ w, Calls Tryz.prog 54 #[mv m] w fun e w' => e = .returned (.int .i64 0) ∧ Below w.heap.size w w') := hid (fun w => by have hf := M10.check_any m w; rw [show M10.okE m = 0 from if_pos hm] at hf; exact hf)
  have C55 : Hid (∀ w, Calls Tryz.prog 55 #[.agg #[.int .i64 x.o.p, .int .i64 x.o.d, .int .i64 x.o.r]] w fun e w' => e = .returned (.int .i64 1) ∧ Below w.heap.size w w') := hid (fun w => O6.check_bad x.o.p x.o.d x.o.r w ho)
  clear _hr _hB _hn hm ho 
  go_enter Tryz.func20, Tryz.ntmps20
  go_wp2_with (first
    | (go_at_call 55; (with_reducible refine (C55.out w3).mono ?_); rintro e w4 ⟨rfl, b4⟩; have Vm4 := hid (Vm3.out.below b4 (Vm3.out.lt (by show 0 < 5; omega))); have Vn4 := hid (Vn3.out.below b4 (Vn3.out.lt (by show 0 < 14; omega))); have BT4 := hid (BT3.out.trans (b4.mono BT3.out.size)); clear b4)
    | (go_at_call 54; (with_reducible refine (C54.out w2).mono ?_); rintro e w3 ⟨rfl, b3⟩; have Vm3 := hid (V1.out.below b3 (V1.out.lt (by show 0 < 5; omega))); have Vn3 := hid (Vn.out.below b3 (Vn.out.lt (by show 0 < 14; omega))); have BT3 := hid (BT.out.trans (b3.mono BT.out.size)); clear b3; have s4 : w3.cell? ⟨w1.heap.size, 4, none⟩ = some (.int .i64 x.o.p) := Vn3.out.cell rfl; have s5 : w3.cell? ⟨w1.heap.size, 5, none⟩ = some (.int .i64 x.o.d) := Vn3.out.cell rfl; have s6 : w3.cell? ⟨w1.heap.size, 6, none⟩ = some (.int .i64 x.o.r) := Vn3.out.cell rfl)
    | (refine wpList_lm (.tmp 2) rfl rfl V1.out.1 rfl ?_)
    | (refine wpList_gbox 32 (encn x A n c) rfl (.tmp 1) rfl rfl ?_; intro w2 v2 b2 s2; have V1 := hid (v1.below b2 (v1.lt (by show 0 < 5; omega))); have BT := hid (b1.trans (b2.mono b1.size)); have Vn := hid v2; clear v1 v2 b1 b2 s1 s2)
    | (refine wpList_gbox 23 (encm m) rfl (.tmp 0) rfl rfl ?_; intro w1 v1 b1 s1))
  go_ret
  exact ⟨rfl, BT4.out⟩
set_option maxRecDepth 100000 in
set_option maxHeartbeats 2000000 in
theorem check_f (x : Nd) (m : Md) (A : Option Addr) (n c BB : Nat) (w : World) (hr : T9.Row w BB A n (sv x.dv)) (hB : BB ≤ w.heap.size) (hn : n ≤ 1000000000) (hm : M10.Ok m) (ho : O6.Ok ⟨x.o.p, x.o.d, x.o.r⟩) (hfit : fitB m x = false) :
    Calls Tryz.prog 20 #[mv m, nv x A n c] w fun e w' => e = .returned (.int .i64 1) ∧ Below w.heap.size w w' := by
  have C54 : Hid (∀ w, Calls Tryz.prog 54 #[mv m] w fun e w' => e = .returned (.int .i64 0) ∧ Below w.heap.size w w') := hid (fun w => by have hf := M10.check_any m w; rw [show M10.okE m = 0 from if_pos hm] at hf; exact hf)
  have C55 : Hid (∀ w, Calls Tryz.prog 55 #[.agg #[.int .i64 x.o.p, .int .i64 x.o.d, .int .i64 x.o.r]] w fun e w' => e = .returned (.int .i64 0) ∧ Below w.heap.size w w') := hid (fun w => O6.check_ok x.o.p x.o.d x.o.r w ho)
  have C56 : Hid (∀ w2, Below w.heap.size w w2 → Calls Tryz.prog 56 #[.agg #[.int .i64 m.n, .int .i64 m.s, .int .i64 m.l, .int .i64 m.f, .int .i64 m.d], .agg #[.int .i64 x.id, .int .i64 x.ph, .int .u64 x.sl, .int .i64 x.st, .int .i64 x.o.p, .int .i64 x.o.d, .int .i64 x.o.r, .int .i64 x.co, .int .u16 (x.mb : Int), .int .i64 x.t.g, .int .i64 x.t.b, .slice A n c, .bool x.se, .int .i64 x.vd]] w2 fun e w' => e = .returned (.bool false) ∧ Below w2.heap.size w2 w') := hid (fun w2 k => by have hf := fits_any x m A n c BB w2 hm (hr.below (k.mono hB)) (Nat.le_trans hB k.size) (by omega); rw [hfit] at hf; exact hf)
  clear hr hB hn hm ho hfit 
  go_enter Tryz.func20, Tryz.ntmps20
  go_wp2_with (first
    | (go_at_call 56; (with_reducible refine (C56.out w4 BT4.out).mono ?_); rintro e w5 ⟨rfl, b5⟩; have Vm5 := hid (Vm4.out.below b5 (Vm4.out.lt (by show 0 < 5; omega))); have Vn5 := hid (Vn4.out.below b5 (Vn4.out.lt (by show 0 < 14; omega))); have BT5 := hid (BT4.out.trans (b5.mono BT4.out.size)); clear b5)
    | (go_at_call 55; (with_reducible refine (C55.out w3).mono ?_); rintro e w4 ⟨rfl, b4⟩; have Vm4 := hid (Vm3.out.below b4 (Vm3.out.lt (by show 0 < 5; omega))); have Vn4 := hid (Vn3.out.below b4 (Vn3.out.lt (by show 0 < 14; omega))); have BT4 := hid (BT3.out.trans (b4.mono BT3.out.size)); clear b4; have q0 : w4.cell? ⟨w.heap.size, 0, none⟩ = some (.int .i64 m.n) := Vm4.out.cell rfl; have q1 : w4.cell? ⟨w.heap.size, 1, none⟩ = some (.int .i64 m.s) := Vm4.out.cell rfl; have q2 : w4.cell? ⟨w.heap.size, 2, none⟩ = some (.int .i64 m.l) := Vm4.out.cell rfl; have q3 : w4.cell? ⟨w.heap.size, 3, none⟩ = some (.int .i64 m.f) := Vm4.out.cell rfl; have q4 : w4.cell? ⟨w.heap.size, 4, none⟩ = some (.int .i64 m.d) := Vm4.out.cell rfl; have r0 : w4.cell? ⟨w1.heap.size, 0, none⟩ = some (.int .i64 x.id) := Vn4.out.cell rfl; have r1 : w4.cell? ⟨w1.heap.size, 1, none⟩ = some (.int .i64 x.ph) := Vn4.out.cell rfl; have r2 : w4.cell? ⟨w1.heap.size, 2, none⟩ = some (.int .u64 x.sl) := Vn4.out.cell rfl; have r3 : w4.cell? ⟨w1.heap.size, 3, none⟩ = some (.int .i64 x.st) := Vn4.out.cell rfl; have r4 : w4.cell? ⟨w1.heap.size, 4, none⟩ = some (.int .i64 x.o.p) := Vn4.out.cell rfl; have r5 : w4.cell? ⟨w1.heap.size, 5, none⟩ = some (.int .i64 x.o.d) := Vn4.out.cell rfl; have r6 : w4.cell? ⟨w1.heap.size, 6, none⟩ = some (.int .i64 x.o.r) := Vn4.out.cell rfl; have r7 : w4.cell? ⟨w1.heap.size, 7, none⟩ = some (.int .i64 x.co) := Vn4.out.cell rfl; have r8 : w4.cell? ⟨w1.heap.size, 8, none⟩ = some (.int .u16 (x.mb : Int)) := Vn4.out.cell rfl; have r9 : w4.cell? ⟨w1.heap.size, 9, none⟩ = some (.int .i64 x.t.g) := Vn4.out.cell rfl; have r10 : w4.cell? ⟨w1.heap.size, 10, none⟩ = some (.int .i64 x.t.b) := Vn4.out.cell rfl; have r11 : w4.cell? ⟨w1.heap.size, 11, none⟩ = some (.slice A n c) := Vn4.out.cell rfl; have r12 : w4.cell? ⟨w1.heap.size, 12, none⟩ = some (.bool x.se) := Vn4.out.cell rfl; have r13 : w4.cell? ⟨w1.heap.size, 13, none⟩ = some (.int .i64 x.vd) := Vn4.out.cell rfl)
    | (go_at_call 54; (with_reducible refine (C54.out w2).mono ?_); rintro e w3 ⟨rfl, b3⟩; have Vm3 := hid (V1.out.below b3 (V1.out.lt (by show 0 < 5; omega))); have Vn3 := hid (Vn.out.below b3 (Vn.out.lt (by show 0 < 14; omega))); have BT3 := hid (BT.out.trans (b3.mono BT.out.size)); clear b3; have s4 : w3.cell? ⟨w1.heap.size, 4, none⟩ = some (.int .i64 x.o.p) := Vn3.out.cell rfl; have s5 : w3.cell? ⟨w1.heap.size, 5, none⟩ = some (.int .i64 x.o.d) := Vn3.out.cell rfl; have s6 : w3.cell? ⟨w1.heap.size, 6, none⟩ = some (.int .i64 x.o.r) := Vn3.out.cell rfl)
    | (refine wpList_lm (.tmp 2) rfl rfl V1.out.1 rfl ?_)
    | (refine wpList_gbox 32 (encn x A n c) rfl (.tmp 1) rfl rfl ?_; intro w2 v2 b2 s2; have V1 := hid (v1.below b2 (v1.lt (by show 0 < 5; omega))); have BT := hid (b1.trans (b2.mono b1.size)); have Vn := hid v2; clear v1 v2 b1 b2 s1 s2)
    | (refine wpList_gbox 23 (encm m) rfl (.tmp 0) rfl rfl ?_; intro w1 v1 b1 s1))
  go_ret
  exact ⟨rfl, BT5.out⟩
set_option maxRecDepth 100000 in
set_option maxHeartbeats 2000000 in
theorem check_p (x : Nd) (m : Md) (A : Option Addr) (n c BB : Nat) (w : World) (hr : T9.Row w BB A n (sv x.dv)) (hB : BB ≤ w.heap.size) (hn : n ≤ 1000000000) (hm : M10.Ok m) (ho : O6.Ok ⟨x.o.p, x.o.d, x.o.r⟩) (hfit : fitB m x = true) (hp : ¬ x.ph = 0) :
    Calls Tryz.prog 20 #[mv m, nv x A n c] w fun e w' => e = .returned (.int .i64 0) ∧ Below w.heap.size w w' := by
  have C54 : Hid (∀ w, Calls Tryz.prog 54 #[mv m] w fun e w' => e = .returned (.int .i64 0) ∧ Below w.heap.size w w') := hid (fun w => by have hf := M10.check_any m w; rw [show M10.okE m = 0 from if_pos hm] at hf; exact hf)
  have C55 : Hid (∀ w, Calls Tryz.prog 55 #[.agg #[.int .i64 x.o.p, .int .i64 x.o.d, .int .i64 x.o.r]] w fun e w' => e = .returned (.int .i64 0) ∧ Below w.heap.size w w') := hid (fun w => O6.check_ok x.o.p x.o.d x.o.r w ho)
  have C56 : Hid (∀ w2, Below w.heap.size w w2 → Calls Tryz.prog 56 #[.agg #[.int .i64 m.n, .int .i64 m.s, .int .i64 m.l, .int .i64 m.f, .int .i64 m.d], .agg #[.int .i64 x.id, .int .i64 x.ph, .int .u64 x.sl, .int .i64 x.st, .int .i64 x.o.p, .int .i64 x.o.d, .int .i64 x.o.r, .int .i64 x.co, .int .u16 (x.mb : Int), .int .i64 x.t.g, .int .i64 x.t.b, .slice A n c, .bool x.se, .int .i64 x.vd]] w2 fun e w' => e = .returned (.bool true) ∧ Below w2.heap.size w2 w') := hid (fun w2 k => by have hf := fits_any x m A n c BB w2 hm (hr.below (k.mono hB)) (Nat.le_trans hB k.size) (by omega); rw [hfit] at hf; exact hf)
  clear hr hB hn hm ho hfit 
  go_enter Tryz.func20, Tryz.ntmps20
  go_wp2_with (first
    | (go_at_call 56; (with_reducible refine (C56.out w4 BT4.out).mono ?_); rintro e w5 ⟨rfl, b5⟩; have Vm5 := hid (Vm4.out.below b5 (Vm4.out.lt (by show 0 < 5; omega))); have Vn5 := hid (Vn4.out.below b5 (Vn4.out.lt (by show 0 < 14; omega))); have BT5 := hid (BT4.out.trans (b5.mono BT4.out.size)); clear b5; have p1 : w5.cell? ⟨w1.heap.size, 1, none⟩ = some (.int .i64 x.ph) := Vn5.out.cell rfl)
    | (go_at_call 55; (with_reducible refine (C55.out w3).mono ?_); rintro e w4 ⟨rfl, b4⟩; have Vm4 := hid (Vm3.out.below b4 (Vm3.out.lt (by show 0 < 5; omega))); have Vn4 := hid (Vn3.out.below b4 (Vn3.out.lt (by show 0 < 14; omega))); have BT4 := hid (BT3.out.trans (b4.mono BT3.out.size)); clear b4; have q0 : w4.cell? ⟨w.heap.size, 0, none⟩ = some (.int .i64 m.n) := Vm4.out.cell rfl; have q1 : w4.cell? ⟨w.heap.size, 1, none⟩ = some (.int .i64 m.s) := Vm4.out.cell rfl; have q2 : w4.cell? ⟨w.heap.size, 2, none⟩ = some (.int .i64 m.l) := Vm4.out.cell rfl; have q3 : w4.cell? ⟨w.heap.size, 3, none⟩ = some (.int .i64 m.f) := Vm4.out.cell rfl; have q4 : w4.cell? ⟨w.heap.size, 4, none⟩ = some (.int .i64 m.d) := Vm4.out.cell rfl; have r0 : w4.cell? ⟨w1.heap.size, 0, none⟩ = some (.int .i64 x.id) := Vn4.out.cell rfl; have r1 : w4.cell? ⟨w1.heap.size, 1, none⟩ = some (.int .i64 x.ph) := Vn4.out.cell rfl; have r2 : w4.cell? ⟨w1.heap.size, 2, none⟩ = some (.int .u64 x.sl) := Vn4.out.cell rfl; have r3 : w4.cell? ⟨w1.heap.size, 3, none⟩ = some (.int .i64 x.st) := Vn4.out.cell rfl; have r4 : w4.cell? ⟨w1.heap.size, 4, none⟩ = some (.int .i64 x.o.p) := Vn4.out.cell rfl; have r5 : w4.cell? ⟨w1.heap.size, 5, none⟩ = some (.int .i64 x.o.d) := Vn4.out.cell rfl; have r6 : w4.cell? ⟨w1.heap.size, 6, none⟩ = some (.int .i64 x.o.r) := Vn4.out.cell rfl; have r7 : w4.cell? ⟨w1.heap.size, 7, none⟩ = some (.int .i64 x.co) := Vn4.out.cell rfl; have r8 : w4.cell? ⟨w1.heap.size, 8, none⟩ = some (.int .u16 (x.mb : Int)) := Vn4.out.cell rfl; have r9 : w4.cell? ⟨w1.heap.size, 9, none⟩ = some (.int .i64 x.t.g) := Vn4.out.cell rfl; have r10 : w4.cell? ⟨w1.heap.size, 10, none⟩ = some (.int .i64 x.t.b) := Vn4.out.cell rfl; have r11 : w4.cell? ⟨w1.heap.size, 11, none⟩ = some (.slice A n c) := Vn4.out.cell rfl; have r12 : w4.cell? ⟨w1.heap.size, 12, none⟩ = some (.bool x.se) := Vn4.out.cell rfl; have r13 : w4.cell? ⟨w1.heap.size, 13, none⟩ = some (.int .i64 x.vd) := Vn4.out.cell rfl)
    | (go_at_call 54; (with_reducible refine (C54.out w2).mono ?_); rintro e w3 ⟨rfl, b3⟩; have Vm3 := hid (V1.out.below b3 (V1.out.lt (by show 0 < 5; omega))); have Vn3 := hid (Vn.out.below b3 (Vn.out.lt (by show 0 < 14; omega))); have BT3 := hid (BT.out.trans (b3.mono BT.out.size)); clear b3; have s4 : w3.cell? ⟨w1.heap.size, 4, none⟩ = some (.int .i64 x.o.p) := Vn3.out.cell rfl; have s5 : w3.cell? ⟨w1.heap.size, 5, none⟩ = some (.int .i64 x.o.d) := Vn3.out.cell rfl; have s6 : w3.cell? ⟨w1.heap.size, 6, none⟩ = some (.int .i64 x.o.r) := Vn3.out.cell rfl)
    | (refine wpList_lm (.tmp 2) rfl rfl V1.out.1 rfl ?_)
    | (refine wpList_gbox 32 (encn x A n c) rfl (.tmp 1) rfl rfl ?_; intro w2 v2 b2 s2; have V1 := hid (v1.below b2 (v1.lt (by show 0 < 5; omega))); have BT := hid (b1.trans (b2.mono b1.size)); have Vn := hid v2; clear v1 v2 b1 b2 s1 s2)
    | (refine wpList_gbox 23 (encm m) rfl (.tmp 0) rfl rfl ?_; intro w1 v1 b1 s1))
  go_ret
  exact ⟨rfl, BT5.out⟩
set_option maxRecDepth 100000 in
set_option maxHeartbeats 2000000 in
theorem check_s (x : Nd) (m : Md) (A : Option Addr) (n c BB : Nat) (w : World) (hr : T9.Row w BB A n (sv x.dv)) (hB : BB ≤ w.heap.size) (hn : n ≤ 1000000000) (hm : M10.Ok m) (ho : O6.Ok ⟨x.o.p, x.o.d, x.o.r⟩) (hfit : fitB m x = true) (hp : x.ph = 0) (hs : saB x (offN x) = true) :
    Calls Tryz.prog 20 #[mv m, nv x A n c] w fun e w' => e = .returned (.int .i64 0) ∧ Below w.heap.size w w' := by
  have C54 : Hid (∀ w, Calls Tryz.prog 54 #[mv m] w fun e w' => e = .returned (.int .i64 0) ∧ Below w.heap.size w w') := hid (fun w => by have hf := M10.check_any m w; rw [show M10.okE m = 0 from if_pos hm] at hf; exact hf)
  have C55 : Hid (∀ w, Calls Tryz.prog 55 #[.agg #[.int .i64 x.o.p, .int .i64 x.o.d, .int .i64 x.o.r]] w fun e w' => e = .returned (.int .i64 0) ∧ Below w.heap.size w w') := hid (fun w => O6.check_ok x.o.p x.o.d x.o.r w ho)
  have C56 : Hid (∀ w2, Below w.heap.size w w2 → Calls Tryz.prog 56 #[.agg #[.int .i64 m.n, .int .i64 m.s, .int .i64 m.l, .int .i64 m.f, .int .i64 m.d], .agg #[.int .i64 x.id, .int .i64 x.ph, .int .u64 x.sl, .int .i64 x.st, .int .i64 x.o.p, .int .i64 x.o.d, .int .i64 x.o.r, .int .i64 x.co, .int .u16 (x.mb : Int), .int .i64 x.t.g, .int .i64 x.t.b, .slice A n c, .bool x.se, .int .i64 x.vd]] w2 fun e w' => e = .returned (.bool true) ∧ Below w2.heap.size w2 w') := hid (fun w2 k => by have hf := fits_any x m A n c BB w2 hm (hr.below (k.mono hB)) (Nat.le_trans hB k.size) (by omega); rw [hfit] at hf; exact hf)
  have e1 : (x.ph == 0) = true := by simpa using hp
  have C22 : Hid (∀ w2, Below w.heap.size w w2 → Calls Tryz.prog 22 #[.agg #[.int .i64 x.id, .int .i64 x.ph, .int .u64 x.sl, .int .i64 x.st, .int .i64 x.o.p, .int .i64 x.o.d, .int .i64 x.o.r, .int .i64 x.co, .int .u16 (x.mb : Int), .int .i64 x.t.g, .int .i64 x.t.b, .slice A n c, .bool x.se, .int .i64 x.vd], .agg #[.int .i64 x.id, .int .i64 0, .int .u64 0, .int .i64 0, .int .i64 x.o.p, .int .i64 x.o.d, .int .i64 x.o.r, .int .i64 0, .int .u16 0, .int .i64 0, .int .i64 0, .slice none 0 0, .bool false, .int .i64 0]] w2 fun e w' => e = .returned (.bool true) ∧ Below w2.heap.size w2 w') := hid (fun w2 k => by have hf := same_any x (offN x) A none n c 0 0 BB 0 w2 (hr.below (k.mono hB)) (T9.Row.nil _ _ _) (Nat.le_trans hB k.size) (by omega) hn (by omega); rw [hs] at hf; exact hf)
  clear hr hB hn hm ho hfit hp hs 
  go_enter Tryz.func20, Tryz.ntmps20
  go_wp2_with (first
    | (go_at_call 22; (with_reducible refine (C22.out w5 BT5.out).mono ?_); rintro e w6 ⟨rfl, b6⟩; have BT6 := hid (BT5.out.trans (b6.mono BT5.out.size)); clear b6)
    | (go_at_call 56; (with_reducible refine (C56.out w4 BT4.out).mono ?_); rintro e w5 ⟨rfl, b5⟩; have Vm5 := hid (Vm4.out.below b5 (Vm4.out.lt (by show 0 < 5; omega))); have Vn5 := hid (Vn4.out.below b5 (Vn4.out.lt (by show 0 < 14; omega))); have BT5 := hid (BT4.out.trans (b5.mono BT4.out.size)); clear b5; have p0 : w5.cell? ⟨w1.heap.size, 0, none⟩ = some (.int .i64 x.id) := Vn5.out.cell rfl; have p1 : w5.cell? ⟨w1.heap.size, 1, none⟩ = some (.int .i64 x.ph) := Vn5.out.cell rfl; have p2 : w5.cell? ⟨w1.heap.size, 2, none⟩ = some (.int .u64 x.sl) := Vn5.out.cell rfl; have p3 : w5.cell? ⟨w1.heap.size, 3, none⟩ = some (.int .i64 x.st) := Vn5.out.cell rfl; have p4 : w5.cell? ⟨w1.heap.size, 4, none⟩ = some (.int .i64 x.o.p) := Vn5.out.cell rfl; have p5 : w5.cell? ⟨w1.heap.size, 5, none⟩ = some (.int .i64 x.o.d) := Vn5.out.cell rfl; have p6 : w5.cell? ⟨w1.heap.size, 6, none⟩ = some (.int .i64 x.o.r) := Vn5.out.cell rfl; have p7 : w5.cell? ⟨w1.heap.size, 7, none⟩ = some (.int .i64 x.co) := Vn5.out.cell rfl; have p8 : w5.cell? ⟨w1.heap.size, 8, none⟩ = some (.int .u16 (x.mb : Int)) := Vn5.out.cell rfl; have p9 : w5.cell? ⟨w1.heap.size, 9, none⟩ = some (.int .i64 x.t.g) := Vn5.out.cell rfl; have p10 : w5.cell? ⟨w1.heap.size, 10, none⟩ = some (.int .i64 x.t.b) := Vn5.out.cell rfl; have p11 : w5.cell? ⟨w1.heap.size, 11, none⟩ = some (.slice A n c) := Vn5.out.cell rfl; have p12 : w5.cell? ⟨w1.heap.size, 12, none⟩ = some (.bool x.se) := Vn5.out.cell rfl; have p13 : w5.cell? ⟨w1.heap.size, 13, none⟩ = some (.int .i64 x.vd) := Vn5.out.cell rfl)
    | (go_at_call 55; (with_reducible refine (C55.out w3).mono ?_); rintro e w4 ⟨rfl, b4⟩; have Vm4 := hid (Vm3.out.below b4 (Vm3.out.lt (by show 0 < 5; omega))); have Vn4 := hid (Vn3.out.below b4 (Vn3.out.lt (by show 0 < 14; omega))); have BT4 := hid (BT3.out.trans (b4.mono BT3.out.size)); clear b4; have q0 : w4.cell? ⟨w.heap.size, 0, none⟩ = some (.int .i64 m.n) := Vm4.out.cell rfl; have q1 : w4.cell? ⟨w.heap.size, 1, none⟩ = some (.int .i64 m.s) := Vm4.out.cell rfl; have q2 : w4.cell? ⟨w.heap.size, 2, none⟩ = some (.int .i64 m.l) := Vm4.out.cell rfl; have q3 : w4.cell? ⟨w.heap.size, 3, none⟩ = some (.int .i64 m.f) := Vm4.out.cell rfl; have q4 : w4.cell? ⟨w.heap.size, 4, none⟩ = some (.int .i64 m.d) := Vm4.out.cell rfl; have r0 : w4.cell? ⟨w1.heap.size, 0, none⟩ = some (.int .i64 x.id) := Vn4.out.cell rfl; have r1 : w4.cell? ⟨w1.heap.size, 1, none⟩ = some (.int .i64 x.ph) := Vn4.out.cell rfl; have r2 : w4.cell? ⟨w1.heap.size, 2, none⟩ = some (.int .u64 x.sl) := Vn4.out.cell rfl; have r3 : w4.cell? ⟨w1.heap.size, 3, none⟩ = some (.int .i64 x.st) := Vn4.out.cell rfl; have r4 : w4.cell? ⟨w1.heap.size, 4, none⟩ = some (.int .i64 x.o.p) := Vn4.out.cell rfl; have r5 : w4.cell? ⟨w1.heap.size, 5, none⟩ = some (.int .i64 x.o.d) := Vn4.out.cell rfl; have r6 : w4.cell? ⟨w1.heap.size, 6, none⟩ = some (.int .i64 x.o.r) := Vn4.out.cell rfl; have r7 : w4.cell? ⟨w1.heap.size, 7, none⟩ = some (.int .i64 x.co) := Vn4.out.cell rfl; have r8 : w4.cell? ⟨w1.heap.size, 8, none⟩ = some (.int .u16 (x.mb : Int)) := Vn4.out.cell rfl; have r9 : w4.cell? ⟨w1.heap.size, 9, none⟩ = some (.int .i64 x.t.g) := Vn4.out.cell rfl; have r10 : w4.cell? ⟨w1.heap.size, 10, none⟩ = some (.int .i64 x.t.b) := Vn4.out.cell rfl; have r11 : w4.cell? ⟨w1.heap.size, 11, none⟩ = some (.slice A n c) := Vn4.out.cell rfl; have r12 : w4.cell? ⟨w1.heap.size, 12, none⟩ = some (.bool x.se) := Vn4.out.cell rfl; have r13 : w4.cell? ⟨w1.heap.size, 13, none⟩ = some (.int .i64 x.vd) := Vn4.out.cell rfl)
    | (go_at_call 54; (with_reducible refine (C54.out w2).mono ?_); rintro e w3 ⟨rfl, b3⟩; have Vm3 := hid (V1.out.below b3 (V1.out.lt (by show 0 < 5; omega))); have Vn3 := hid (Vn.out.below b3 (Vn.out.lt (by show 0 < 14; omega))); have BT3 := hid (BT.out.trans (b3.mono BT.out.size)); clear b3; have s4 : w3.cell? ⟨w1.heap.size, 4, none⟩ = some (.int .i64 x.o.p) := Vn3.out.cell rfl; have s5 : w3.cell? ⟨w1.heap.size, 5, none⟩ = some (.int .i64 x.o.d) := Vn3.out.cell rfl; have s6 : w3.cell? ⟨w1.heap.size, 6, none⟩ = some (.int .i64 x.o.r) := Vn3.out.cell rfl)
    | (refine wpList_lm (.tmp 2) rfl rfl V1.out.1 rfl ?_)
    | (refine wpList_gbox 32 (encn x A n c) rfl (.tmp 1) rfl rfl ?_; intro w2 v2 b2 s2; have V1 := hid (v1.below b2 (v1.lt (by show 0 < 5; omega))); have BT := hid (b1.trans (b2.mono b1.size)); have Vn := hid v2; clear v1 v2 b1 b2 s1 s2)
    | (refine wpList_gbox 23 (encm m) rfl (.tmp 0) rfl rfl ?_; intro w1 v1 b1 s1))
  go_ret
  exact ⟨rfl, BT6.out⟩
set_option maxRecDepth 100000 in
set_option maxHeartbeats 2000000 in
theorem check_t (x : Nd) (m : Md) (A : Option Addr) (n c BB : Nat) (w : World) (hr : T9.Row w BB A n (sv x.dv)) (hB : BB ≤ w.heap.size) (hn : n ≤ 1000000000) (hm : M10.Ok m) (ho : O6.Ok ⟨x.o.p, x.o.d, x.o.r⟩) (hfit : fitB m x = true) (hp : x.ph = 0) (hs : saB x (offN x) = false) :
    Calls Tryz.prog 20 #[mv m, nv x A n c] w fun e w' => e = .returned (.int .i64 1) ∧ Below w.heap.size w w' := by
  have C54 : Hid (∀ w, Calls Tryz.prog 54 #[mv m] w fun e w' => e = .returned (.int .i64 0) ∧ Below w.heap.size w w') := hid (fun w => by have hf := M10.check_any m w; rw [show M10.okE m = 0 from if_pos hm] at hf; exact hf)
  have C55 : Hid (∀ w, Calls Tryz.prog 55 #[.agg #[.int .i64 x.o.p, .int .i64 x.o.d, .int .i64 x.o.r]] w fun e w' => e = .returned (.int .i64 0) ∧ Below w.heap.size w w') := hid (fun w => O6.check_ok x.o.p x.o.d x.o.r w ho)
  have C56 : Hid (∀ w2, Below w.heap.size w w2 → Calls Tryz.prog 56 #[.agg #[.int .i64 m.n, .int .i64 m.s, .int .i64 m.l, .int .i64 m.f, .int .i64 m.d], .agg #[.int .i64 x.id, .int .i64 x.ph, .int .u64 x.sl, .int .i64 x.st, .int .i64 x.o.p, .int .i64 x.o.d, .int .i64 x.o.r, .int .i64 x.co, .int .u16 (x.mb : Int), .int .i64 x.t.g, .int .i64 x.t.b, .slice A n c, .bool x.se, .int .i64 x.vd]] w2 fun e w' => e = .returned (.bool true) ∧ Below w2.heap.size w2 w') := hid (fun w2 k => by have hf := fits_any x m A n c BB w2 hm (hr.below (k.mono hB)) (Nat.le_trans hB k.size) (by omega); rw [hfit] at hf; exact hf)
  have e1 : (x.ph == 0) = true := by simpa using hp
  have C22 : Hid (∀ w2, Below w.heap.size w w2 → Calls Tryz.prog 22 #[.agg #[.int .i64 x.id, .int .i64 x.ph, .int .u64 x.sl, .int .i64 x.st, .int .i64 x.o.p, .int .i64 x.o.d, .int .i64 x.o.r, .int .i64 x.co, .int .u16 (x.mb : Int), .int .i64 x.t.g, .int .i64 x.t.b, .slice A n c, .bool x.se, .int .i64 x.vd], .agg #[.int .i64 x.id, .int .i64 0, .int .u64 0, .int .i64 0, .int .i64 x.o.p, .int .i64 x.o.d, .int .i64 x.o.r, .int .i64 0, .int .u16 0, .int .i64 0, .int .i64 0, .slice none 0 0, .bool false, .int .i64 0]] w2 fun e w' => e = .returned (.bool false) ∧ Below w2.heap.size w2 w') := hid (fun w2 k => by have hf := same_any x (offN x) A none n c 0 0 BB 0 w2 (hr.below (k.mono hB)) (T9.Row.nil _ _ _) (Nat.le_trans hB k.size) (by omega) hn (by omega); rw [hs] at hf; exact hf)
  clear hr hB hn hm ho hfit hp hs 
  go_enter Tryz.func20, Tryz.ntmps20
  go_wp2_with (first
    | (go_at_call 22; (with_reducible refine (C22.out w5 BT5.out).mono ?_); rintro e w6 ⟨rfl, b6⟩; have BT6 := hid (BT5.out.trans (b6.mono BT5.out.size)); clear b6)
    | (go_at_call 56; (with_reducible refine (C56.out w4 BT4.out).mono ?_); rintro e w5 ⟨rfl, b5⟩; have Vm5 := hid (Vm4.out.below b5 (Vm4.out.lt (by show 0 < 5; omega))); have Vn5 := hid (Vn4.out.below b5 (Vn4.out.lt (by show 0 < 14; omega))); have BT5 := hid (BT4.out.trans (b5.mono BT4.out.size)); clear b5; have p0 : w5.cell? ⟨w1.heap.size, 0, none⟩ = some (.int .i64 x.id) := Vn5.out.cell rfl; have p1 : w5.cell? ⟨w1.heap.size, 1, none⟩ = some (.int .i64 x.ph) := Vn5.out.cell rfl; have p2 : w5.cell? ⟨w1.heap.size, 2, none⟩ = some (.int .u64 x.sl) := Vn5.out.cell rfl; have p3 : w5.cell? ⟨w1.heap.size, 3, none⟩ = some (.int .i64 x.st) := Vn5.out.cell rfl; have p4 : w5.cell? ⟨w1.heap.size, 4, none⟩ = some (.int .i64 x.o.p) := Vn5.out.cell rfl; have p5 : w5.cell? ⟨w1.heap.size, 5, none⟩ = some (.int .i64 x.o.d) := Vn5.out.cell rfl; have p6 : w5.cell? ⟨w1.heap.size, 6, none⟩ = some (.int .i64 x.o.r) := Vn5.out.cell rfl; have p7 : w5.cell? ⟨w1.heap.size, 7, none⟩ = some (.int .i64 x.co) := Vn5.out.cell rfl; have p8 : w5.cell? ⟨w1.heap.size, 8, none⟩ = some (.int .u16 (x.mb : Int)) := Vn5.out.cell rfl; have p9 : w5.cell? ⟨w1.heap.size, 9, none⟩ = some (.int .i64 x.t.g) := Vn5.out.cell rfl; have p10 : w5.cell? ⟨w1.heap.size, 10, none⟩ = some (.int .i64 x.t.b) := Vn5.out.cell rfl; have p11 : w5.cell? ⟨w1.heap.size, 11, none⟩ = some (.slice A n c) := Vn5.out.cell rfl; have p12 : w5.cell? ⟨w1.heap.size, 12, none⟩ = some (.bool x.se) := Vn5.out.cell rfl; have p13 : w5.cell? ⟨w1.heap.size, 13, none⟩ = some (.int .i64 x.vd) := Vn5.out.cell rfl)
    | (go_at_call 55; (with_reducible refine (C55.out w3).mono ?_); rintro e w4 ⟨rfl, b4⟩; have Vm4 := hid (Vm3.out.below b4 (Vm3.out.lt (by show 0 < 5; omega))); have Vn4 := hid (Vn3.out.below b4 (Vn3.out.lt (by show 0 < 14; omega))); have BT4 := hid (BT3.out.trans (b4.mono BT3.out.size)); clear b4; have q0 : w4.cell? ⟨w.heap.size, 0, none⟩ = some (.int .i64 m.n) := Vm4.out.cell rfl; have q1 : w4.cell? ⟨w.heap.size, 1, none⟩ = some (.int .i64 m.s) := Vm4.out.cell rfl; have q2 : w4.cell? ⟨w.heap.size, 2, none⟩ = some (.int .i64 m.l) := Vm4.out.cell rfl; have q3 : w4.cell? ⟨w.heap.size, 3, none⟩ = some (.int .i64 m.f) := Vm4.out.cell rfl; have q4 : w4.cell? ⟨w.heap.size, 4, none⟩ = some (.int .i64 m.d) := Vm4.out.cell rfl; have r0 : w4.cell? ⟨w1.heap.size, 0, none⟩ = some (.int .i64 x.id) := Vn4.out.cell rfl; have r1 : w4.cell? ⟨w1.heap.size, 1, none⟩ = some (.int .i64 x.ph) := Vn4.out.cell rfl; have r2 : w4.cell? ⟨w1.heap.size, 2, none⟩ = some (.int .u64 x.sl) := Vn4.out.cell rfl; have r3 : w4.cell? ⟨w1.heap.size, 3, none⟩ = some (.int .i64 x.st) := Vn4.out.cell rfl; have r4 : w4.cell? ⟨w1.heap.size, 4, none⟩ = some (.int .i64 x.o.p) := Vn4.out.cell rfl; have r5 : w4.cell? ⟨w1.heap.size, 5, none⟩ = some (.int .i64 x.o.d) := Vn4.out.cell rfl; have r6 : w4.cell? ⟨w1.heap.size, 6, none⟩ = some (.int .i64 x.o.r) := Vn4.out.cell rfl; have r7 : w4.cell? ⟨w1.heap.size, 7, none⟩ = some (.int .i64 x.co) := Vn4.out.cell rfl; have r8 : w4.cell? ⟨w1.heap.size, 8, none⟩ = some (.int .u16 (x.mb : Int)) := Vn4.out.cell rfl; have r9 : w4.cell? ⟨w1.heap.size, 9, none⟩ = some (.int .i64 x.t.g) := Vn4.out.cell rfl; have r10 : w4.cell? ⟨w1.heap.size, 10, none⟩ = some (.int .i64 x.t.b) := Vn4.out.cell rfl; have r11 : w4.cell? ⟨w1.heap.size, 11, none⟩ = some (.slice A n c) := Vn4.out.cell rfl; have r12 : w4.cell? ⟨w1.heap.size, 12, none⟩ = some (.bool x.se) := Vn4.out.cell rfl; have r13 : w4.cell? ⟨w1.heap.size, 13, none⟩ = some (.int .i64 x.vd) := Vn4.out.cell rfl)
    | (go_at_call 54; (with_reducible refine (C54.out w2).mono ?_); rintro e w3 ⟨rfl, b3⟩; have Vm3 := hid (V1.out.below b3 (V1.out.lt (by show 0 < 5; omega))); have Vn3 := hid (Vn.out.below b3 (Vn.out.lt (by show 0 < 14; omega))); have BT3 := hid (BT.out.trans (b3.mono BT.out.size)); clear b3; have s4 : w3.cell? ⟨w1.heap.size, 4, none⟩ = some (.int .i64 x.o.p) := Vn3.out.cell rfl; have s5 : w3.cell? ⟨w1.heap.size, 5, none⟩ = some (.int .i64 x.o.d) := Vn3.out.cell rfl; have s6 : w3.cell? ⟨w1.heap.size, 6, none⟩ = some (.int .i64 x.o.r) := Vn3.out.cell rfl)
    | (refine wpList_lm (.tmp 2) rfl rfl V1.out.1 rfl ?_)
    | (refine wpList_gbox 32 (encn x A n c) rfl (.tmp 1) rfl rfl ?_; intro w2 v2 b2 s2; have V1 := hid (v1.below b2 (v1.lt (by show 0 < 5; omega))); have BT := hid (b1.trans (b2.mono b1.size)); have Vn := hid v2; clear v1 v2 b1 b2 s1 s2)
    | (refine wpList_gbox 23 (encm m) rfl (.tmp 0) rfl rfl ?_; intro w1 v1 b1 s1))
  go_ret
  exact ⟨rfl, BT6.out⟩
theorem ncheck_any (x : Nd) (m : Md) (A : Option Addr) (n c BB : Nat) (w : World) (hr : T9.Row w BB A n (sv x.dv)) (hB : BB ≤ w.heap.size) (hn : n ≤ 1000000000) :
    Calls Tryz.prog 20 #[mv m, nv x A n c] w fun e w' => e = .returned (.int .i64 (nodeE m x)) ∧ Below w.heap.size w w' := by
  unfold nodeE
  by_cases hm : M10.Ok m
  case neg => rw [if_neg fun h => hm h.1]; exact check_m x m A n c BB w hr hB hn hm
  by_cases ho : O6.Ok x.o
  case neg => rw [if_neg fun h => ho h.2.1]; exact check_o x m A n c BB w hr hB hn hm ho
  rcases hf : fitB m x with _ | _
  · rw [if_neg fun h => by have := h.2.2.1; rw [hf] at this; cases this]; exact check_f x m A n c BB w hr hB hn hm ho hf
  · by_cases hp : x.ph = 0
    · rcases hs : saB x (offN x) with _ | _
      · rw [if_neg fun h => by have := h.2.2.2 hp; rw [hs] at this; cases this]; exact check_t x m A n c BB w hr hB hn hm ho hf hp hs
      · rw [if_pos ⟨hm, ho, hf, fun _ => hs⟩]; exact check_s x m A n c BB w hr hB hn hm ho hf hp hs
    · rw [if_pos ⟨hm, ho, hf, fun h => absurd h hp⟩]; exact check_p x m A n c BB w hr hB hn hm ho hf hp
end Go.Proofs.YtlgedfljmgedfaaGreat
namespace Go.Proofs.YtlgedfljmgedfaaGreat
open Go Go.RowKit
open M10 (hid Md encm mv mz Oth range_keep there_keep range_other there_other setCells_oth setCells_size there_set Ty enct tv tz Fr encf fv fz)
open O6 (Oc enco ov oz)
open T9 (sv)
/-! ### own -/
theorem ownR_of {w : World} {base : Nat} {e : TypeId} {A : Option Addr} {n c : Nat} {vs : List Value} (h : T9.Own w base e A n c vs) : OwnR w base e 1 A n c vs := h
/-- A node told: it, its list new from block base on. -/
def RetN (base : Nat) (x : Nd) (n : Nat) (w : World) (e : Ending) (w' : World) : Prop := ∃ A c, e = .returned (nv x A n c) ∧ OwnR w' base 2 1 A n c (sv x.dv) ∧ Below base w w'
set_option maxRecDepth 100000 in
set_option maxHeartbeats 1000000 in
theorem own_any (x : Nd) (A : Option Addr) (n c BB : Nat) (w : World) (hr : T9.Row w BB A n (sv x.dv)) (hB : BB ≤ w.heap.size) (hn : n ≤ 100) :
    Calls Tryz.prog 70 #[nv x A n c] w (RetN w.heap.size x n w) := by
  have HC := hid (fun (w2 : World) (k : Below w.heap.size w w2) => T9.clone_any A n c BB x.dv w2 (hr.below (k.mono hB)) (Nat.le_trans hB k.size) hn)
  clear hr hB hn
  go_enter Tryz.func70, Tryz.ntmps70
  go_wp2_with (first
    | (refine wpList_gst 32 (encn x A2 n c2) rfl (.tmp 2) (.tmp 7) rfl rfl rfl U4.out (by show 0 + 14 ≤ 14; omega) size32 (encn_one _ _ _ _) ?_; intro w5 v5 b5 o5 s5)
    | (refine wpList_ln (z := x) (A := A2) (n := n) (c := c2) (.tmp 1) rfl rfl V4.out.1 rfl ?_)
    | (refine wpList_gst1 30 (.slice A2 n c2) rfl (.tmp 6) (.tmp 5) rfl rfl rfl V3.out (by show 11 < 14; omega) (by kernel_rfl) rfl rfl ?_; intro w4 v4 b4 o4 s4; have V4 : Hid (Var w4 w.heap.size (encn x A2 n c2)) := hid v4; have U4 := hid (U3.out.other o4 NE.out); have O4 := hid (O3.out.oth o4 (fun e => by have := (O3.out.lt e).1; have := L1.out; omega)); have B4 := hid (B3.out.trans b4))
    | (go_at_call 121; (with_reducible refine (HC.out w2 B2.out).mono ?_); rintro e w3 ⟨A2, c2, rfl, own2, b3⟩; have V3 : Hid (Var w3 w.heap.size (encn x A n c)) := hid (V2.out.below b3 (V2.out.lt (by show 0 < 14; omega))); have U3 : Hid (Var w3 w1.heap.size (encn nz none 0 0)) := hid (U2.out.below b3 (U2.out.lt (by show 0 < 14; omega))); have O3 := hid (ownR_of own2); have B3 := hid (B2.out.trans (b3.mono B2.out.size)); clear own2 b3)
    | (refine wpList_galloc 32 (encn nz none 0 0) zero32 rfl rfl ?_; intro w2 v2 b2 s2; have V2 : Hid (Var w2 w.heap.size (encn x A n c)) := hid (v1.below b2 (v1.lt (by show 0 < 14; omega))); have U2 := hid v2; have B2 := hid (b1.trans (b2.mono b1.size)); have c11 : w2.cell? ⟨w.heap.size, 11, none⟩ = some (.slice A n c) := V2.out.cell rfl; have NE : Hid (w1.heap.size ≠ w.heap.size) := hid (by have := v1.lt (by show 0 < 14; omega); omega); have L1 : Hid (w.heap.size < w2.heap.size) := hid (V2.out.lt (by show 0 < 14; omega)); have L2 : Hid (w1.heap.size < w2.heap.size) := hid (U2.out.lt (by show 0 < 14; omega)); have L3 : Hid (w.heap.size ≤ w1.heap.size) := hid b1.size; clear v1 v2 b1 b2 s1 s2)
    | (refine wpList_gbox 32 (encn x A n c) rfl (.tmp 0) rfl rfl ?_; intro w1 v1 b1 s1))
  refine bodyPost_ret (results_cs (cs := encn x A2 n c2) Tryz.results70 _ rfl v5.1 Tryz.underlying32 rfl size32) rfl ?_
  exact ⟨A2, c2, rfl, (O4.out.oth o5 (fun e => by have := (O4.out.lt e).1; have := L2.out; omega)).base_le (Nat.le_of_lt L1.out), B4.out.trans (b5.mono L3.out)⟩
/-! ### New -/
def newN (id : Int) (o : Oc) : Nd := ⟨id, 0, 0, 0, o, 0, 0, ⟨0, 0⟩, [], false, 0⟩
def newR (m : Md) (id : Int) (o : Oc) : Nd := if nodeOk m (newN id o) then newN id o else nz
theorem results_ct {w : World} {g : Nat} {cs : List Value} {ty : TypeId} {fn : Func} {p q : Tmp} (h : fn.results = #[.cell p ty, .tmp q]) (tmps : Array Value) (hp : tmps.getD p undef = .pointer (some ⟨g, 0, none⟩)) (hx : w.rangeAt g 0 cs) {d : TypeDesc} (hu : Tryz.prog.underlying ty = some d) (hd : d.isRow = true) (hs : (Tryz.prog.info? ty).map (·.size) = some cs.length) :
    (results fn tmps).run Tryz.prog w = .ok (.tuple #[.agg cs.toArray, tmps.getD q undef]) w := by
  have := run_loadVar_mid (P := Tryz.prog) w g 0 ty cs _ hx hu hd hs
  have hp' : tmps[p]?.getD undef = .pointer (some ⟨g, 0, none⟩) := by simpa using hp
  simp only [results, h]
  simp [Result.andThen, hp', this, asAddr]
set_option maxRecDepth 100000 in
set_option maxHeartbeats 1000000 in
theorem new_ok (m : Md) (id : Int) (o : Oc) (w : World) (hE : nodeE m (newN id o) = 0) : Calls Tryz.prog 18 #[mv m, .int .i64 id, ov o] w fun e w' => e = .returned (.tuple #[nv (newN id o) none 0 0, .int .i64 0]) ∧ Below w.heap.size w w' := by
  have HC := hid (fun (w : World) => by have hf := ncheck_any (newN id o) m none 0 0 0 w (T9.Row.nil _ _ _) (Nat.zero_le _) (by omega); rw [hE] at hf; exact hf)
  clear hE
  go_enter Tryz.func18, Tryz.ntmps18
  go_wp2_with (first
    | (refine wpList_gst 32 (encn (newN id o) none 0 0) rfl (.tmp 6) (.tmp 20) rfl rfl rfl U6.out (by show 0 + 14 ≤ 14; omega) size32 (encn_one _ _ _ _) ?_; intro w7 v7 b7 o7 s7)
    | (refine wpList_ln (z := newN id o) (A := none) (n := 0) (c := 0) (.tmp 8) rfl rfl V6.out.1 rfl ?_)
    | (go_at_call 20; (with_reducible refine (HC.out w5).mono ?_); rintro e w6 ⟨rfl, b6⟩; have U6 := hid (U5.out.below b6 (U5.out.lt (by show 0 < 14; omega))); have V6 := hid (V5.out.below b6 (V5.out.lt (by show 0 < 14; omega))); have B6 := hid (B5.out.trans (b6.mono B5.out.size)); clear b6)
    | (refine wpList_ln (z := newN id o) (A := none) (n := 0) (c := 0) (.tmp 8) rfl rfl V5.out.1 rfl ?_)
    | (refine wpList_lm (.tmp 3) rfl rfl M5.out.1 rfl ?_)
    | (refine wpList_gst 32 (encn (newN id o) none 0 0) rfl (.tmp 8) (.tmp 12) rfl rfl rfl v4 (by show 0 + 14 ≤ 14; omega) size32 (encn_one _ _ _ _) ?_; intro w5 v5 b5 o5 s5; have V5 : Hid (Var w5 w3.heap.size (encn (newN id o) none 0 0)) := hid v5; have M5 := hid (M4.out.below b5 LM.out); have U5 := hid (U4.out.below b5 LU.out); have B5 := hid (B4.out.trans (b5.mono L3.out)); clear v4 v5 b5 o5 s5)
    | (refine wpList_galloc 32 (encn nz none 0 0) zero32 rfl rfl ?_; intro w4 v4 b4 s4; have M4 := hid (M3.out.below b4 (M3.out.lt (by show 0 < 5; omega))); have U4 := hid (U3.out.below b4 (U3.out.lt (by show 0 < 14; omega))); have B4 := hid (B3.out.trans (b4.mono B3.out.size)); have LM := hid (M3.out.lt (by show 0 < 5; omega)); have LU := hid (U3.out.lt (by show 0 < 14; omega)); have L3 := hid B3.out.size; clear b4 s4)
    | (refine wpList_gld 26 [.int .i64 o.p, .int .i64 o.d, .int .i64 o.r] (.tmp 5) rfl rfl O3.out.1 Tryz.underlying26 rfl size26 rfl ?_)
    | (refine wpList_galloc 32 (encn nz none 0 0) zero32 rfl rfl ?_; intro w3 v3 b3 s3; have M3 := hid ((v1.below b2 (v1.lt (by show 0 < 5; omega))).below b3 (by have := v1.lt (by show 0 < 5; omega); have := b2.size; omega)); have O3 := hid (v2.below b3 (v2.lt (by show 0 < 3; omega))); have U3 := hid v3; have NU : Hid (w.heap.size ≤ w2.heap.size) := hid (Nat.le_trans b1.size b2.size); have B3 := hid ((b1.trans (b2.mono b1.size)).trans (b3.mono (Nat.le_trans b1.size b2.size))); clear v1 v2 v3 b1 b2 b3 s1 s2 s3)
    | (refine wpList_gbox 26 (enco o) rfl (.tmp 2) rfl rfl ?_; intro w2 v2 b2 s2)
    | (refine wpList_gbox 23 (encm m) rfl (.tmp 0) rfl rfl ?_; intro w1 v1 b1 s1))
  refine bodyPost_ret (results_ct (cs := encn (newN id o) none 0 0) Tryz.results18 _ rfl v7.1 Tryz.underlying32 rfl size32) rfl ?_
  exact ⟨rfl, B6.out.trans (b7.mono NU.out)⟩
set_option maxRecDepth 100000 in
set_option maxHeartbeats 1000000 in
theorem new_bad (m : Md) (id : Int) (o : Oc) (w : World) (hE : nodeE m (newN id o) = 1) : Calls Tryz.prog 18 #[mv m, .int .i64 id, ov o] w fun e w' => e = .returned (.tuple #[nv nz none 0 0, .int .i64 1]) ∧ Below w.heap.size w w' := by
  have HC := hid (fun (w : World) => by have hf := ncheck_any (newN id o) m none 0 0 0 w (T9.Row.nil _ _ _) (Nat.zero_le _) (by omega); rw [hE] at hf; exact hf)
  clear hE
  go_enter Tryz.func18, Tryz.ntmps18
  go_wp2_with (first
    | (refine wpList_gst 32 (encn nz none 0 0) rfl (.tmp 6) (.tmp 18) rfl rfl rfl U6.out (by show 0 + 14 ≤ 14; omega) size32 (encn_one _ _ _ _) ?_; intro w7 v7 b7 o7 s7)
    | (go_at_call 20; (with_reducible refine (HC.out w5).mono ?_); rintro e w6 ⟨rfl, b6⟩; have U6 := hid (U5.out.below b6 (U5.out.lt (by show 0 < 14; omega))); have V6 := hid (V5.out.below b6 (V5.out.lt (by show 0 < 14; omega))); have B6 := hid (B5.out.trans (b6.mono B5.out.size)); clear b6)
    | (refine wpList_ln (z := newN id o) (A := none) (n := 0) (c := 0) (.tmp 8) rfl rfl V5.out.1 rfl ?_)
    | (refine wpList_lm (.tmp 3) rfl rfl M5.out.1 rfl ?_)
    | (refine wpList_gst 32 (encn (newN id o) none 0 0) rfl (.tmp 8) (.tmp 12) rfl rfl rfl v4 (by show 0 + 14 ≤ 14; omega) size32 (encn_one _ _ _ _) ?_; intro w5 v5 b5 o5 s5; have V5 : Hid (Var w5 w3.heap.size (encn (newN id o) none 0 0)) := hid v5; have M5 := hid (M4.out.below b5 LM.out); have U5 := hid (U4.out.below b5 LU.out); have B5 := hid (B4.out.trans (b5.mono L3.out)); clear v4 v5 b5 o5 s5)
    | (refine wpList_galloc 32 (encn nz none 0 0) zero32 rfl rfl ?_; intro w4 v4 b4 s4; have M4 := hid (M3.out.below b4 (M3.out.lt (by show 0 < 5; omega))); have U4 := hid (U3.out.below b4 (U3.out.lt (by show 0 < 14; omega))); have B4 := hid (B3.out.trans (b4.mono B3.out.size)); have LM := hid (M3.out.lt (by show 0 < 5; omega)); have LU := hid (U3.out.lt (by show 0 < 14; omega)); have L3 := hid B3.out.size; clear b4 s4)
    | (refine wpList_gld 26 [.int .i64 o.p, .int .i64 o.d, .int .i64 o.r] (.tmp 5) rfl rfl O3.out.1 Tryz.underlying26 rfl size26 rfl ?_)
    | (refine wpList_galloc 32 (encn nz none 0 0) zero32 rfl rfl ?_; intro w3 v3 b3 s3; have M3 := hid ((v1.below b2 (v1.lt (by show 0 < 5; omega))).below b3 (by have := v1.lt (by show 0 < 5; omega); have := b2.size; omega)); have O3 := hid (v2.below b3 (v2.lt (by show 0 < 3; omega))); have U3 := hid v3; have NU : Hid (w.heap.size ≤ w2.heap.size) := hid (Nat.le_trans b1.size b2.size); have B3 := hid ((b1.trans (b2.mono b1.size)).trans (b3.mono (Nat.le_trans b1.size b2.size))); clear v1 v2 v3 b1 b2 b3 s1 s2 s3)
    | (refine wpList_gbox 26 (enco o) rfl (.tmp 2) rfl rfl ?_; intro w2 v2 b2 s2)
    | (refine wpList_gbox 23 (encm m) rfl (.tmp 0) rfl rfl ?_; intro w1 v1 b1 s1))
  refine bodyPost_ret (results_ct (cs := encn nz none 0 0) Tryz.results18 _ rfl v7.1 Tryz.underlying32 rfl size32) rfl ?_
  exact ⟨rfl, B6.out.trans (b7.mono NU.out)⟩
theorem new_any (m : Md) (id : Int) (o : Oc) (w : World) : Calls Tryz.prog 18 #[mv m, .int .i64 id, ov o] w fun e w' => e = .returned (.tuple #[nv (newR m id o) none 0 0, .int .i64 (nodeE m (newN id o))]) ∧ Below w.heap.size w w' := by
  unfold newR
  by_cases h : nodeOk m (newN id o)
  · rw [if_pos h, show nodeE m (newN id o) = 0 from if_pos h]; exact new_ok m id o w (if_pos h)
  · rw [if_neg h, show nodeE m (newN id o) = 1 from if_neg h]; exact new_bad m id o w (if_neg h)
end Go.Proofs.YtlgedfljmgedfaaGreat
namespace Go.Proofs.YtlgedfljmgedfaaGreat
open Go Go.RowKit
open M10 (hid Md encm mv mz Oth range_keep there_keep range_other there_other setCells_oth setCells_size there_set Ty enct tv tz Fr encf fv fz)
open O6 (Oc enco ov oz)
open T9 (sv)
/-! ### A deferring function's way out by a panic does not look at most slots -/
theorem res29 (tmps : Array Value) (i : Nat) (v : Value) (h8 : i ≠ 8) (h9 : i ≠ 9) (h10 : i ≠ 10) : results Tryz.f29 (tmps.setIfInBounds i v) = results Tryz.f29 tmps := by
  unfold results
  rw [Tryz.results29]
  simp [Array.getElem?_setIfInBounds_ne h8, Array.getElem?_setIfInBounds_ne h9, Array.getElem?_setIfInBounds_ne h10]
theorem leaves_put {tmps tmps' : Array Value} (h : results Tryz.f29 tmps' = results Tryz.f29 tmps) {R : Ending → World → Prop} : ∀ (ds : List Deferred) (u : FrameMode) (w : World), Leaves Tryz.prog Tryz.f29 tmps' R ds u w → Leaves Tryz.prog Tryz.f29 tmps R ds u w
  | [], .returning, w, ⟨v, hv, hR⟩ => ⟨v, h ▸ hv, hR⟩
  | [], .panicking _, _, hR => hR
  | [], .run, _, hR => hR
  | d :: ds, u, w, ⟨hu, fv, cap, f, args, ht, hi, hc⟩ => ⟨hu, fv, cap, f, args, ht, hi, hc.mono fun e u' w' he => by
      cases e with
      | returned _ => exact leaves_put h ds _ _ he
      | panicked _ => exact leaves_put h ds _ _ he
      | outgrown => exact he⟩
theorem putQ {K : Act → World → Prop} {R : Ending → World → Prop} {i : Nat} {v : Value} (h8 : i ≠ 8) (h9 : i ≠ 9) (h10 : i ≠ 10) (c : List PanicEntry) (a : Act) (w : World)
    (h : Exit.then K (bodyPostD Tryz.prog Tryz.f29 R) (Exit.panic c) (a.put (some i) v) w) : Exit.then K (bodyPostD Tryz.prog Tryz.f29 R) (Exit.panic c) a w :=
  leaves_put (res29 a.tmps i v h8 h9 h10) _ _ _ h
/-! ### The deferred closure -/
set_option maxRecDepth 100000 in
theorem doD_ok (ge gw ga gl : Nat) (u : FrameMode) (w : World) (hc : w.cell? ⟨ge, 0, none⟩ = some (.int .i64 0)) :
    CallsD Tryz.prog 71 #[.pointer (some ⟨ge, 0, none⟩), .pointer (some ⟨gw, 0, none⟩), .pointer (some ⟨ga, 0, none⟩), .pointer (some ⟨gl, 0, none⟩)] u w fun e u' w' => u' = u ∧ (e = .returned (.tuple #[]) ∧ w' = w) := by
  go_enter_d Tryz.func71, Tryz.ntmps71
  go_wp2_with fail
  go_end0
  exact ⟨rfl, rfl⟩
set_option maxRecDepth 100000 in
theorem doD_err (ge gw ga gl : Nat) (E : Int) (x : Nd) (A : Option Addr) (n c : Nat) (cs : List Value) (v : Value) (u : FrameMode) (w : World) (hc : w.cell? ⟨ge, 0, none⟩ = some (.int .i64 E)) (hE : ¬ E = 0)
    (hw : w.rangeAt gw 0 (encn x A n c)) (ha : Var w ga cs) (hl : cs.length = 14) (hv : Var w gl [v]) (hne : gl ≠ ga) :
    CallsD Tryz.prog 71 #[.pointer (some ⟨ge, 0, none⟩), .pointer (some ⟨gw, 0, none⟩), .pointer (some ⟨ga, 0, none⟩), .pointer (some ⟨gl, 0, none⟩)] u w fun e u' w' => u' = u ∧ (e = .returned (.tuple #[]) ∧ Var w' ga (encn x A n c) ∧ Var w' gl [.slice none 0 0] ∧ Kept (fun k => k ≠ ga ∧ k ≠ gl) w w') := by
  have HW := hid hw
  have HA := hid ha
  have HV := hid hv
  have e1 : (E != 0) = true := by simpa using hE
  have NE := hid hne
  have HL := hid hl
  clear hw ha hv hE hne hl
  go_enter_d Tryz.func71, Tryz.ntmps71
  go_wp2_with (first
    | (refine wpList_gst1 37 (.slice none 0 0) rfl (.tmp 3) (.const (.slice none 0 0)) rfl rfl rfl (HV.out.other o1 NE.out) (by show 0 < 1; omega) (by kernel_rfl) rfl rfl ?_; intro w2 v2 b2 o2 s2)
    | (refine wpList_gst 32 (encn x A n c) rfl (.tmp 2) (.tmp 6) rfl rfl rfl HA.out (by rw [HL.out]; exact Nat.le_refl 14) size32 (encn_one _ _ _ _) ?_; intro w1 v1 b1 o1 s1)
    | (refine wpList_ln (z := x) (A := A) (n := n) (c := c) (.tmp 1) rfl rfl HW.out rfl ?_))
  go_end0
  have V1 : Var w1 ga (encn x A n c) := by
    have : setv cs 0 (encn x A n c) = encn x A n c := by
      unfold setv
      rw [List.drop_of_length_le (by rw [HL.out]; exact Nat.le_refl 14)]
      simp
    exact this ▸ v1
  refine ⟨rfl, V1.other o2 (Ne.symm NE.out), v2, ?_⟩
  exact (Kept.oth b1 o1 (fun h => h.1 rfl)).trans (Kept.oth b2 o2 (fun h => h.2 rfl))
/-! ### do -/
theorem Var.one {w : World} {g : Nat} {v : Value} (h : Var w g [v]) : w.cell? ⟨g, 0, none⟩ = some v := h.cell rfl
theorem results_3c {w : World} {g gl ge : Nat} {cs : List Value} {v u : Value} {fn : Func} {p q r : Tmp} (h : fn.results = #[.cell p 32, .cell q 37, .cell r 38]) (tmps : Array Value) (hp : tmps.getD p undef = .pointer (some ⟨g, 0, none⟩)) (hq : tmps.getD q undef = .pointer (some ⟨gl, 0, none⟩)) (hr : tmps.getD r undef = .pointer (some ⟨ge, 0, none⟩)) (hx : w.rangeAt g 0 cs) (hs : cs.length = 14) (h1 : w.cell? ⟨gl, 0, none⟩ = some v) (h2 : w.cell? ⟨ge, 0, none⟩ = some u) :
    (results fn tmps).run Tryz.prog w = .ok (.tuple #[.agg cs.toArray, v, u]) w := by
  have := run_loadVar_mid (P := Tryz.prog) w g 0 32 cs _ hx Tryz.underlying32 rfl (by rw [size32, hs])
  have hp' : tmps[p]?.getD undef = .pointer (some ⟨g, 0, none⟩) := by simpa using hp
  have hq' : tmps[q]?.getD undef = .pointer (some ⟨gl, 0, none⟩) := by simpa using hq
  have hr' : tmps[r]?.getD undef = .pointer (some ⟨ge, 0, none⟩) := by simpa using hr
  have l1 : (loadVar 37 ⟨gl, 0, none⟩).run Tryz.prog w = .ok v w := by simp [loadVar, Tryz.isAgg37, h1]
  have l2 : (loadVar 38 ⟨ge, 0, none⟩).run Tryz.prog w = .ok u w := by simp [loadVar, Tryz.isAgg38, h2]
  simp only [results, h]
  simp [Result.andThen, hp', hq', hr', this, asAddr, l1, l2]
/-- What do tells: a node, acts, an error; where q, the node's list is its own, from block base on; where r, it is there. -/
def RetD (base : Nat) (y : Nd) (l : List Ac) (E : Int) (q r : Prop) (w : World) (e : Ending) (w' : World) : Prop :=
  ∃ A n c B k d, e = .returned (.tuple #[nv y A n c, .slice B k d, .int .i64 E]) ∧ n = y.dv.length ∧ (q → OwnR w' base 2 1 A n c (sv y.dv)) ∧ (r → T9.Row w' w'.heap.size A n (sv y.dv)) ∧ OwnR w' base 66 8 B k d (flat l) ∧ Below base w w'
theorem zero37 (w : World) : (zeroValue 37).run Tryz.prog w = .ok (.slice none 0 0) w := by kernel_rfl
theorem zero38 (w : World) : (zeroValue 38).run Tryz.prog w = .ok (.int .i64 0) w := by kernel_rfl
theorem wk_n {w : World} {g : Nat} {x : Nd} {A B : Option Addr} {n c k d : Nat} {m : Md} (h : Var w g (encw x A n c m B k d)) : w.rangeAt g 0 (encn x A n c) := h.part fun j v hv => by
  rw [Nat.zero_add]
  unfold encw
  rw [List.getElem?_append_left (List.getElem?_eq_some_iff.1 hv).1]
  exact hv
end Go.Proofs.YtlgedfljmgedfaaGreat
