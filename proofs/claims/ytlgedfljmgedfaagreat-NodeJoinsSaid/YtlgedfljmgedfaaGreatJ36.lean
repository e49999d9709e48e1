/-
  Texts NZe of this seat, as far as they are used.
-/
import Derived.Test.YtlgedfljmgedfaaGreatJ35
namespace Go.Proofs.YtlgedfljmgedfaaGreat
open Go Go.RowKit
open M10 (hid Md encm mv mz Oth range_keep there_keep range_other there_other setCells_oth setCells_size there_set Ty enct tv tz Fr encf fv fz)
open O6 (Oc enco ov oz)
open T9 (sv)
set_option maxRecDepth 100000 in
set_option maxHeartbeats 4000000 in
theorem do37_ok (x : Nd) (m : Md) (A : Option Addr) (n c BB : Nat) (may : Bool) (cn : Nat) (w : World) (hr : T9.Row w BB A n (sv x.dv)) (hB : BB ≤ w.heap.size) (hn : n ≤ 100) (hm : may = true) (hE : nodeE m x = 0) (y : Nd) (l : List Ac) (E : Int) (hE2 : E = 0)
    (HC : ∀ (K : Nat → Prop) (base g : Nat) (w1 : World), Wk w1 K base g x m [] → (∀ k, k < w.heap.size → K k) → Below w.heap.size w w1 → Calls Tryz.prog 37 #[.pointer (some ⟨g, 0, none⟩), .pointer (some ⟨cn, 0, none⟩)] w1 (RetW K base g y m l (.int .i64 E) w1)) :
    Calls Tryz.prog 29 #[mv m, nv x A n c, .bool may, .func (.func 37) #[] #[.pointer (some ⟨cn, 0, none⟩)]] w (RetD w.heap.size y l 0 True True w) := by
  subst hm
  subst hE2
  have hmf : ∀ (fn : Fn) (first cap : Array Value) (w : World), (Instr.makeFunc fn first cap).run Tryz.prog w = .ok (.func fn first cap) w := fun _ _ _ _ => rfl
  have hl : Hid (n = x.dv.length) := hid (by have := hr.1; simp [sv] at this; omega)
  have HN := hid (fun (w5 : World) (k : Below w.heap.size w w5) => own_any x A n c BB w5 (hr.below (k.mono hB)) (Nat.le_trans hB k.size) hn)
  have HK : Hid (∀ (w8 : World) (A6 : Option Addr) (c6 : Nat), OwnR w8 w.heap.size 2 1 A6 n c6 (sv x.dv) → Calls Tryz.prog 20 #[.agg #[.int .i64 m.n, .int .i64 m.s, .int .i64 m.l, .int .i64 m.f, .int .i64 m.d], .agg #[.int .i64 x.id, .int .i64 x.ph, .int .u64 x.sl, .int .i64 x.st, .int .i64 x.o.p, .int .i64 x.o.d, .int .i64 x.o.r, .int .i64 x.co, .int .u16 (x.mb : Int), .int .i64 x.t.g, .int .i64 x.t.b, .slice A6 n c6, .bool x.se, .int .i64 x.vd]] w8 fun e w' => e = .returned (.int .i64 0) ∧ Below w8.heap.size w8 w') := hid (fun w8 A6 c6 h => by have hf := ncheck_any x m A6 n c6 w8.heap.size w8 (T9.Own.row h) (Nat.le_refl _) (by omega); rw [hE] at hf; exact hf)
  have HC := hid HC
  clear hr hB hn hE
  go_enter_defers Tryz.func29, Tryz.ntmps29
  go_wp2_with (first
    | (refine wpList_gst1 38 (.int .i64 0) rfl (.tmp 10) (.tmp 29) rfl rfl rfl GE12.out (by show 0 < 1; omega) (by kernel_rfl) rfl rfl ?_; intro w13 v13 b13 o13 s13)
    | (go_at_call 37; (with_reducible refine (HC.out _ w.heap.size w9.heap.size w11 WK11.out KW.out B11.out).mono ?_); rintro e w12 ⟨rfl, W12, k12⟩; have GA12 := hid (GA9.out.same ((k12.block _ ⟨by have := L69.out; have := LM.out; have := LA.out; have := LL.out; have := LE.out; omega, fun e => by have := A5.out _ e; have := D12.out; omega⟩).trans (B911.out.block _ (by have := L69.out; have := LM.out; have := LA.out; have := LL.out; have := LE.out; omega)))); have GL12 := hid (GL9.out.same ((k12.block _ ⟨by have := L69.out; have := LM.out; have := LA.out; have := LL.out; have := LE.out; omega, fun e => by have := A5.out _ e; have := D12.out; omega⟩).trans (B911.out.block _ (by have := L69.out; have := LM.out; have := LA.out; have := LL.out; have := LE.out; omega)))); have GE12 := hid (GE9.out.same ((k12.block _ ⟨by have := L69.out; have := LM.out; have := LA.out; have := LL.out; have := LE.out; omega, fun e => by have := A5.out _ e; have := D12.out; omega⟩).trans (B911.out.block _ (by have := L69.out; have := LM.out; have := LA.out; have := LL.out; have := LE.out; omega)))); have GW12 := hid (W9.out.same ((k12.block _ ⟨by have := L69.out; omega, fun e => by have := A5.out _ e; have := D12.out; omega⟩).trans (B911.out.block _ (by have := L69.out; omega)))); have K12 := hid k12; obtain ⟨A, n', c', B, k', d', U12⟩ := W12; have U12 := hid U12)
    | (refine wpList_gst 71 (encw x A6 n c6 m none 0 0) rfl (.tmp 12) (.tmp 27) rfl rfl rfl v10 (by show 0 + 20 ≤ 20; omega) size71 (encw_one _ _ _ _ _ _ _ _) ?_; intro w11 v11 b11 o11 s11; have V11 : Hid (Var w11 w9.heap.size (encw x A6 n c6 m none 0 0)) := hid v11; have B911 : Hid (Below w9.heap.size w9 w11) := hid (b10.trans b11); have O11 : Hid (OwnR w11 w.heap.size 2 1 A6 n c6 (sv x.dv)) := hid (O9.out.below B911.out); have KB : Hid (∀ k, (k < w9.heap.size ∧ ob A6 ≠ some k) → k < w11.heap.size) := hid (fun k h => Nat.lt_of_lt_of_le h.1 B911.out.size); have WK11 : Hid (Wk w11 (fun k => k < w9.heap.size ∧ ob A6 ≠ some k) w.heap.size w9.heap.size x m []) := hid ⟨A6, n, c6, none, 0, 0, V11.out, O11.out, OwnR.nil _ _ _ _, B9.out.size, fun h => absurd h.1 (Nat.lt_irrefl _), fun b hb => ⟨fun h => h.2 hb, by have := (O9.out.lt hb).2; omega, fun h => (by cases h)⟩, (fun b hb => by cases hb), KB.out, by have := B9.out.size; have := B911.out.size; omega⟩; have KW : Hid (∀ k, k < w.heap.size → (k < w9.heap.size ∧ ob A6 ≠ some k)) := hid (fun k hk => ⟨by have := B9.out.size; omega, fun e => by have := (A5.out _ e).1; have := D12.out; omega⟩); have B11 := hid (B9.out.trans (B911.out.mono B9.out.size)); clear v10 v11 b10 b11 o11 s10 s11 V11 O11)
    | (refine wpList_galloc 71 (encw nz none 0 0 mz none 0 0) zero71 rfl rfl ?_; intro w10 v10 b10 s10)
    | (refine wpList_gld 23 [.int .i64 m.n, .int .i64 m.s, .int .i64 m.l, .int .i64 m.f, .int .i64 m.d] (.tmp 4) rfl rfl M9.out.1 Tryz.underlying23 rfl size23 rfl ?_)
    | (refine wpList_gld 32 [.int .i64 x.id, .int .i64 x.ph, .int .u64 x.sl, .int .i64 x.st, .int .i64 x.o.p, .int .i64 x.o.d, .int .i64 x.o.r, .int .i64 x.co, .int .u16 (x.mb : Int), .int .i64 x.t.g, .int .i64 x.t.b, .slice A6 n c6, .bool x.se, .int .i64 x.vd] (.tmp 11) rfl rfl W9.out.1 Tryz.underlying32 rfl size32 rfl ?_)
    | (go_at_call 20; (with_reducible refine (HK.out w8 A6 c6 O8.out).mono ?_); rintro e w9 ⟨rfl, b9⟩; have W9 := hid (W8.out.below b9 (W8.out.lt (by show 0 < 14; omega))); have O9 := hid (O8.out.below b9); have M9 := hid (M8.out.below b9 (M8.out.lt (by show 0 < 5; omega))); have GA9 := hid (GA8.out.below b9 (GA8.out.lt (by show 0 < 14; omega))); have GL9 := hid (GL8.out.below b9 (GL8.out.lt (by show 0 < 1; omega))); have GE9 := hid (GE8.out.below b9 (GE8.out.lt (by show 0 < 1; omega))); have B9 := hid (B8.out.trans (b9.mono B8.out.size)); have L69 : Hid (w6.heap.size < w9.heap.size) := hid (W9.out.lt (by show 0 < 14; omega)); clear b9)
    | (refine wpList_gst 32 (encn x A6 n c6) rfl (.tmp 11) (.tmp 14) rfl rfl rfl v7 (by show 0 + 14 ≤ 14; omega) size32 (encn_one _ _ _ _) ?_; intro w8 v8 b8 o8 s8; have W8 : Hid (Var w8 w6.heap.size (encn x A6 n c6)) := hid v8; have O8 := hid ((O6.out.below b7).oth o8 (fun e => by have := (O6.out.lt e).2; omega)); have M8 := hid (M7.out.below b8 LM.out); have GA8 := hid (GA7.out.below b8 LA.out); have GL8 := hid (GL7.out.below b8 LL.out); have GE8 := hid (GE7.out.below b8 LE.out); have B8 := hid (B7.out.trans (b8.mono L6.out)); have p0 : w8.cell? ⟨w6.heap.size, 0, none⟩ = some (.int .i64 x.id) := W8.out.cell rfl; have p1 : w8.cell? ⟨w6.heap.size, 1, none⟩ = some (.int .i64 x.ph) := W8.out.cell rfl; have p2 : w8.cell? ⟨w6.heap.size, 2, none⟩ = some (.int .u64 x.sl) := W8.out.cell rfl; have p3 : w8.cell? ⟨w6.heap.size, 3, none⟩ = some (.int .i64 x.st) := W8.out.cell rfl; have p4 : w8.cell? ⟨w6.heap.size, 4, none⟩ = some (.int .i64 x.o.p) := W8.out.cell rfl; have p5 : w8.cell? ⟨w6.heap.size, 5, none⟩ = some (.int .i64 x.o.d) := W8.out.cell rfl; have p6 : w8.cell? ⟨w6.heap.size, 6, none⟩ = some (.int .i64 x.o.r) := W8.out.cell rfl; have p7 : w8.cell? ⟨w6.heap.size, 7, none⟩ = some (.int .i64 x.co) := W8.out.cell rfl; have p8 : w8.cell? ⟨w6.heap.size, 8, none⟩ = some (.int .u16 (x.mb : Int)) := W8.out.cell rfl; have p9 : w8.cell? ⟨w6.heap.size, 9, none⟩ = some (.int .i64 x.t.g) := W8.out.cell rfl; have p10 : w8.cell? ⟨w6.heap.size, 10, none⟩ = some (.int .i64 x.t.b) := W8.out.cell rfl; have p11 : w8.cell? ⟨w6.heap.size, 11, none⟩ = some (.slice A6 n c6) := W8.out.cell rfl; have p12 : w8.cell? ⟨w6.heap.size, 12, none⟩ = some (.bool x.se) := W8.out.cell rfl; have p13 : w8.cell? ⟨w6.heap.size, 13, none⟩ = some (.int .i64 x.vd) := W8.out.cell rfl; have q0 : w8.cell? ⟨w.heap.size, 0, none⟩ = some (.int .i64 m.n) := M8.out.cell rfl; have q1 : w8.cell? ⟨w.heap.size, 1, none⟩ = some (.int .i64 m.s) := M8.out.cell rfl; have q2 : w8.cell? ⟨w.heap.size, 2, none⟩ = some (.int .i64 m.l) := M8.out.cell rfl; have q3 : w8.cell? ⟨w.heap.size, 3, none⟩ = some (.int .i64 m.f) := M8.out.cell rfl; have q4 : w8.cell? ⟨w.heap.size, 4, none⟩ = some (.int .i64 m.d) := M8.out.cell rfl; clear v7 v8 b7 b8 o8 s7 s8 O6 M7 GA7 GL7 GE7 B7)
    | (refine wpList_galloc 32 (encn nz none 0 0) zero32 rfl rfl ?_; intro w7 v7 b7 s7; have M7 := hid (M6.out.below b7 LM.out); have GA7 := hid (GA6.out.below b7 LA.out); have GL7 := hid (GL6.out.below b7 LL.out); have GE7 := hid (GE6.out.below b7 LE.out); have B7 := hid (B6.out.trans (b7.mono B6.out.size)); have L6 := hid B6.out.size; clear M6 GA6 GL6 GE6 B6)
    | (go_at_call 70; (with_reducible refine (HN.out w5 B5.out).mono ?_); rintro e w6 ⟨A6, c6, rfl, own6, b6⟩; have M6 := hid (M5.out.below b6 (M5.out.lt (by show 0 < 5; omega))); have GA6 := hid (GA5.out.below b6 (GA5.out.lt (by show 0 < 14; omega))); have GL6 := hid (GL5.out.below b6 (GL5.out.lt (by show 0 < 1; omega))); have GE6 := hid (GE5.out.below b6 (GE5.out.lt (by show 0 < 1; omega))); have O6 := hid (own6.base_le B5.out.size); have B6 := hid (B5.out.trans (b6.mono B5.out.size)); have LM := hid (M6.out.lt (by show 0 < 5; omega)); have LA := hid (GA6.out.lt (by show 0 < 14; omega)); have LL := hid (GL6.out.lt (by show 0 < 1; omega)); have LE := hid (GE6.out.lt (by show 0 < 1; omega)); have A5 := hid (fun b (h : ob A6 = some b) => own6.lt h); clear own6 b6 M5 GA5 GL5 GE5 B5)
    | (refine wpList_ln (z := x) (A := A) (n := n) (c := c) (.tmp 5) rfl rfl N5.out.1 rfl ?_)
    | (refine wpList_galloc1 38 (.int .i64 0) zero38 rfl rfl rfl ?_; intro w5 v5 b5 s5; have M5 := hid ((((v1.below b2 l1).below b3 (Nat.lt_of_lt_of_le l1 b2.size)).below b4 (Nat.lt_of_lt_of_le l1 (Nat.le_trans b2.size b3.size))).below b5 (Nat.lt_of_lt_of_le l1 (Nat.le_trans b2.size (Nat.le_trans b3.size b4.size)))); have N5 := hid (((v2.below b3 l2).below b4 (Nat.lt_of_lt_of_le l2 b3.size)).below b5 (Nat.lt_of_lt_of_le l2 (Nat.le_trans b3.size b4.size))); have GA5 := hid ((v3.below b4 l3).below b5 (Nat.lt_of_lt_of_le l3 b4.size)); have GL5 := hid (v4.below b5 l4); have GE5 := hid v5; have B5 := hid ((((b1.trans (b2.mono b1.size)).trans (b3.mono (Nat.le_trans b1.size b2.size))).trans (b4.mono (Nat.le_trans b1.size (Nat.le_trans b2.size b3.size)))).trans (b5.mono (Nat.le_trans b1.size (Nat.le_trans b2.size (Nat.le_trans b3.size b4.size))))); have D12 : Hid (w2.heap.size < w3.heap.size ∧ w3.heap.size < w4.heap.size ∧ w4.heap.size < w5.heap.size ∧ w.heap.size ≤ w2.heap.size) := hid ⟨l3, l4, v5.lt (by show 0 < 1; omega), Nat.le_trans b1.size b2.size⟩; clear v1 v2 v3 v4 v5 b1 b2 b3 b4 b5 s1 s2 s3 s4 s5 l1 l2 l3 l4)
    | (refine wpList_galloc1 37 (.slice none 0 0) zero37 rfl rfl rfl ?_; intro w4 v4 b4 s4; have l4 := v4.lt (by show 0 < 1; omega))
    | (refine wpList_galloc 32 (encn nz none 0 0) zero32 rfl rfl ?_; intro w3 v3 b3 s3; have l3 := v3.lt (by show 0 < 14; omega))
    | (refine wpList_gbox 32 (encn x A n c) rfl (.tmp 1) rfl rfl ?_; intro w2 v2 b2 s2; have l2 := v2.lt (by show 0 < 14; omega))
    | (refine wpList_gbox 23 (encm m) rfl (.tmp 0) rfl rfl ?_; intro w1 v1 b1 s1; have l1 := v1.lt (by show 0 < 5; omega)))
  have hge : w4.heap.size < w9.heap.size ∧ w3.heap.size < w9.heap.size ∧ w2.heap.size < w9.heap.size := by have := L69.out; have := LA.out; have := LL.out; have := LE.out; exact ⟨by omega, by omega, by omega⟩
  have hgK : ∀ k, (k = w2.heap.size ∨ k = w3.heap.size ∨ k = w4.heap.size) → (k < w9.heap.size ∧ ob A6 ≠ some k) := fun k h => ⟨by omega, fun e => by have := A5.out _ e; have := D12.out; omega⟩
  have hA : ∀ k, (k = w2.heap.size ∨ k = w3.heap.size ∨ k = w4.heap.size) → ob A ≠ some k := fun k h e => (U12.out.sa k e).1 (hgK k h)
  have hB : ∀ k, (k = w2.heap.size ∨ k = w3.heap.size ∨ k = w4.heap.size) → ob B ≠ some k := fun k h e => (U12.out.sb k e).1 (hgK k h)
  have d32 : w3.heap.size ≠ w2.heap.size ∧ w4.heap.size ≠ w2.heap.size ∧ w4.heap.size ≠ w3.heap.size ∧ w6.heap.size ≠ w2.heap.size ∧ w6.heap.size ≠ w3.heap.size ∧ w6.heap.size ≠ w4.heap.size := by have := D12.out; have := LA.out; have := LL.out; have := LE.out; exact ⟨by omega, by omega, by omega, by omega, by omega, by omega⟩
  have V13 : Var w13 w9.heap.size (encw y A n' c' m B k' d') := U12.out.var.other o13 (by omega)
  have E13 : Var w13 w4.heap.size [.int .i64 0] := v13
  have A13 := GA12.out.other o13 (Ne.symm d32.2.1)
  have L13 := GL12.out.other o13 (Ne.symm d32.2.2.1)
  have W13 := GW12.out.other o13 d32.2.2.2.2.2
  have D13 := U12.out.devs.oth o13 (hA _ (.inr (.inr rfl)))
  have C13 := U12.out.acts.oth o13 (hB _ (.inr (.inr rfl)))
  have B13 : Below w.heap.size w w13 := (B11.out.trans (K12.out.below KW.out)).trans (b13.mono (by have := D12.out; omega))
  have P13 := hid (And.intro V13.drew (And.intro E13.drew (And.intro A13.drew (And.intro L13.drew (And.intro W13.drew (And.intro D13.drew (And.intro C13.drew B13.drew)))))))
  have HA := hid hA
  have HB := hid hB
  have HG := hid hge
  have HD := hid d32
  have GB1 : Hid (w.heap.size ≤ w2.heap.size) := hid D12.out.2.2.2
  have GB2 : Hid (w.heap.size ≤ w3.heap.size) := hid (by have := D12.out; omega)
  have GB3 : Hid (w.heap.size ≤ w4.heap.size) := hid (by have := D12.out; omega)
  clear V13 E13 A13 L13 W13 D13 C13 B13 hA hB hge d32 hgK v13 b13 o13 s13
  clear HN HK HC D12 A5 LM LA LL LE L6 L69 W8 O8 M8 GA8 GL8 GE8 B8 W9 O9 M9 GA9 GL9 GE9 B9 WK11 KB KW B911 B11 GA12 GL12 GE12 GW12 K12 U12
  generalize w9.heap.size = g at *
  generalize w4.heap.size = ge at *
  generalize w3.heap.size = gl at *
  generalize w2.heap.size = ga at *
  generalize w6.heap.size = gw at *
  obtain ⟨V13, E13, A13, L13, W13, D13, C13, B13⟩ := P13.out
  have S1 : SD g ge y A n' c' B k' d' 0 w13.drew := SD.of V13 E13
  refine wp_region_held_drew (S := SD g ge y A n' c' B k' d' 0) (by kernel_rfl) S1 (fun _ => ?_)
  refine tk 0 (some 30) (.pointer (some ⟨g, 0, none⟩)) rfl rfl (by kernel_rfl) (by kernel_rfl) (by kernel_rfl) (putQ (by decide) (by decide) (by decide)) (.inl ⟨by rfl, fun _ _ => by go_simp⟩) S1 ?_
  simp only [Act.put, List.setIfInBounds_toArray, List.set_cons_zero, List.set_cons_succ]
  refine tk 1 (some 31) (nv y A n' c') rfl rfl (by kernel_rfl) (by kernel_rfl) (by kernel_rfl) (putQ (by decide) (by decide) (by decide)) (yls 32 (encn y A n' c') rfl rfl (fun w h => h.1) Tryz.underlying32 rfl size32 rfl) S1 ?_
  simp only [Act.put, List.setIfInBounds_toArray, List.set_cons_zero, List.set_cons_succ]
  refine tk 2 (some 32) (.pointer (some ⟨g, 19, none⟩)) rfl rfl (by kernel_rfl) (by kernel_rfl) (by kernel_rfl) (putQ (by decide) (by decide) (by decide)) (.inl ⟨by rfl, fun _ _ => by go_simp⟩) S1 ?_
  simp only [Act.put, List.setIfInBounds_toArray, List.set_cons_zero, List.set_cons_succ]
  refine tk 3 (some 33) (.slice B k' d') rfl rfl (by kernel_rfl) (by kernel_rfl) (by kernel_rfl) (putQ (by decide) (by decide) (by decide)) (yl1 37 (p := ⟨g, 19, none⟩) (v := .slice B k' d') rfl rfl Tryz.isAgg37 (fun w h => h.2.1) rfl) S1 ?_
  simp only [Act.put, List.setIfInBounds_toArray, List.set_cons_zero, List.set_cons_succ]
  refine tk 4 (some 34) (.int .i64 0) rfl rfl (by kernel_rfl) (by kernel_rfl) (by kernel_rfl) (putQ (by decide) (by decide) (by decide)) (yl1 38 (p := ⟨ge, 0, none⟩) (v := .int .i64 0) rfl rfl Tryz.isAgg38 (fun w h => h.2.2) rfl) S1 ?_
  simp only [Act.put, List.setIfInBounds_toArray, List.set_cons_zero, List.set_cons_succ]
  refine rd_gst 5 0 (encn y A n' c') 32 (by kernel_rfl) rfl rfl rfl rfl rfl A13 (by show 0 + 14 ≤ 14; omega) size32 (encn_one _ _ _ _) rfl ?_
  intro w14 v14 b14 o14 s14
  have A14 : Var w14 ga (encn y A n' c') := v14
  have V14 := V13.other o14 (by have := HG.out; omega)
  have E14 := E13.other o14 HD.out.2.1
  have L14 := L13.other o14 HD.out.1
  have W14 := W13.other o14 HD.out.2.2.2.1
  have D14 := D13.oth o14 (HA.out _ (.inl rfl))
  have C14 := C13.oth o14 (HB.out _ (.inl rfl))
  refine ⟨SD.of V14 E14, ?_⟩
  refine rd_gst1 6 0 (.slice B k' d') 37 (by kernel_rfl) rfl rfl rfl rfl rfl L14 (by show 0 < 1; omega) (by kernel_rfl) rfl rfl rfl ?_
  intro w15 v15 b15 o15 s15
  have L15 : Var w15 gl [.slice B k' d'] := v15
  have V15 := V14.other o15 (by have := HG.out; omega)
  have E15 := E14.other o15 HD.out.2.2.1
  have A15 := A14.other o15 (Ne.symm HD.out.1)
  have W15 := W14.other o15 HD.out.2.2.2.2.1
  have D15 := D14.oth o15 (HA.out _ (.inr (.inl rfl)))
  have C15 := C14.oth o15 (HB.out _ (.inr (.inl rfl)))
  refine ⟨SD.of V15 E15, ?_⟩
  refine rd_gst1 7 0 (.int .i64 0) 38 (by kernel_rfl) rfl rfl rfl rfl rfl E15 (by show 0 < 1; omega) (by kernel_rfl) rfl rfl rfl ?_
  intro w16 v16 b16 o16 s16
  have E16 : Var w16 ge [.int .i64 0] := v16
  have V16 := V15.other o16 (by have := HG.out; omega)
  have A16 := A15.other o16 (Ne.symm HD.out.2.1)
  have L16 := L15.other o16 (Ne.symm HD.out.2.2.1)
  have W16 := W15.other o16 HD.out.2.2.2.2.2
  have D16 := D15.oth o16 (HA.out _ (.inr (.inr rfl)))
  have C16 := C15.oth o16 (HB.out _ (.inr (.inr rfl)))
  refine ⟨SD.of V16 E16, ?_⟩
  refine wpAnyH_done (by kernel_rfl) ?_ _
  have P16 := hid (And.intro E16 (And.intro A16 (And.intro L16 (And.intro W16 (And.intro D16 (And.intro C16 (((B13.trans (b14.mono GB1.out)).trans (b15.mono GB2.out)).trans (b16.mono GB3.out))))))))
  clear V13 E13 A13 L13 W13 D13 C13 B13 S1 A14 V14 E14 L14 W14 D14 C14 L15 V15 E15 A15 W15 D15 C15 E16 V16 A16 L16 W16 D16 C16 v14 b14 o14 s14 v15 b15 o15 s15 v16 b16 o16 s16 P13
  go_wp2_with fail
  obtain ⟨E16, A16, L16, W16, D16, C16, B16⟩ := P16.out
  refine leaves_cons (f := 71) (args := #[.pointer (some ⟨ge, 0, none⟩), .pointer (some ⟨gw, 0, none⟩), .pointer (some ⟨ga, 0, none⟩), .pointer (some ⟨gl, 0, none⟩)]) (by simp) (by simp [go_sem]) ?_
  refine (doD_ok ge gw ga gl .returning _ E16.one).mono ?_
  rintro e u' wz ⟨rfl, rfl, rfl⟩
  have hn' : n' = y.dv.length := by have := D16.len; simp [sv] at this; omega
  exact ⟨_, results_3c Tryz.results29 _ rfl rfl rfl A16.1 rfl L16.one E16.one, A, n', c', B, k', d', rfl, hn', fun _ => D16, fun _ => T9.Own.row D16, C16, B16⟩
set_option maxRecDepth 100000 in
set_option maxHeartbeats 4000000 in
theorem do37_err (x : Nd) (m : Md) (A : Option Addr) (n c BB : Nat) (may : Bool) (cn : Nat) (w : World) (hr : T9.Row w BB A n (sv x.dv)) (hB : BB ≤ w.heap.size) (hn : n ≤ 100) (hm : may = true) (hE : nodeE m x = 0) (y : Nd) (l : List Ac) (E : Int) (hE2 : ¬ E = 0)
    (HC : ∀ (K : Nat → Prop) (base g : Nat) (w1 : World), Wk w1 K base g x m [] → (∀ k, k < w.heap.size → K k) → Below w.heap.size w w1 → Calls Tryz.prog 37 #[.pointer (some ⟨g, 0, none⟩), .pointer (some ⟨cn, 0, none⟩)] w1 (RetW K base g y m l (.int .i64 E) w1)) :
    Calls Tryz.prog 29 #[mv m, nv x A n c, .bool may, .func (.func 37) #[] #[.pointer (some ⟨cn, 0, none⟩)]] w (RetD w.heap.size x [] E False (x.dv = []) w) := by
  subst hm
  have HE2 := hid hE2
  have hmf : ∀ (fn : Fn) (first cap : Array Value) (w : World), (Instr.makeFunc fn first cap).run Tryz.prog w = .ok (.func fn first cap) w := fun _ _ _ _ => rfl
  have hl : Hid (n = x.dv.length) := hid (by have := hr.1; simp [sv] at this; omega)
  have HN := hid (fun (w5 : World) (k : Below w.heap.size w w5) => own_any x A n c BB w5 (hr.below (k.mono hB)) (Nat.le_trans hB k.size) hn)
  have HK : Hid (∀ (w8 : World) (A6 : Option Addr) (c6 : Nat), OwnR w8 w.heap.size 2 1 A6 n c6 (sv x.dv) → Calls Tryz.prog 20 #[.agg #[.int .i64 m.n, .int .i64 m.s, .int .i64 m.l, .int .i64 m.f, .int .i64 m.d], .agg #[.int .i64 x.id, .int .i64 x.ph, .int .u64 x.sl, .int .i64 x.st, .int .i64 x.o.p, .int .i64 x.o.d, .int .i64 x.o.r, .int .i64 x.co, .int .u16 (x.mb : Int), .int .i64 x.t.g, .int .i64 x.t.b, .slice A6 n c6, .bool x.se, .int .i64 x.vd]] w8 fun e w' => e = .returned (.int .i64 0) ∧ Below w8.heap.size w8 w') := hid (fun w8 A6 c6 h => by have hf := ncheck_any x m A6 n c6 w8.heap.size w8 (T9.Own.row h) (Nat.le_refl _) (by omega); rw [hE] at hf; exact hf)
  have HC := hid HC
  clear hr hB hn hE hE2
  go_enter_defers Tryz.func29, Tryz.ntmps29
  go_wp2_with (first
    | (refine wpList_gst1 38 (.int .i64 E) rfl (.tmp 10) (.tmp 29) rfl rfl rfl GE12.out (by show 0 < 1; omega) (by kernel_rfl) rfl rfl ?_; intro w13 v13 b13 o13 s13)
    | (go_at_call 37; (with_reducible refine (HC.out _ w.heap.size w9.heap.size w11 WK11.out KW.out B11.out).mono ?_); rintro e w12 ⟨rfl, W12, k12⟩; have GA12 := hid (GA9.out.same ((k12.block _ ⟨by have := L69.out; have := LM.out; have := LA.out; have := LL.out; have := LE.out; omega, fun e => by have := A5.out _ e; have := D12.out; omega⟩).trans (B911.out.block _ (by have := L69.out; have := LM.out; have := LA.out; have := LL.out; have := LE.out; omega)))); have GL12 := hid (GL9.out.same ((k12.block _ ⟨by have := L69.out; have := LM.out; have := LA.out; have := LL.out; have := LE.out; omega, fun e => by have := A5.out _ e; have := D12.out; omega⟩).trans (B911.out.block _ (by have := L69.out; have := LM.out; have := LA.out; have := LL.out; have := LE.out; omega)))); have GE12 := hid (GE9.out.same ((k12.block _ ⟨by have := L69.out; have := LM.out; have := LA.out; have := LL.out; have := LE.out; omega, fun e => by have := A5.out _ e; have := D12.out; omega⟩).trans (B911.out.block _ (by have := L69.out; have := LM.out; have := LA.out; have := LL.out; have := LE.out; omega)))); have GW12 := hid (W9.out.same ((k12.block _ ⟨by have := L69.out; omega, fun e => by have := A5.out _ e; have := D12.out; omega⟩).trans (B911.out.block _ (by have := L69.out; omega)))); have K12 := hid k12; obtain ⟨A, n', c', B, k', d', U12⟩ := W12; have U12 := hid U12)
    | (refine wpList_gst 71 (encw x A6 n c6 m none 0 0) rfl (.tmp 12) (.tmp 27) rfl rfl rfl v10 (by show 0 + 20 ≤ 20; omega) size71 (encw_one _ _ _ _ _ _ _ _) ?_; intro w11 v11 b11 o11 s11; have V11 : Hid (Var w11 w9.heap.size (encw x A6 n c6 m none 0 0)) := hid v11; have B911 : Hid (Below w9.heap.size w9 w11) := hid (b10.trans b11); have O11 : Hid (OwnR w11 w.heap.size 2 1 A6 n c6 (sv x.dv)) := hid (O9.out.below B911.out); have KB : Hid (∀ k, (k < w9.heap.size ∧ ob A6 ≠ some k) → k < w11.heap.size) := hid (fun k h => Nat.lt_of_lt_of_le h.1 B911.out.size); have WK11 : Hid (Wk w11 (fun k => k < w9.heap.size ∧ ob A6 ≠ some k) w.heap.size w9.heap.size x m []) := hid ⟨A6, n, c6, none, 0, 0, V11.out, O11.out, OwnR.nil _ _ _ _, B9.out.size, fun h => absurd h.1 (Nat.lt_irrefl _), fun b hb => ⟨fun h => h.2 hb, by have := (O9.out.lt hb).2; omega, fun h => (by cases h)⟩, (fun b hb => by cases hb), KB.out, by have := B9.out.size; have := B911.out.size; omega⟩; have KW : Hid (∀ k, k < w.heap.size → (k < w9.heap.size ∧ ob A6 ≠ some k)) := hid (fun k hk => ⟨by have := B9.out.size; omega, fun e => by have := (A5.out _ e).1; have := D12.out; omega⟩); have B11 := hid (B9.out.trans (B911.out.mono B9.out.size)); clear v10 v11 b10 b11 o11 s10 s11 V11 O11)
    | (refine wpList_galloc 71 (encw nz none 0 0 mz none 0 0) zero71 rfl rfl ?_; intro w10 v10 b10 s10)
    | (refine wpList_gld 23 [.int .i64 m.n, .int .i64 m.s, .int .i64 m.l, .int .i64 m.f, .int .i64 m.d] (.tmp 4) rfl rfl M9.out.1 Tryz.underlying23 rfl size23 rfl ?_)
    | (refine wpList_gld 32 [.int .i64 x.id, .int .i64 x.ph, .int .u64 x.sl, .int .i64 x.st, .int .i64 x.o.p, .int .i64 x.o.d, .int .i64 x.o.r, .int .i64 x.co, .int .u16 (x.mb : Int), .int .i64 x.t.g, .int .i64 x.t.b, .slice A6 n c6, .bool x.se, .int .i64 x.vd] (.tmp 11) rfl rfl W9.out.1 Tryz.underlying32 rfl size32 rfl ?_)
    | (go_at_call 20; (with_reducible refine (HK.out w8 A6 c6 O8.out).mono ?_); rintro e w9 ⟨rfl, b9⟩; have W9 := hid (W8.out.below b9 (W8.out.lt (by show 0 < 14; omega))); have O9 := hid (O8.out.below b9); have M9 := hid (M8.out.below b9 (M8.out.lt (by show 0 < 5; omega))); have GA9 := hid (GA8.out.below b9 (GA8.out.lt (by show 0 < 14; omega))); have GL9 := hid (GL8.out.below b9 (GL8.out.lt (by show 0 < 1; omega))); have GE9 := hid (GE8.out.below b9 (GE8.out.lt (by show 0 < 1; omega))); have B9 := hid (B8.out.trans (b9.mono B8.out.size)); have L69 : Hid (w6.heap.size < w9.heap.size) := hid (W9.out.lt (by show 0 < 14; omega)); clear b9)
    | (refine wpList_gst 32 (encn x A6 n c6) rfl (.tmp 11) (.tmp 14) rfl rfl rfl v7 (by show 0 + 14 ≤ 14; omega) size32 (encn_one _ _ _ _) ?_; intro w8 v8 b8 o8 s8; have W8 : Hid (Var w8 w6.heap.size (encn x A6 n c6)) := hid v8; have O8 := hid ((O6.out.below b7).oth o8 (fun e => by have := (O6.out.lt e).2; omega)); have M8 := hid (M7.out.below b8 LM.out); have GA8 := hid (GA7.out.below b8 LA.out); have GL8 := hid (GL7.out.below b8 LL.out); have GE8 := hid (GE7.out.below b8 LE.out); have B8 := hid (B7.out.trans (b8.mono L6.out)); have p0 : w8.cell? ⟨w6.heap.size, 0, none⟩ = some (.int .i64 x.id) := W8.out.cell rfl; have p1 : w8.cell? ⟨w6.heap.size, 1, none⟩ = some (.int .i64 x.ph) := W8.out.cell rfl; have p2 : w8.cell? ⟨w6.heap.size, 2, none⟩ = some (.int .u64 x.sl) := W8.out.cell rfl; have p3 : w8.cell? ⟨w6.heap.size, 3, none⟩ = some (.int .i64 x.st) := W8.out.cell rfl; have p4 : w8.cell? ⟨w6.heap.size, 4, none⟩ = some (.int .i64 x.o.p) := W8.out.cell rfl; have p5 : w8.cell? ⟨w6.heap.size, 5, none⟩ = some (.int .i64 x.o.d) := W8.out.cell rfl; have p6 : w8.cell? ⟨w6.heap.size, 6, none⟩ = some (.int .i64 x.o.r) := W8.out.cell rfl; have p7 : w8.cell? ⟨w6.heap.size, 7, none⟩ = some (.int .i64 x.co) := W8.out.cell rfl; have p8 : w8.cell? ⟨w6.heap.size, 8, none⟩ = some (.int .u16 (x.mb : Int)) := W8.out.cell rfl; have p9 : w8.cell? ⟨w6.heap.size, 9, none⟩ = some (.int .i64 x.t.g) := W8.out.cell rfl; have p10 : w8.cell? ⟨w6.heap.size, 10, none⟩ = some (.int .i64 x.t.b) := W8.out.cell rfl; have p11 : w8.cell? ⟨w6.heap.size, 11, none⟩ = some (.slice A6 n c6) := W8.out.cell rfl; have p12 : w8.cell? ⟨w6.heap.size, 12, none⟩ = some (.bool x.se) := W8.out.cell rfl; have p13 : w8.cell? ⟨w6.heap.size, 13, none⟩ = some (.int .i64 x.vd) := W8.out.cell rfl; have q0 : w8.cell? ⟨w.heap.size, 0, none⟩ = some (.int .i64 m.n) := M8.out.cell rfl; have q1 : w8.cell? ⟨w.heap.size, 1, none⟩ = some (.int .i64 m.s) := M8.out.cell rfl; have q2 : w8.cell? ⟨w.heap.size, 2, none⟩ = some (.int .i64 m.l) := M8.out.cell rfl; have q3 : w8.cell? ⟨w.heap.size, 3, none⟩ = some (.int .i64 m.f) := M8.out.cell rfl; have q4 : w8.cell? ⟨w.heap.size, 4, none⟩ = some (.int .i64 m.d) := M8.out.cell rfl; clear v7 v8 b7 b8 o8 s7 s8 O6 M7 GA7 GL7 GE7 B7)
    | (refine wpList_galloc 32 (encn nz none 0 0) zero32 rfl rfl ?_; intro w7 v7 b7 s7; have M7 := hid (M6.out.below b7 LM.out); have GA7 := hid (GA6.out.below b7 LA.out); have GL7 := hid (GL6.out.below b7 LL.out); have GE7 := hid (GE6.out.below b7 LE.out); have B7 := hid (B6.out.trans (b7.mono B6.out.size)); have L6 := hid B6.out.size; clear M6 GA6 GL6 GE6 B6)
    | (go_at_call 70; (with_reducible refine (HN.out w5 B5.out).mono ?_); rintro e w6 ⟨A6, c6, rfl, own6, b6⟩; have M6 := hid (M5.out.below b6 (M5.out.lt (by show 0 < 5; omega))); have GA6 := hid (GA5.out.below b6 (GA5.out.lt (by show 0 < 14; omega))); have GL6 := hid (GL5.out.below b6 (GL5.out.lt (by show 0 < 1; omega))); have GE6 := hid (GE5.out.below b6 (GE5.out.lt (by show 0 < 1; omega))); have O6 := hid (own6.base_le B5.out.size); have B6 := hid (B5.out.trans (b6.mono B5.out.size)); have LM := hid (M6.out.lt (by show 0 < 5; omega)); have LA := hid (GA6.out.lt (by show 0 < 14; omega)); have LL := hid (GL6.out.lt (by show 0 < 1; omega)); have LE := hid (GE6.out.lt (by show 0 < 1; omega)); have A5 := hid (fun b (h : ob A6 = some b) => own6.lt h); clear own6 b6 M5 GA5 GL5 GE5 B5)
    | (refine wpList_ln (z := x) (A := A) (n := n) (c := c) (.tmp 5) rfl rfl N5.out.1 rfl ?_)
    | (refine wpList_galloc1 38 (.int .i64 0) zero38 rfl rfl rfl ?_; intro w5 v5 b5 s5; have M5 := hid ((((v1.below b2 l1).below b3 (Nat.lt_of_lt_of_le l1 b2.size)).below b4 (Nat.lt_of_lt_of_le l1 (Nat.le_trans b2.size b3.size))).below b5 (Nat.lt_of_lt_of_le l1 (Nat.le_trans b2.size (Nat.le_trans b3.size b4.size)))); have N5 := hid (((v2.below b3 l2).below b4 (Nat.lt_of_lt_of_le l2 b3.size)).below b5 (Nat.lt_of_lt_of_le l2 (Nat.le_trans b3.size b4.size))); have GA5 := hid ((v3.below b4 l3).below b5 (Nat.lt_of_lt_of_le l3 b4.size)); have GL5 := hid (v4.below b5 l4); have GE5 := hid v5; have B5 := hid ((((b1.trans (b2.mono b1.size)).trans (b3.mono (Nat.le_trans b1.size b2.size))).trans (b4.mono (Nat.le_trans b1.size (Nat.le_trans b2.size b3.size)))).trans (b5.mono (Nat.le_trans b1.size (Nat.le_trans b2.size (Nat.le_trans b3.size b4.size))))); have D12 : Hid (w2.heap.size < w3.heap.size ∧ w3.heap.size < w4.heap.size ∧ w4.heap.size < w5.heap.size ∧ w.heap.size ≤ w2.heap.size) := hid ⟨l3, l4, v5.lt (by show 0 < 1; omega), Nat.le_trans b1.size b2.size⟩; clear v1 v2 v3 v4 v5 b1 b2 b3 b4 b5 s1 s2 s3 s4 s5 l1 l2 l3 l4)
    | (refine wpList_galloc1 37 (.slice none 0 0) zero37 rfl rfl rfl ?_; intro w4 v4 b4 s4; have l4 := v4.lt (by show 0 < 1; omega))
    | (refine wpList_galloc 32 (encn nz none 0 0) zero32 rfl rfl ?_; intro w3 v3 b3 s3; have l3 := v3.lt (by show 0 < 14; omega))
    | (refine wpList_gbox 32 (encn x A n c) rfl (.tmp 1) rfl rfl ?_; intro w2 v2 b2 s2; have l2 := v2.lt (by show 0 < 14; omega))
    | (refine wpList_gbox 23 (encm m) rfl (.tmp 0) rfl rfl ?_; intro w1 v1 b1 s1; have l1 := v1.lt (by show 0 < 5; omega)))
  have hge : w4.heap.size < w9.heap.size ∧ w3.heap.size < w9.heap.size ∧ w2.heap.size < w9.heap.size := by have := L69.out; have := LA.out; have := LL.out; have := LE.out; exact ⟨by omega, by omega, by omega⟩
  have hgK : ∀ k, (k = w2.heap.size ∨ k = w3.heap.size ∨ k = w4.heap.size) → (k < w9.heap.size ∧ ob A6 ≠ some k) := fun k h => ⟨by omega, fun e => by have := A5.out _ e; have := D12.out; omega⟩
  have hA : ∀ k, (k = w2.heap.size ∨ k = w3.heap.size ∨ k = w4.heap.size) → ob A ≠ some k := fun k h e => (U12.out.sa k e).1 (hgK k h)
  have hB : ∀ k, (k = w2.heap.size ∨ k = w3.heap.size ∨ k = w4.heap.size) → ob B ≠ some k := fun k h e => (U12.out.sb k e).1 (hgK k h)
  have d32 : w3.heap.size ≠ w2.heap.size ∧ w4.heap.size ≠ w2.heap.size ∧ w4.heap.size ≠ w3.heap.size ∧ w6.heap.size ≠ w2.heap.size ∧ w6.heap.size ≠ w3.heap.size ∧ w6.heap.size ≠ w4.heap.size := by have := D12.out; have := LA.out; have := LL.out; have := LE.out; exact ⟨by omega, by omega, by omega, by omega, by omega, by omega⟩
  have V13 : Var w13 w9.heap.size (encw y A n' c' m B k' d') := U12.out.var.other o13 (by omega)
  have E13 : Var w13 w4.heap.size [.int .i64 E] := v13
  have A13 := GA12.out.other o13 (Ne.symm d32.2.1)
  have L13 := GL12.out.other o13 (Ne.symm d32.2.2.1)
  have W13 := GW12.out.other o13 d32.2.2.2.2.2
  have D13 := U12.out.devs.oth o13 (hA _ (.inr (.inr rfl)))
  have C13 := U12.out.acts.oth o13 (hB _ (.inr (.inr rfl)))
  have B13 : Below w.heap.size w w13 := (B11.out.trans (K12.out.below KW.out)).trans (b13.mono (by have := D12.out; omega))
  have P13 := hid (And.intro V13.drew (And.intro E13.drew (And.intro A13.drew (And.intro L13.drew (And.intro W13.drew (And.intro D13.drew (And.intro C13.drew B13.drew)))))))
  have HA := hid hA
  have HB := hid hB
  have HG := hid hge
  have HD := hid d32
  have GB1 : Hid (w.heap.size ≤ w2.heap.size) := hid D12.out.2.2.2
  have GB2 : Hid (w.heap.size ≤ w3.heap.size) := hid (by have := D12.out; omega)
  have GB3 : Hid (w.heap.size ≤ w4.heap.size) := hid (by have := D12.out; omega)
  clear V13 E13 A13 L13 W13 D13 C13 B13 hA hB hge d32 hgK v13 b13 o13 s13
  clear HN HK HC D12 A5 LM LA LL LE L6 L69 W8 O8 M8 GA8 GL8 GE8 B8 W9 O9 M9 GA9 GL9 GE9 B9 WK11 KB KW B911 B11 GA12 GL12 GE12 GW12 K12 U12
  generalize w9.heap.size = g at *
  generalize w4.heap.size = ge at *
  generalize w3.heap.size = gl at *
  generalize w2.heap.size = ga at *
  generalize w6.heap.size = gw at *
  obtain ⟨V13, E13, A13, L13, W13, D13, C13, B13⟩ := P13.out
  have S1 : SD g ge y A n' c' B k' d' E w13.drew := SD.of V13 E13
  refine wp_region_held_drew (S := SD g ge y A n' c' B k' d' E) (by kernel_rfl) S1 (fun _ => ?_)
  refine tk 0 (some 30) (.pointer (some ⟨g, 0, none⟩)) rfl rfl (by kernel_rfl) (by kernel_rfl) (by kernel_rfl) (putQ (by decide) (by decide) (by decide)) (.inl ⟨by rfl, fun _ _ => by go_simp⟩) S1 ?_
  simp only [Act.put, List.setIfInBounds_toArray, List.set_cons_zero, List.set_cons_succ]
  refine tk 1 (some 31) (nv y A n' c') rfl rfl (by kernel_rfl) (by kernel_rfl) (by kernel_rfl) (putQ (by decide) (by decide) (by decide)) (yls 32 (encn y A n' c') rfl rfl (fun w h => h.1) Tryz.underlying32 rfl size32 rfl) S1 ?_
  simp only [Act.put, List.setIfInBounds_toArray, List.set_cons_zero, List.set_cons_succ]
  refine tk 2 (some 32) (.pointer (some ⟨g, 19, none⟩)) rfl rfl (by kernel_rfl) (by kernel_rfl) (by kernel_rfl) (putQ (by decide) (by decide) (by decide)) (.inl ⟨by rfl, fun _ _ => by go_simp⟩) S1 ?_
  simp only [Act.put, List.setIfInBounds_toArray, List.set_cons_zero, List.set_cons_succ]
  refine tk 3 (some 33) (.slice B k' d') rfl rfl (by kernel_rfl) (by kernel_rfl) (by kernel_rfl) (putQ (by decide) (by decide) (by decide)) (yl1 37 (p := ⟨g, 19, none⟩) (v := .slice B k' d') rfl rfl Tryz.isAgg37 (fun w h => h.2.1) rfl) S1 ?_
  simp only [Act.put, List.setIfInBounds_toArray, List.set_cons_zero, List.set_cons_succ]
  refine tk 4 (some 34) (.int .i64 E) rfl rfl (by kernel_rfl) (by kernel_rfl) (by kernel_rfl) (putQ (by decide) (by decide) (by decide)) (yl1 38 (p := ⟨ge, 0, none⟩) (v := .int .i64 E) rfl rfl Tryz.isAgg38 (fun w h => h.2.2) rfl) S1 ?_
  simp only [Act.put, List.setIfInBounds_toArray, List.set_cons_zero, List.set_cons_succ]
  refine rd_gst 5 0 (encn y A n' c') 32 (by kernel_rfl) rfl rfl rfl rfl rfl A13 (by show 0 + 14 ≤ 14; omega) size32 (encn_one _ _ _ _) rfl ?_
  intro w14 v14 b14 o14 s14
  have A14 : Var w14 ga (encn y A n' c') := v14
  have V14 := V13.other o14 (by have := HG.out; omega)
  have E14 := E13.other o14 HD.out.2.1
  have L14 := L13.other o14 HD.out.1
  have W14 := W13.other o14 HD.out.2.2.2.1
  have D14 := D13.oth o14 (HA.out _ (.inl rfl))
  have C14 := C13.oth o14 (HB.out _ (.inl rfl))
  refine ⟨SD.of V14 E14, ?_⟩
  refine rd_gst1 6 0 (.slice B k' d') 37 (by kernel_rfl) rfl rfl rfl rfl rfl L14 (by show 0 < 1; omega) (by kernel_rfl) rfl rfl rfl ?_
  intro w15 v15 b15 o15 s15
  have L15 : Var w15 gl [.slice B k' d'] := v15
  have V15 := V14.other o15 (by have := HG.out; omega)
  have E15 := E14.other o15 HD.out.2.2.1
  have A15 := A14.other o15 (Ne.symm HD.out.1)
  have W15 := W14.other o15 HD.out.2.2.2.2.1
  have D15 := D14.oth o15 (HA.out _ (.inr (.inl rfl)))
  have C15 := C14.oth o15 (HB.out _ (.inr (.inl rfl)))
  refine ⟨SD.of V15 E15, ?_⟩
  refine rd_gst1 7 0 (.int .i64 E) 38 (by kernel_rfl) rfl rfl rfl rfl rfl E15 (by show 0 < 1; omega) (by kernel_rfl) rfl rfl rfl ?_
  intro w16 v16 b16 o16 s16
  have E16 : Var w16 ge [.int .i64 E] := v16
  have V16 := V15.other o16 (by have := HG.out; omega)
  have A16 := A15.other o16 (Ne.symm HD.out.2.1)
  have L16 := L15.other o16 (Ne.symm HD.out.2.2.1)
  have W16 := W15.other o16 HD.out.2.2.2.2.2
  have D16 := D15.oth o16 (HA.out _ (.inr (.inr rfl)))
  have C16 := C15.oth o16 (HB.out _ (.inr (.inr rfl)))
  refine ⟨SD.of V16 E16, ?_⟩
  refine wpAnyH_done (by kernel_rfl) ?_ _
  have P16 := hid (And.intro E16 (And.intro A16 (And.intro L16 (And.intro W16 (And.intro D16 (And.intro C16 (((B13.trans (b14.mono GB1.out)).trans (b15.mono GB2.out)).trans (b16.mono GB3.out))))))))
  clear V13 E13 A13 L13 W13 D13 C13 B13 S1 A14 V14 E14 L14 W14 D14 C14 L15 V15 E15 A15 W15 D15 C15 E16 V16 A16 L16 W16 D16 C16 v14 b14 o14 s14 v15 b15 o15 s15 v16 b16 o16 s16 P13
  go_wp2_with fail
  obtain ⟨E16, A16, L16, W16, D16, C16, B16⟩ := P16.out
  refine leaves_cons (f := 71) (args := #[.pointer (some ⟨ge, 0, none⟩), .pointer (some ⟨gw, 0, none⟩), .pointer (some ⟨ga, 0, none⟩), .pointer (some ⟨gl, 0, none⟩)]) (by simp) (by simp [go_sem]) ?_
  refine (doD_err ge gw ga gl E x A6 n c6 _ _ .returning _ E16.one HE2.out W16.1 A16 rfl L16 HD.out.1).mono ?_
  rintro e u' wz ⟨rfl, rfl, va, vl, kz⟩
  have hE : Var wz ge [.int .i64 E] := E16.same (kz.block _ ⟨HD.out.2.1, HD.out.2.2.1⟩)
  refine ⟨_, results_3c Tryz.results29 _ rfl rfl rfl va.1 rfl vl.one hE.one, A6, n, c6, none, 0, 0, rfl, hl.out, fun h => h.elim, fun h => ?_, OwnR.nil _ _ _ _, B16.trans (kz.below fun k hk => ⟨by have := GB1.out; omega, by have := GB2.out; omega⟩)⟩
  have h0 : n = 0 := by have := hl.out; rw [h] at this; exact this
  subst h0
  rw [h]
  exact T9.Row.nil _ _ _
end Go.Proofs.YtlgedfljmgedfaaGreat
