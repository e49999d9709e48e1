/-
  Texts NZb of this seat, as far as they are used.
-/
import Derived.Test.YtlgedfljmgedfaaGreatJ34
namespace Go.Proofs.YtlgedfljmgedfaaGreat
open Go Go.RowKit
open M10 (hid Md encm mv mz Oth range_keep there_keep range_other there_other setCells_oth setCells_size there_set Ty enct tv tz Fr encf fv fz)
open O6 (Oc enco ov oz)
open T9 (sv)
theorem ownR_kept {w w' : World} {K : Nat → Prop} {base size n c : Nat} {e : TypeId} {A : Option Addr} {vs : List Value} (h : OwnR w base e size A n c vs) (k : Kept K w w') (hK : ∀ b, ob A = some b → K b) : OwnR w' base e size A n c vs := by
  refine ⟨h.1, ?_⟩
  rcases h.2 with h0 | ⟨b, cap, cur, hv, hb, hh, r⟩
  · exact .inl h0
  · refine .inr ⟨b, cap, cur, hv, hb, (k.block b (hK b ?_)).trans hh, r⟩
    rw [← ob_of A n c, hv]; rfl
set_option maxRecDepth 100000 in
set_option maxHeartbeats 4000000 in
theorem do31_not (x : Nd) (m : Md) (A : Option Addr) (n c BB : Nat) (may : Bool) (cn : Nat) (w : World) (hr : T9.Row w BB A n (sv x.dv)) (hB : BB ≤ w.heap.size) (hn : n ≤ 100) (hm : may = false) :
    Calls Tryz.prog 29 #[mv m, nv x A n c, .bool may, .func (.func 31) #[] #[.pointer (some ⟨cn, 0, none⟩)]] w (RetD w.heap.size x [] 1 True True w) := by
  subst hm
  have hmf : ∀ (fn : Fn) (first cap : Array Value) (w : World), (Instr.makeFunc fn first cap).run Tryz.prog w = .ok (.func fn first cap) w := fun _ _ _ _ => rfl
  have hl : Hid (n = x.dv.length) := hid (by have := hr.1; simp [sv] at this; omega)
  have HN := hid (fun (w5 : World) (k : Below w.heap.size w w5) => own_any x A n c BB w5 (hr.below (k.mono hB)) (Nat.le_trans hB k.size) hn)
  clear hr hB hn
  go_enter_defers Tryz.func29, Tryz.ntmps29
  go_wp2_with (first
    | (refine wpList_gst1 38 (.int .i64 1) rfl (.tmp 10) (.const (.int .i64 1)) rfl rfl rfl (HE11.out) (by show 0 < 1; omega) (by kernel_rfl) rfl rfl ?_; intro w12 v12 b12 o12 s12)
    | (refine wpList_gst1 37 (.slice none 0 0) rfl (.tmp 9) (.const (.slice none 0 0)) rfl rfl rfl HL10.out (by show 0 < 1; omega) (by kernel_rfl) rfl rfl ?_; intro w11 v11 b11 o11 s11; have HL11 : Hid (Var w11 w3.heap.size [.slice none 0 0]) := hid v11; have HA11 := hid (HA10.out.other o11 (by have := D12.out; omega)); have HE11 := hid (HE10.out.other o11 (by have := D12.out; omega)); have HW11 := hid (HW10.out.other o11 NW2.out); have HO11 := hid (HO10.out.oth o11 (fun e => by have := (A5.out _ e).1; have := D12.out; omega)); have HB11 := hid (HB10.out.trans (b11.mono (by have := D12.out; omega))))
    | (refine wpList_gst 32 (encn x A6 n c6) rfl (.tmp 8) (.tmp 24) rfl rfl rfl GA8.out (by show 0 + 14 ≤ 14; omega) size32 (encn_one _ _ _ _) ?_; intro w10 v10 b10 o10 s10; have HA10 : Hid (Var w10 w2.heap.size (encn x A6 n c6)) := hid v10; have HL10 := hid (GL8.out.other o10 (by have := D12.out; omega)); have HE10 := hid (GE8.out.other o10 (by have := D12.out; omega)); have NW1 : Hid (w6.heap.size ≠ w2.heap.size) := hid (by have := LA.out; omega); have NW2 : Hid (w6.heap.size ≠ w3.heap.size) := hid (by have := LL.out; omega); have NW3 : Hid (w6.heap.size ≠ w4.heap.size) := hid (by have := LE.out; omega); have HW10 := hid (W8.out.other o10 NW1.out); have HO10 := hid (O8.out.oth o10 (fun e => by have := (A5.out _ e).1; have := D12.out; omega)); have HB10 := hid (B8.out.trans (b10.mono (by have := D12.out; omega))))
    | (refine wpList_ln (z := x) (A := A6) (n := n) (c := c6) (.tmp 11) rfl rfl W8.out.1 rfl ?_)
    | (refine wpList_gst 32 (encn x A6 n c6) rfl (.tmp 11) (.tmp 14) rfl rfl rfl v7 (by show 0 + 14 ≤ 14; omega) size32 (encn_one _ _ _ _) ?_; intro w8 v8 b8 o8 s8; have W8 : Hid (Var w8 w6.heap.size (encn x A6 n c6)) := hid v8; have O8 := hid ((O6.out.below b7).oth o8 (fun e => by have := (O6.out.lt e).2; omega)); have M8 := hid (M7.out.below b8 LM.out); have GA8 := hid (GA7.out.below b8 LA.out); have GL8 := hid (GL7.out.below b8 LL.out); have GE8 := hid (GE7.out.below b8 LE.out); have B8 := hid (B7.out.trans (b8.mono L6.out)); skip; clear v7 v8 b7 b8 o8 s7 s8 O6 M7 GA7 GL7 GE7 B7)
    | (refine wpList_galloc 32 (encn nz none 0 0) zero32 rfl rfl ?_; intro w7 v7 b7 s7; have M7 := hid (M6.out.below b7 LM.out); have GA7 := hid (GA6.out.below b7 LA.out); have GL7 := hid (GL6.out.below b7 LL.out); have GE7 := hid (GE6.out.below b7 LE.out); have B7 := hid (B6.out.trans (b7.mono B6.out.size)); have L6 := hid B6.out.size; clear M6 GA6 GL6 GE6 B6)
    | (go_at_call 70; (with_reducible refine (HN.out w5 B5.out).mono ?_); rintro e w6 ⟨A6, c6, rfl, own6, b6⟩; have M6 := hid (M5.out.below b6 (M5.out.lt (by show 0 < 5; omega))); have GA6 := hid (GA5.out.below b6 (GA5.out.lt (by show 0 < 14; omega))); have GL6 := hid (GL5.out.below b6 (GL5.out.lt (by show 0 < 1; omega))); have GE6 := hid (GE5.out.below b6 (GE5.out.lt (by show 0 < 1; omega))); have O6 := hid (own6.base_le B5.out.size); have B6 := hid (B5.out.trans (b6.mono B5.out.size)); have LM := hid (M6.out.lt (by show 0 < 5; omega)); have LA := hid (GA6.out.lt (by show 0 < 14; omega)); have LL := hid (GL6.out.lt (by show 0 < 1; omega)); have LE := hid (GE6.out.lt (by show 0 < 1; omega)); have A5 := hid (fun b (h : ob A6 = some b) => own6.lt h); clear own6 b6 M5 GA5 GL5 GE5 B5)
    | (refine wpList_ln (z := x) (A := A) (n := n) (c := c) (.tmp 5) rfl rfl N5.out.1 rfl ?_)
    | (refine wpList_galloc1 38 (.int .i64 0) zero38 rfl rfl rfl ?_; intro w5 v5 b5 s5; have M5 := hid ((((v1.below b2 l1).below b3 (Nat.lt_of_lt_of_le l1 b2.size)).below b4 (Nat.lt_of_lt_of_le l1 (Nat.le_trans b2.size b3.size))).below b5 (Nat.lt_of_lt_of_le l1 (Nat.le_trans b2.size (Nat.le_trans b3.size b4.size)))); have N5 := hid (((v2.below b3 l2).below b4 (Nat.lt_of_lt_of_le l2 b3.size)).below b5 (Nat.lt_of_lt_of_le l2 (Nat.le_trans b3.size b4.size))); have GA5 := hid ((v3.below b4 l3).below b5 (Nat.lt_of_lt_of_le l3 b4.size)); have GL5 := hid (v4.below b5 l4); have GE5 := hid v5; have B5 := hid ((((b1.trans (b2.mono b1.size)).trans (b3.mono (Nat.le_trans b1.size b2.size))).trans (b4.mono (Nat.le_trans b1.size (Nat.le_trans b2.size b3.size)))).trans (b5.mono (Nat.le_trans b1.size (Nat.le_trans b2.size (Nat.le_trans b3.size b4.size))))); have D12 : Hid (w2.heap.size < w3.heap.size ∧ w3.heap.size < w4.heap.size ∧ w4.heap.size < w5.heap.size ∧ w.heap.size ≤ w2.heap.size) := hid ⟨l3, l4, v5.lt (by show 0 < 1; omega), Nat.le_trans b1.size b2.size⟩; clear v1 v2 v3 v4 v5 b1 b2 b3 b4 b5 s1 s2 s3 s4 s5 l1 l2 l3 l4)
    | (refine wpList_galloc1 37 (.slice none 0 0) zero37 rfl rfl rfl ?_; intro w4 v4 b4 s4; have l4 := v4.lt (by show 0 < 1; omega))
    | (refine wpList_galloc 32 (encn nz none 0 0) zero32 rfl rfl ?_; intro w3 v3 b3 s3; have l3 := v3.lt (by show 0 < 14; omega))
    | (refine wpList_gbox 32 (encn x A n c) rfl (.tmp 1) rfl rfl ?_; intro w2 v2 b2 s2; have l2 := v2.lt (by show 0 < 14; omega))
    | (refine wpList_gbox 23 (encm m) rfl (.tmp 0) rfl rfl ?_; intro w1 v1 b1 s1; have l1 := v1.lt (by show 0 < 5; omega)))
  have HE12 : Hid (Var w12 w4.heap.size [.int .i64 1]) := hid v12
  have HA12 := hid (HA11.out.other o12 (by have := D12.out; omega))
  have HL12 := hid (HL11.out.other o12 (by have := D12.out; omega))
  have HW12 := hid (HW11.out.other o12 NW3.out)
  have HO12 := hid (HO11.out.oth o12 (fun e => by have := (A5.out _ e).1; have := D12.out; omega))
  have HB12 := hid (HB11.out.trans (b12.mono (by have := D12.out; omega)))
  refine leaves_cons (f := 71) (args := #[.pointer (some ⟨w4.heap.size, 0, none⟩), .pointer (some ⟨w6.heap.size, 0, none⟩), .pointer (some ⟨w2.heap.size, 0, none⟩), .pointer (some ⟨w3.heap.size, 0, none⟩)]) (by simp) (by simp [go_sem]) ?_
  refine (doD_err w4.heap.size w6.heap.size w2.heap.size w3.heap.size 1 x A6 n c6 _ _ .returning _ HE12.out.one (by omega) HW12.out.1 HA12.out rfl HL12.out (by have := D12.out; omega)).mono ?_
  rintro e u' wz ⟨rfl, rfl, va, vl, kz⟩
  have hE : Var wz w4.heap.size [.int .i64 1] := HE12.out.same (kz.block _ ⟨by have := D12.out; omega, by have := D12.out; omega⟩)
  refine ⟨_, results_3c Tryz.results29 _ rfl rfl rfl va.1 rfl vl.one hE.one, A6, n, c6, none, 0, 0, rfl, hl.out, fun _ => ?_, fun _ => T9.Own.row (base := w.heap.size) (e := 2) (c := c6) ?_, OwnR.nil _ _ _ _, ?_⟩
  · have ho : ∀ b, ob A6 = some b → b ≠ w2.heap.size ∧ b ≠ w3.heap.size := fun b e => by have := (A5.out _ e).1; have := D12.out; exact ⟨by omega, by omega⟩
    exact ownR_kept HO12.out kz ho
  · have ho : ∀ b, ob A6 = some b → b ≠ w2.heap.size ∧ b ≠ w3.heap.size := fun b e => by have := (A5.out _ e).1; have := D12.out; exact ⟨by omega, by omega⟩
    exact ownR_kept HO12.out kz ho
  · exact HB12.out.trans (kz.below fun k hk => ⟨by have := D12.out; omega, by have := D12.out; omega⟩)
set_option maxRecDepth 100000 in
set_option maxHeartbeats 4000000 in
theorem do31_chk (x : Nd) (m : Md) (A : Option Addr) (n c BB : Nat) (may : Bool) (cn : Nat) (w : World) (hr : T9.Row w BB A n (sv x.dv)) (hB : BB ≤ w.heap.size) (hn : n ≤ 100) (hm : may = true) (hE : nodeE m x = 1) :
    Calls Tryz.prog 29 #[mv m, nv x A n c, .bool may, .func (.func 31) #[] #[.pointer (some ⟨cn, 0, none⟩)]] w (RetD w.heap.size x [] 1 True True w) := by
  subst hm
  have hmf : ∀ (fn : Fn) (first cap : Array Value) (w : World), (Instr.makeFunc fn first cap).run Tryz.prog w = .ok (.func fn first cap) w := fun _ _ _ _ => rfl
  have hl : Hid (n = x.dv.length) := hid (by have := hr.1; simp [sv] at this; omega)
  have HN := hid (fun (w5 : World) (k : Below w.heap.size w w5) => own_any x A n c BB w5 (hr.below (k.mono hB)) (Nat.le_trans hB k.size) hn)
  have HK : Hid (∀ (w8 : World) (A6 : Option Addr) (c6 : Nat), OwnR w8 w.heap.size 2 1 A6 n c6 (sv x.dv) → Calls Tryz.prog 20 #[.agg #[.int .i64 m.n, .int .i64 m.s, .int .i64 m.l, .int .i64 m.f, .int .i64 m.d], .agg #[.int .i64 x.id, .int .i64 x.ph, .int .u64 x.sl, .int .i64 x.st, .int .i64 x.o.p, .int .i64 x.o.d, .int .i64 x.o.r, .int .i64 x.co, .int .u16 (x.mb : Int), .int .i64 x.t.g, .int .i64 x.t.b, .slice A6 n c6, .bool x.se, .int .i64 x.vd]] w8 fun e w' => e = .returned (.int .i64 1) ∧ Below w8.heap.size w8 w') := hid (fun w8 A6 c6 h => by have hf := ncheck_any x m A6 n c6 w8.heap.size w8 (T9.Own.row h) (Nat.le_refl _) (by omega); rw [hE] at hf; exact hf)
  clear hr hB hn hE
  go_enter_defers Tryz.func29, Tryz.ntmps29
  go_wp2_with (first
    | (refine wpList_gst1 38 (.int .i64 1) rfl (.tmp 10) (.const (.int .i64 1)) rfl rfl rfl (HE11.out) (by show 0 < 1; omega) (by kernel_rfl) rfl rfl ?_; intro w12 v12 b12 o12 s12)
    | (refine wpList_gst1 37 (.slice none 0 0) rfl (.tmp 9) (.const (.slice none 0 0)) rfl rfl rfl HL10.out (by show 0 < 1; omega) (by kernel_rfl) rfl rfl ?_; intro w11 v11 b11 o11 s11; have HL11 : Hid (Var w11 w3.heap.size [.slice none 0 0]) := hid v11; have HA11 := hid (HA10.out.other o11 (by have := D12.out; omega)); have HE11 := hid (HE10.out.other o11 (by have := D12.out; omega)); have HW11 := hid (HW10.out.other o11 NW2.out); have HO11 := hid (HO10.out.oth o11 (fun e => by have := (A5.out _ e).1; have := D12.out; omega)); have HB11 := hid (HB10.out.trans (b11.mono (by have := D12.out; omega))))
    | (refine wpList_gst 32 (encn x A6 n c6) rfl (.tmp 8) (.tmp 24) rfl rfl rfl GA9.out (by show 0 + 14 ≤ 14; omega) size32 (encn_one _ _ _ _) ?_; intro w10 v10 b10 o10 s10; have HA10 : Hid (Var w10 w2.heap.size (encn x A6 n c6)) := hid v10; have HL10 := hid (GL9.out.other o10 (by have := D12.out; omega)); have HE10 := hid (GE9.out.other o10 (by have := D12.out; omega)); have NW1 : Hid (w6.heap.size ≠ w2.heap.size) := hid (by have := LA.out; omega); have NW2 : Hid (w6.heap.size ≠ w3.heap.size) := hid (by have := LL.out; omega); have NW3 : Hid (w6.heap.size ≠ w4.heap.size) := hid (by have := LE.out; omega); have HW10 := hid (W9.out.other o10 NW1.out); have HO10 := hid (O9.out.oth o10 (fun e => by have := (A5.out _ e).1; have := D12.out; omega)); have HB10 := hid (B9.out.trans (b10.mono (by have := D12.out; omega))))
    | (refine wpList_ln (z := x) (A := A6) (n := n) (c := c6) (.tmp 11) rfl rfl W9.out.1 rfl ?_)
    | (go_at_call 20; (with_reducible refine (HK.out w8 A6 c6 O8.out).mono ?_); rintro e w9 ⟨rfl, b9⟩; have W9 := hid (W8.out.below b9 (W8.out.lt (by show 0 < 14; omega))); have O9 := hid (O8.out.below b9); have GA9 := hid (GA8.out.below b9 (GA8.out.lt (by show 0 < 14; omega))); have GL9 := hid (GL8.out.below b9 (GL8.out.lt (by show 0 < 1; omega))); have GE9 := hid (GE8.out.below b9 (GE8.out.lt (by show 0 < 1; omega))); have B9 := hid (B8.out.trans (b9.mono B8.out.size)); clear b9)
    | (refine wpList_gst 32 (encn x A6 n c6) rfl (.tmp 11) (.tmp 14) rfl rfl rfl v7 (by show 0 + 14 ≤ 14; omega) size32 (encn_one _ _ _ _) ?_; intro w8 v8 b8 o8 s8; have W8 : Hid (Var w8 w6.heap.size (encn x A6 n c6)) := hid v8; have O8 := hid ((O6.out.below b7).oth o8 (fun e => by have := (O6.out.lt e).2; omega)); have M8 := hid (M7.out.below b8 LM.out); have GA8 := hid (GA7.out.below b8 LA.out); have GL8 := hid (GL7.out.below b8 LL.out); have GE8 := hid (GE7.out.below b8 LE.out); have B8 := hid (B7.out.trans (b8.mono L6.out)); have p0 : w8.cell? ⟨w6.heap.size, 0, none⟩ = some (.int .i64 x.id) := W8.out.cell rfl; have p1 : w8.cell? ⟨w6.heap.size, 1, none⟩ = some (.int .i64 x.ph) := W8.out.cell rfl; have p2 : w8.cell? ⟨w6.heap.size, 2, none⟩ = some (.int .u64 x.sl) := W8.out.cell rfl; have p3 : w8.cell? ⟨w6.heap.size, 3, none⟩ = some (.int .i64 x.st) := W8.out.cell rfl; have p4 : w8.cell? ⟨w6.heap.size, 4, none⟩ = some (.int .i64 x.o.p) := W8.out.cell rfl; have p5 : w8.cell? ⟨w6.heap.size, 5, none⟩ = some (.int .i64 x.o.d) := W8.out.cell rfl; have p6 : w8.cell? ⟨w6.heap.size, 6, none⟩ = some (.int .i64 x.o.r) := W8.out.cell rfl; have p7 : w8.cell? ⟨w6.heap.size, 7, none⟩ = some (.int .i64 x.co) := W8.out.cell rfl; have p8 : w8.cell? ⟨w6.heap.size, 8, none⟩ = some (.int .u16 (x.mb : Int)) := W8.out.cell rfl; have p9 : w8.cell? ⟨w6.heap.size, 9, none⟩ = some (.int .i64 x.t.g) := W8.out.cell rfl; have p10 : w8.cell? ⟨w6.heap.size, 10, none⟩ = some (.int .i64 x.t.b) := W8.out.cell rfl; have p11 : w8.cell? ⟨w6.heap.size, 11, none⟩ = some (.slice A6 n c6) := W8.out.cell rfl; have p12 : w8.cell? ⟨w6.heap.size, 12, none⟩ = some (.bool x.se) := W8.out.cell rfl; have p13 : w8.cell? ⟨w6.heap.size, 13, none⟩ = some (.int .i64 x.vd) := W8.out.cell rfl; have q0 : w8.cell? ⟨w.heap.size, 0, none⟩ = some (.int .i64 m.n) := M8.out.cell rfl; have q1 : w8.cell? ⟨w.heap.size, 1, none⟩ = some (.int .i64 m.s) := M8.out.cell rfl; have q2 : w8.cell? ⟨w.heap.size, 2, none⟩ = some (.int .i64 m.l) := M8.out.cell rfl; have q3 : w8.cell? ⟨w.heap.size, 3, none⟩ = some (.int .i64 m.f) := M8.out.cell rfl; have q4 : w8.cell? ⟨w.heap.size, 4, none⟩ = some (.int .i64 m.d) := M8.out.cell rfl; clear v7 v8 b7 b8 o8 s7 s8 O6 M7 GA7 GL7 GE7 B7)
    | (refine wpList_galloc 32 (encn nz none 0 0) zero32 rfl rfl ?_; intro w7 v7 b7 s7; have M7 := hid (M6.out.below b7 LM.out); have GA7 := hid (GA6.out.below b7 LA.out); have GL7 := hid (GL6.out.below b7 LL.out); have GE7 := hid (GE6.out.below b7 LE.out); have B7 := hid (B6.out.trans (b7.mono B6.out.size)); have L6 := hid B6.out.size; clear M6 GA6 GL6 GE6 B6)
    | (go_at_call 70; (with_reducible refine (HN.out w5 B5.out).mono ?_); rintro e w6 ⟨A6, c6, rfl, own6, b6⟩; have M6 := hid (M5.out.below b6 (M5.out.lt (by show 0 < 5; omega))); have GA6 := hid (GA5.out.below b6 (GA5.out.lt (by show 0 < 14; omega))); have GL6 := hid (GL5.out.below b6 (GL5.out.lt (by show 0 < 1; omega))); have GE6 := hid (GE5.out.below b6 (GE5.out.lt (by show 0 < 1; omega))); have O6 := hid (own6.base_le B5.out.size); have B6 := hid (B5.out.trans (b6.mono B5.out.size)); have LM := hid (M6.out.lt (by show 0 < 5; omega)); have LA := hid (GA6.out.lt (by show 0 < 14; omega)); have LL := hid (GL6.out.lt (by show 0 < 1; omega)); have LE := hid (GE6.out.lt (by show 0 < 1; omega)); have A5 := hid (fun b (h : ob A6 = some b) => own6.lt h); clear own6 b6 M5 GA5 GL5 GE5 B5)
    | (refine wpList_ln (z := x) (A := A) (n := n) (c := c) (.tmp 5) rfl rfl N5.out.1 rfl ?_)
    | (refine wpList_galloc1 38 (.int .i64 0) zero38 rfl rfl rfl ?_; intro w5 v5 b5 s5; have M5 := hid ((((v1.below b2 l1).below b3 (Nat.lt_of_lt_of_le l1 b2.size)).below b4 (Nat.lt_of_lt_of_le l1 (Nat.le_trans b2.size b3.size))).below b5 (Nat.lt_of_lt_of_le l1 (Nat.le_trans b2.size (Nat.le_trans b3.size b4.size)))); have N5 := hid (((v2.below b3 l2).below b4 (Nat.lt_of_lt_of_le l2 b3.size)).below b5 (Nat.lt_of_lt_of_le l2 (Nat.le_trans b3.size b4.size))); have GA5 := hid ((v3.below b4 l3).below b5 (Nat.lt_of_lt_of_le l3 b4.size)); have GL5 := hid (v4.below b5 l4); have GE5 := hid v5; have B5 := hid ((((b1.trans (b2.mono b1.size)).trans (b3.mono (Nat.le_trans b1.size b2.size))).trans (b4.mono (Nat.le_trans b1.size (Nat.le_trans b2.size b3.size)))).trans (b5.mono (Nat.le_trans b1.size (Nat.le_trans b2.size (Nat.le_trans b3.size b4.size))))); have D12 : Hid (w2.heap.size < w3.heap.size ∧ w3.heap.size < w4.heap.size ∧ w4.heap.size < w5.heap.size ∧ w.heap.size ≤ w2.heap.size) := hid ⟨l3, l4, v5.lt (by show 0 < 1; omega), Nat.le_trans b1.size b2.size⟩; clear v1 v2 v3 v4 v5 b1 b2 b3 b4 b5 s1 s2 s3 s4 s5 l1 l2 l3 l4)
    | (refine wpList_galloc1 37 (.slice none 0 0) zero37 rfl rfl rfl ?_; intro w4 v4 b4 s4; have l4 := v4.lt (by show 0 < 1; omega))
    | (refine wpList_galloc 32 (encn nz none 0 0) zero32 rfl rfl ?_; intro w3 v3 b3 s3; have l3 := v3.lt (by show 0 < 14; omega))
    | (refine wpList_gbox 32 (encn x A n c) rfl (.tmp 1) rfl rfl ?_; intro w2 v2 b2 s2; have l2 := v2.lt (by show 0 < 14; omega))
    | (refine wpList_gbox 23 (encm m) rfl (.tmp 0) rfl rfl ?_; intro w1 v1 b1 s1; have l1 := v1.lt (by show 0 < 5; omega)))
  have HE12 : Hid (Var w12 w4.heap.size [.int .i64 1]) := hid v12
  have HA12 := hid (HA11.out.other o12 (by have := D12.out; omega))
  have HL12 := hid (HL11.out.other o12 (by have := D12.out; omega))
  have HW12 := hid (HW11.out.other o12 NW3.out)
  have HO12 := hid (HO11.out.oth o12 (fun e => by have := (A5.out _ e).1; have := D12.out; omega))
  have HB12 := hid (HB11.out.trans (b12.mono (by have := D12.out; omega)))
  refine leaves_cons (f := 71) (args := #[.pointer (some ⟨w4.heap.size, 0, none⟩), .pointer (some ⟨w6.heap.size, 0, none⟩), .pointer (some ⟨w2.heap.size, 0, none⟩), .pointer (some ⟨w3.heap.size, 0, none⟩)]) (by simp) (by simp [go_sem]) ?_
  refine (doD_err w4.heap.size w6.heap.size w2.heap.size w3.heap.size 1 x A6 n c6 _ _ .returning _ HE12.out.one (by omega) HW12.out.1 HA12.out rfl HL12.out (by have := D12.out; omega)).mono ?_
  rintro e u' wz ⟨rfl, rfl, va, vl, kz⟩
  have hE : Var wz w4.heap.size [.int .i64 1] := HE12.out.same (kz.block _ ⟨by have := D12.out; omega, by have := D12.out; omega⟩)
  refine ⟨_, results_3c Tryz.results29 _ rfl rfl rfl va.1 rfl vl.one hE.one, A6, n, c6, none, 0, 0, rfl, hl.out, fun _ => ?_, fun _ => T9.Own.row (base := w.heap.size) (e := 2) (c := c6) ?_, OwnR.nil _ _ _ _, ?_⟩
  · have ho : ∀ b, ob A6 = some b → b ≠ w2.heap.size ∧ b ≠ w3.heap.size := fun b e => by have := (A5.out _ e).1; have := D12.out; exact ⟨by omega, by omega⟩
    exact ownR_kept HO12.out kz ho
  · have ho : ∀ b, ob A6 = some b → b ≠ w2.heap.size ∧ b ≠ w3.heap.size := fun b e => by have := (A5.out _ e).1; have := D12.out; exact ⟨by omega, by omega⟩
    exact ownR_kept HO12.out kz ho
  · exact HB12.out.trans (kz.below fun k hk => ⟨by have := D12.out; omega, by have := D12.out; omega⟩)
end Go.Proofs.YtlgedfljmgedfaaGreat
