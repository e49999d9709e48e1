/-
  Texts NG, NH of this seat, as far as they are used.
-/
import Derived.Test.YtlgedfljmgedfaaGreatJ9
import Derived.Test.YtlgedfljmgedfaaGreatJ22
namespace Go.Proofs.YtlgedfljmgedfaaGreat
open Go Go.RowKit
open M10 (hid Md encm mv mz Oth range_keep there_keep range_other there_other setCells_oth setCells_size there_set Ty enct tv tz Fr encf fv fz)
open O6 (Oc enco ov oz)
open T9 (sv)
section
variable {w w' : World} {K K' : Nat → Prop} {base g : Nat} {x : Nd} {m : Md} {l : List Ac}
theorem WkU.drew {A B : Option Addr} {n c k d : Nat} (h : WkU w K base g x m l A n c B k d) : WkU w.drew K base g x m l A n c B k d := h.below (Below.refl _ w).drew
theorem Wk.fz (h : Wk w K base g x m l) {j : Nat} (hj : j < 20) : w.frozen? ⟨g, j, none⟩ = false := by
  obtain ⟨A, n, c, B, k, d, h⟩ := h
  exact h.fz hj
theorem Wk.lt (h : Wk w K base g x m l) : g < w.heap.size := by
  obtain ⟨A, n, c, B, k, d, h⟩ := h
  exact h.var.lt (Nat.zero_lt_succ 19)
theorem Kept.mono (h : Kept K' w w') (hK : ∀ k, K k → K' k) : Kept K w w' := ⟨h.os, h.tape, h.output, h.size, fun k hk => h.block k (hK k hk)⟩
theorem Wk.mono (h : Wk w K' base g x m l) (hK : ∀ k, K k → K' k) : Wk w K base g x m l := by
  obtain ⟨A, n, c, B, k, d, h⟩ := h
  exact ⟨A, n, c, B, k, d, h.var, h.devs, h.acts, h.bg, fun q => h.kg (hK _ q), fun b hb => ⟨fun q => (h.sa b hb).1 (hK _ q), (h.sa b hb).2⟩, fun b hb => ⟨fun q => (h.sb b hb).1 (hK _ q), (h.sb b hb).2⟩, fun b hb => h.kl b (hK _ hb), h.bl⟩
/-- A block made since stays, too. -/
theorem Wk.add (h : Wk w K base g x m l) (hb : Below w.heap.size w w') {b : Nat} (h0 : w.heap.size ≤ b) (h1 : b < w'.heap.size) : Wk w' (fun k => K k ∨ k = b) base g x m l := by
  obtain ⟨A, n, c, B, k, d, h⟩ := h
  have h' := h.below hb
  refine ⟨A, n, c, B, k, d, h'.var, h'.devs, h'.acts, h'.bg, ?_, fun q hq => ⟨?_, (h'.sa q hq).2⟩, fun q hq => ⟨?_, (h'.sb q hq).2⟩, ?_, h'.bl⟩
  · rintro (q | q)
    · exact h.kg q
    · have := h.var.lt (Nat.zero_lt_succ 19); omega
  · rintro (p | p)
    · exact (h.sa q hq).1 p
    · have := (h.devs.lt hq).2; omega
  · rintro (p | p)
    · exact (h.sb q hq).1 p
    · have := (h.acts.lt hq).2; omega
  · rintro q (p | p)
    · have := h.kl q p; have := hb.size; omega
    · omega
end
/-! ### sync -/
/-- Its slot was the last one of a round. -/
def lastB (m : Md) (x : Nd) : Bool := x.sl % m.n == m.n - 1
def syncN (m : Md) (x : Nd) : Nd := if lastB m x = true then { x with co := T9.corr m.d x.dv, dv := [] } else { x with co := 0 }
def syncL (m : Md) (x : Nd) : List Ac := if lastB m x = true then [note 8 (T9.corr m.d x.dv)] else []
theorem last_okm {m : Md} {x : Nd} (k : NdOk m x) (w : World) : Calls Tryz.prog 126 #[mv m, .int .u64 x.sl] w fun r w' => r = .returned (.tuple #[.bool (lastB m x), .int .i64 0]) ∧ Below w.heap.size w w' := by
  obtain ⟨n, s, ll, f, d⟩ := m
  exact M10.last_ok n s ll f d x.sl _ _ w k.hm k.s0 k.s1 rfl rfl
theorem corr_okm {m : Md} {x : Nd} (k : NdOk m x) {A : Option Addr} {n c base : Nat} (w : World) (h : OwnR w base 2 1 A n c (sv x.dv)) :
    Calls Tryz.prog 127 #[.int .i64 m.d, .slice A n c] w fun e w' => e = .returned (.tuple #[.int .i64 (T9.corr m.d x.dv), .int .i64 0]) ∧ Below w.heap.size w w' := by
  have hm := k.hm
  obtain ⟨h1, h2, h3, h4, h5, h6, h7, h8, h9⟩ := hm
  have hl := k.dl
  have hn : x.dv.length = n := by have := h.len; simpa [sv] using this
  have e : T9.corrE m.d x.dv = 0 := by unfold T9.corrE; rw [if_neg (by omega), if_neg (by omega)]
  exact T9.correct_any m.d A n c w.heap.size x.dv w (T9.Own.row (e := 2) (base := base) (c := c) h) (Nat.le_refl _) (fun y hy => by have := k.dd y hy; omega) (by omega) (by omega) (by omega) _ 0 rfl e
section
variable {w : World} {K : Nat → Prop} {base g : Nat} {x : Nd} {m : Md} {l : List Ac}
/-- The list given up. -/
theorem Wk.setD (h : Wk w K base g x m l) : Wk (w.setCells g 11 [.slice none 0 0]) K base g { x with dv := [] } m l ∧ Kept K w (w.setCells g 11 [.slice none 0 0]) := by
  obtain ⟨A, n, c, B, k, d, h⟩ := h
  have ho := setCells_oth g [.slice none 0 0] 11 w
  have hs := setCells_size g [.slice none 0 0] 11 w
  refine ⟨⟨none, 0, 0, B, k, d, ?_, OwnR.nil _ _ _ _, h.acts.oth ho.2 (fun e => (h.sb g e).2 rfl), h.bg, h.kg, (fun b hb => by cases hb), h.sb, by rw [hs]; exact h.kl, by rw [hs]; exact h.bl⟩, Kept.oth ho.1 ho.2 h.kg⟩
  exact h.var.set 11 [.slice none 0 0] (by show 11 + 1 ≤ 20; omega)
theorem wpList_wd {ops : Array Oper} {Q : Exit → Act → World → Prop} {rest : List Oper} {o : Oper} {a : Act} (hg : o.guard = none) (p z : Operand) (ho : o.op = .store 30 p z) (hx : a.eval p = .pointer (some ⟨g, 11, none⟩)) (hy : a.eval z = .slice none 0 0) (hv : Wk w K base g x m l)
    (h : ∀ w', Wk w' K base g { x with dv := [] } m l → Kept K w w' → wpList Tryz.prog ops Q rest (a.put o.dst undef) w') : wpList Tryz.prog ops Q (o :: rest) a w := by
  refine wpList_plain hg fun K' hK => ?_
  have ht : w.there g 11 1 := by
    obtain ⟨A, n, c, B, k, d, h1, _⟩ := hv
    exact h1.there (by show 11 + 1 ≤ 20; omega)
  have := run_store1 30 g 11 (.slice none 0 0) w (by kernel_rfl) rfl rfl ht
  obtain ⟨r1, r2⟩ := hv.setD
  unfold Oper.wp execOp
  simp only [ho, hx, hy, Sem.run_bind, Sem.run_pure, Result.andThen_ok, this]
  exact hK _ _ (h _ r1 r2)
end
set_option maxRecDepth 100000 in
set_option maxHeartbeats 2000000 in
theorem sync_no (K : Nat → Prop) (base g : Nat) (x : Nd) (m : Md) (l : List Ac) (w : World) (h : Wk w K base g x m l) (k : NdOk m x) (hL : lastB m x = false) :
    Calls Tryz.prog 81 #[.pointer (some ⟨g, 0, none⟩)] w (RetW K base g { x with co := 0 } m l (.tuple #[]) w) := by
  have H := hid h
  have T0 := hid (fun (w1 : World) (d : Nat) (os : Array Obj) => Calls.regrown_of (d := d) (os := os) (last_okm k (Sort.grow (redrawn w1 d) os)))
  rw [hL] at T0
  clear h k hL
  go_enter Tryz.func81, Tryz.ntmps81
  go_wp2_with (first
    | (refine wpList_ws1 { x with co := 0 } 7 (.int .i64 0) 2 rfl _ _ rfl rfl rfl H.out (by kernel_rfl) rfl rfl rfl (fun _ _ _ _ _ _ => rfl) (by omega) ?_; intro w1 W1 k1; have W1 := hid W1; have k1 := hid k1))
  have c2 : Hid (w1.cell? ⟨g, 2, none⟩ = some (.int .u64 x.sl)) := hid (W1.out.cell fun _ _ _ _ _ _ => rfl)
  refine wp_region_quiet_below (by kernel_rfl) (by kernel_rfl) ?_
  repeat (first | refine wpQuiet_wm rfl rfl rfl W1.out ?_ | refine wpQuiet_gl1 24 rfl rfl rfl Tryz.isAgg24 c2.out ?_ | quiet_step (with_reducible exact T0.out _ _ _))
  refine wpQuiet_nil ?_
  intro _ hw'
  obtain ⟨⟨dq, osq⟩, hw''⟩ := hw'
  subst hw''
  go_wp2_with fail
  first | go_end0 | refine bodyPost_ret (results_none rfl _ _ _) rfl ?_
  exact ⟨rfl, W1.out.below (below_regrown w1 dq osq), k1.out.trans (W1.out.keptb (below_regrown w1 dq osq))⟩
set_option maxRecDepth 100000 in
set_option maxHeartbeats 2000000 in
theorem sync_last (K : Nat → Prop) (base g : Nat) (x : Nd) (m : Md) (l : List Ac) (w : World) (h : Wk w K base g x m l) (hl : l.length ≤ 1000) (k : NdOk m x) (hL : lastB m x = true) :
    Calls Tryz.prog 81 #[.pointer (some ⟨g, 0, none⟩)] w (RetW K base g { x with co := T9.corr m.d x.dv, dv := [] } m (l ++ [note 8 (T9.corr m.d x.dv)]) (.tuple #[]) w) := by
  have H := hid h
  have T0 := hid (fun (w1 : World) (d : Nat) (os : Array Obj) => Calls.regrown_of (d := d) (os := os) (last_okm k (Sort.grow (redrawn w1 d) os)))
  rw [hL] at T0
  have HC := hid (fun (A : Option Addr) (n c base : Nat) (w : World) (h : OwnR w base 2 1 A n c (sv x.dv)) => corr_okm k w h)
  have HN := hid (fun w h => note_any K base g { x with co := T9.corr m.d x.dv, dv := [] } m l 8 (T9.corr m.d x.dv) w h hl)
  clear h k hL hl
  generalize T9.corr m.d x.dv = C at *
  go_enter Tryz.func81, Tryz.ntmps81
  go_wp2_with (first
    | (refine wpList_ws1 { x with co := 0 } 7 (.int .i64 0) 2 rfl _ _ rfl rfl rfl H.out (by kernel_rfl) rfl rfl rfl (fun _ _ _ _ _ _ => rfl) (by omega) ?_; intro w1 W1 k1; have W1 := hid W1; have k1 := hid k1))
  have c2 : Hid (w1.cell? ⟨g, 2, none⟩ = some (.int .u64 x.sl)) := hid (W1.out.cell fun _ _ _ _ _ _ => rfl)
  refine wp_region_quiet_below (by kernel_rfl) (by kernel_rfl) ?_
  repeat (first | refine wpQuiet_wm rfl rfl rfl W1.out ?_ | refine wpQuiet_gl1 24 rfl rfl rfl Tryz.isAgg24 c2.out ?_ | quiet_step (with_reducible exact T0.out _ _ _))
  refine wpQuiet_nil ?_
  intro _ hw'
  obtain ⟨⟨dq, osq⟩, hw''⟩ := hw'
  subst hw''
  have W2 := hid (W1.out.below (below_regrown w1 dq osq))
  have K2 := hid (k1.out.trans (W1.out.keptb (below_regrown w1 dq osq)))
  generalize Sort.grow (redrawn w1 dq) osq = w2 at *
  clear c2 T0 W1 k1 H
  obtain ⟨A, n, c, B, kk, dd, U2⟩ := W2.out
  have U2 := hid U2
  have c18 : w2.cell? ⟨g, 18, none⟩ = some (.int .i64 m.d) := U2.out.var.cell rfl
  have c11 : w2.cell? ⟨g, 11, none⟩ = some (.slice A n c) := U2.out.var.cell rfl
  go_wp2_with fail
  go_region_held3 (fun w' => w'.cell? ⟨g, 18, none⟩ = some (.int .i64 m.d) ∧ w'.cell? ⟨g, 11, none⟩ = some (.slice A n c)) (first | (go_keep; done) | exact ⟨(U3.out.var.set 7 [.int .i64 C] (Nat.le_of_ble_eq_true rfl)).cell rfl, (U3.out.var.set 7 [.int .i64 C] (Nat.le_of_ble_eq_true rfl)).cell rfl⟩)
    (first | (go_at_call 127; (with_reducible refine (HC.out A n c base w2.drew U2.out.devs.drew).mono ?_); rintro e w3 ⟨rfl, b3⟩; have U3 := hid (U2.out.drew.below b3); have W3 := hid (W2.out.drew.below b3); have K3 := hid (K2.out.trans ((W2.out.keptb (Below.refl _ _).drew).trans (W2.out.drew.keptb b3))); have d18 : w3.cell? ⟨g, 18, none⟩ = some (.int .i64 m.d) := W3.out.cell fun _ _ _ _ _ _ => rfl; have d11 : w3.cell? ⟨g, 11, none⟩ = some (.slice A n c) := (U2.out.drew.below b3).var.cell rfl; have d5 : w3.cell? ⟨g, 7, none⟩ = some (.int .i64 0) := W3.out.cell fun _ _ _ _ _ _ => rfl; have f5 := W3.out.fz (j := 7) (by decide); clear b3))
  generalize hw3 : World.setCell _ ⟨g, 7, none⟩ _ = w4
  have hw4 : w3.setCells g 7 [.int .i64 C] = w4 := hw3
  obtain ⟨W4, k4⟩ := W3.out.set { x with co := C } 7 [.int .i64 C] rfl (fun _ _ _ _ _ _ => rfl) (by show 7 + 1 ≤ 20; omega)
  rw [hw4] at W4 k4
  have W4 := hid W4
  have K4 := hid (K3.out.trans k4)
  clear hw3 hw4 k4 K3 W3 U3 d18 d11 d5 f5 c18 c11 U2 W2 K2
  go_wp2_with (first
    | (go_at_call 72; (with_reducible refine (HN.out w5 W5.out).mono ?_); rintro e w6 ⟨rfl, W6, k6⟩)
    | (refine wpList_wd rfl _ _ rfl rfl rfl W4.out ?_; intro w5 W5 k5; have W5 := hid W5; have e5 : w5.cell? ⟨g, 7, none⟩ = some (.int .i64 C) := W5.out.cell fun _ _ _ _ _ _ => rfl))
  first | go_end0 | refine bodyPost_ret (results_none rfl _ _ _) rfl ?_
  exact ⟨rfl, W6, K4.out.trans (k5.trans k6)⟩
theorem sync_any (K : Nat → Prop) (base g : Nat) (x : Nd) (m : Md) (l : List Ac) (w : World) (h : Wk w K base g x m l) (hl : l.length ≤ 1000) (k : NdOk m x) :
    Calls Tryz.prog 81 #[.pointer (some ⟨g, 0, none⟩)] w (RetW K base g (syncN m x) m (l ++ syncL m x) (.tuple #[]) w) := by
  cases hL : lastB m x with
  | false =>
    rw [show syncN m x = { x with co := 0 } from if_neg (by rw [hL]; decide), show syncL m x = [] from if_neg (by rw [hL]; decide), List.append_nil]
    exact sync_no K base g x m l w h k hL
  | true =>
    rw [show syncN m x = _ from if_pos hL, show syncL m x = _ from if_pos hL]
    exact sync_last K base g x m l w h hl k hL
end Go.Proofs.YtlgedfljmgedfaaGreat
namespace Go.Proofs.YtlgedfljmgedfaaGreat
open Go Go.RowKit
open M10 (hid Md encm mv mz Oth range_keep there_keep range_other there_other setCells_oth setCells_size there_set Ty enct tv tz Fr encf fv fz)
open O6 (Oc enco ov oz)
open T9 (sv)
/-! ### begin -/
/-- What it is ahead of a slot. -/
def preN (x : Nd) : Nd := { x with se := false, vd := 0 }
def beginN (m : Md) (x : Nd) : Nd :=
  if ¬ x.sl % m.n = x.id then preN x
  else if 0 < x.t.b ∧ x.t.g ≤ x.t.b then { preN x with ph := 3 }
  else { preN x with t := ⟨1, 0⟩ }
def beginL (m : Md) (x : Nd) : List Ac :=
  if ¬ x.sl % m.n = x.id then [timr (timeT x (m.s + x.co))]
  else if 0 < x.t.b ∧ x.t.g ≤ x.t.b then [note 9 0]
  else [timr (timeT x m.l)]
def beginE (m : Md) (x : Nd) : Int :=
  if ¬ x.sl % m.n = x.id then timeE x (m.s + x.co)
  else if 0 < x.t.b ∧ x.t.g ≤ x.t.b then 0
  else timeE x m.l
theorem len_in {m : Md} {x : Nd} (k : NdOk m x) : 0 ≤ m.s + x.co ∧ m.s + x.co ≤ 67108864 := by
  obtain ⟨h1, h2, h3, h4, h5, h6, h7, h8, h9⟩ := k.hm
  have := k.c0
  have := k.c1
  omega
set_option maxRecDepth 100000 in
set_option maxHeartbeats 2000000 in
theorem begin_other (K : Nat → Prop) (base g : Nat) (x : Nd) (m : Md) (l : List Ac) (w : World) (h : Wk w K base g x m l) (hl : l.length ≤ 1000) (k : NdOk m x) (hO : ¬ x.sl % m.n = x.id) :
    Calls Tryz.prog 82 #[.pointer (some ⟨g, 0, none⟩)] w (RetW K base g (preN x) m (l ++ [timr (timeT x (m.s + x.co))]) (.int .i64 (timeE x (m.s + x.co))) w) := by
  have H := hid h
  obtain ⟨q0, q1⟩ := len_in k
  have T0 := hid (fun (w1 : World) (h : Wk w1 K base g (preN x) m l) (d : Nat) (os : Array Obj) => Calls.regrown_of (d := d) (os := os) (owner_w K base g (preN x) m l (Sort.grow (redrawn w1 d) os) (h.below (below_regrown w1 d os)) k.hm k.s0 k.s1))
  have HS := hid (fun (w1 : World) (h : Wk w1 K base g (preN x) m l) => length_w K base g (preN x) m l w1 h _ rfl (by show -9223372036854775808 ≤ m.s + x.co; omega) (by show m.s + x.co ≤ 9223372036854775807; omega))
  have HT := hid (fun (w1 : World) (h : Wk w1 K base g (preN x) m l) => timer_any K base g (preN x) m l (m.s + x.co) w1 h hl ⟨k.ho, k.t0, k.t1⟩ q0 q1)
  have e1 : (x.sl % m.n != x.id) = true := by simp [hO]
  rw [show (preN x).sl = x.sl from rfl] at T0
  rw [show m.s + (preN x).co = m.s + x.co from rfl] at HS
  rw [show timeT (preN x) (m.s + x.co) = timeT x (m.s + x.co) from rfl, show timeE (preN x) (m.s + x.co) = timeE x (m.s + x.co) from rfl] at HT
  clear h k hl hO q0 q1
  generalize timeT x (m.s + x.co) = T at *
  generalize timeE x (m.s + x.co) = E at *
  generalize m.s + x.co = L at *
  generalize x.sl % m.n = O at *
  go_enter Tryz.func82, Tryz.ntmps82
  go_wp2_with (first
    | (refine wpList_ws1 (preN x) 13 (.int .i64 0) 3 rfl _ _ rfl rfl rfl W1.out (by kernel_rfl) rfl rfl rfl (fun _ _ _ _ _ _ => rfl) (by omega) ?_; intro w2 W2 k2; have W2 := hid W2; have k2 := hid (k1.out.trans k2))
    | (refine wpList_ws1 { x with se := false } 12 (.bool false) 4 rfl _ _ rfl rfl rfl H.out (by kernel_rfl) rfl rfl rfl (fun _ _ _ _ _ _ => rfl) (by omega) ?_; intro w1 W1 k1; have W1 := hid W1; have k1 := hid k1))
  have c0 : Hid (w2.cell? ⟨g, 0, none⟩ = some (.int .i64 x.id)) := hid (W2.out.cell fun _ _ _ _ _ _ => rfl)
  refine wp_region_quiet_below (by kernel_rfl) (by kernel_rfl) ?_
  repeat (first | refine wpQuiet_gl1 3 rfl rfl rfl Tryz.isAgg3 c0.out ?_ | quiet_step (with_reducible exact T0.out w2 W2.out _ _))
  refine wpQuiet_nil ?_
  intro _ hw'
  obtain ⟨⟨dq, osq⟩, hw''⟩ := hw'
  subst hw''
  have W3 := hid (W2.out.below (below_regrown w2 dq osq))
  have K3 := hid (k2.out.trans (W2.out.keptb (below_regrown w2 dq osq)))
  generalize Sort.grow (redrawn w2 dq) osq = w3 at *
  clear c0 T0 W1 k1 H W2 k2
  go_wp2_with (first
    | (go_at_call 73; (with_reducible refine (HT.out w4 W4.out).mono ?_); rintro e w5 ⟨rfl, W5, k5⟩)
    | (go_at_call 78; (with_reducible refine (HS.out w3 W3.out).mono ?_); rintro e w4 ⟨rfl, b4⟩; have W4 := hid (W3.out.below b4); have K4 := hid (K3.out.trans (W3.out.keptb b4))))
  go_ret
  exact ⟨rfl, W5, K4.out.trans k5⟩
set_option maxRecDepth 100000 in
set_option maxHeartbeats 2000000 in
theorem begin_froze (K : Nat → Prop) (base g : Nat) (x : Nd) (m : Md) (l : List Ac) (w : World) (h : Wk w K base g x m l) (hl : l.length ≤ 1000) (k : NdOk m x) (hO : x.sl % m.n = x.id) (hC : 0 < x.t.b ∧ x.t.g ≤ x.t.b) :
    Calls Tryz.prog 82 #[.pointer (some ⟨g, 0, none⟩)] w (RetW K base g { preN x with ph := 3 } m (l ++ [note 9 0]) (.int .i64 0) w) := by
  have H := hid h
  have T0 := hid (fun (w1 : World) (h : Wk w1 K base g (preN x) m l) (d : Nat) (os : Array Obj) => Calls.regrown_of (d := d) (os := os) (owner_w K base g (preN x) m l (Sort.grow (redrawn w1 d) os) (h.below (below_regrown w1 d os)) k.hm k.s0 k.s1))
  have HC := hid (fun w => M10.clique_any (preN x).t true (decide_eq_true hC) w)
  have HN := hid (fun (w1 : World) (h : Wk w1 K base g { preN x with ph := 3 } m l) => note_any K base g { preN x with ph := 3 } m l 9 0 w1 h hl)
  have e1 : (x.sl % m.n != x.id) = false := by simp [hO]
  rw [show (preN x).sl = x.sl from rfl] at T0
  clear h k hl hO hC
  generalize x.sl % m.n = O at *
  go_enter Tryz.func82, Tryz.ntmps82
  go_wp2_with (first
    | (refine wpList_ws1 (preN x) 13 (.int .i64 0) 3 rfl _ _ rfl rfl rfl W1.out (by kernel_rfl) rfl rfl rfl (fun _ _ _ _ _ _ => rfl) (by omega) ?_; intro w2 W2 k2; have W2 := hid W2; have k2 := hid (k1.out.trans k2))
    | (refine wpList_ws1 { x with se := false } 12 (.bool false) 4 rfl _ _ rfl rfl rfl H.out (by kernel_rfl) rfl rfl rfl (fun _ _ _ _ _ _ => rfl) (by omega) ?_; intro w1 W1 k1; have W1 := hid W1; have k1 := hid k1))
  have c0 : Hid (w2.cell? ⟨g, 0, none⟩ = some (.int .i64 x.id)) := hid (W2.out.cell fun _ _ _ _ _ _ => rfl)
  refine wp_region_quiet_below (by kernel_rfl) (by kernel_rfl) ?_
  repeat (first | refine wpQuiet_gl1 3 rfl rfl rfl Tryz.isAgg3 c0.out ?_ | quiet_step (with_reducible exact T0.out w2 W2.out _ _))
  refine wpQuiet_nil ?_
  intro _ hw'
  obtain ⟨⟨dq, osq⟩, hw''⟩ := hw'
  subst hw''
  have W3 := hid (W2.out.below (below_regrown w2 dq osq))
  have K3 := hid (k2.out.trans (W2.out.keptb (below_regrown w2 dq osq)))
  generalize Sort.grow (redrawn w2 dq) osq = w3 at *
  clear c0 T0 W1 k1 H W2 k2
  go_wp2_with (first
    | (go_at_call 72; (with_reducible refine (HN.out w5 W5.out).mono ?_); rintro e w6 ⟨rfl, W6, k6⟩)
    | (refine wpList_ws1 { preN x with ph := 3 } 1 (.int .i64 3) 3 rfl _ _ rfl rfl rfl W4.out (by kernel_rfl) rfl rfl rfl (fun _ _ _ _ _ _ => rfl) (by omega) ?_; intro w5 W5 k5; have W5 := hid W5; have k5 := hid (K4.out.trans k5))
    | (go_at_call 128; (with_reducible refine (HC.out w3).mono ?_); rintro e w4 ⟨rfl, b4⟩; have W4 := hid (W3.out.below b4); have K4 := hid (K3.out.trans (W3.out.keptb b4)))
    | (refine wpList_lt _ rfl rfl W3.out.ty rfl ?_))
  go_ret
  exact ⟨rfl, W6, k5.out.trans k6⟩
set_option maxRecDepth 100000 in
set_option maxHeartbeats 2000000 in
theorem begin_own (K : Nat → Prop) (base g : Nat) (x : Nd) (m : Md) (l : List Ac) (w : World) (h : Wk w K base g x m l) (hl : l.length ≤ 1000) (k : NdOk m x) (hO : x.sl % m.n = x.id) (hC : ¬ (0 < x.t.b ∧ x.t.g ≤ x.t.b)) :
    Calls Tryz.prog 82 #[.pointer (some ⟨g, 0, none⟩)] w (RetW K base g { preN x with t := ⟨1, 0⟩ } m (l ++ [timr (timeT x m.l)]) (.int .i64 (timeE x m.l)) w) := by
  have H := hid h
  have q0 : 0 ≤ m.l ∧ m.l ≤ 67108864 := by obtain ⟨h1, h2, h3, h4, h5, h6, h7, h8, h9⟩ := k.hm; omega
  have T0 := hid (fun (w1 : World) (h : Wk w1 K base g (preN x) m l) (d : Nat) (os : Array Obj) => Calls.regrown_of (d := d) (os := os) (owner_w K base g (preN x) m l (Sort.grow (redrawn w1 d) os) (h.below (below_regrown w1 d os)) k.hm k.s0 k.s1))
  have HC := hid (fun w => M10.clique_any (preN x).t false (decide_eq_false hC) w)
  have HT := hid (fun (w1 : World) (h : Wk w1 K base g { preN x with t := ⟨1, 0⟩ } m l) => timer_any K base g { preN x with t := ⟨1, 0⟩ } m l m.l w1 h hl ⟨k.ho, k.t0, k.t1⟩ q0.1 q0.2)
  have e1 : (x.sl % m.n != x.id) = false := by simp [hO]
  rw [show (preN x).sl = x.sl from rfl] at T0
  rw [show timeT { preN x with t := ⟨1, 0⟩ } m.l = timeT x m.l from rfl, show timeE { preN x with t := ⟨1, 0⟩ } m.l = timeE x m.l from rfl] at HT
  clear h k hl hO hC q0
  generalize timeT x m.l = T at *
  generalize timeE x m.l = E at *
  generalize x.sl % m.n = O at *
  go_enter Tryz.func82, Tryz.ntmps82
  go_wp2_with (first
    | (refine wpList_ws1 (preN x) 13 (.int .i64 0) 3 rfl _ _ rfl rfl rfl W1.out (by kernel_rfl) rfl rfl rfl (fun _ _ _ _ _ _ => rfl) (by omega) ?_; intro w2 W2 k2; have W2 := hid W2; have k2 := hid (k1.out.trans k2))
    | (refine wpList_ws1 { x with se := false } 12 (.bool false) 4 rfl _ _ rfl rfl rfl H.out (by kernel_rfl) rfl rfl rfl (fun _ _ _ _ _ _ => rfl) (by omega) ?_; intro w1 W1 k1; have W1 := hid W1; have k1 := hid k1))
  have c0 : Hid (w2.cell? ⟨g, 0, none⟩ = some (.int .i64 x.id)) := hid (W2.out.cell fun _ _ _ _ _ _ => rfl)
  refine wp_region_quiet_below (by kernel_rfl) (by kernel_rfl) ?_
  repeat (first | refine wpQuiet_gl1 3 rfl rfl rfl Tryz.isAgg3 c0.out ?_ | quiet_step (with_reducible exact T0.out w2 W2.out _ _))
  refine wpQuiet_nil ?_
  intro _ hw'
  obtain ⟨⟨dq, osq⟩, hw''⟩ := hw'
  subst hw''
  have W3 := hid (W2.out.below (below_regrown w2 dq osq))
  have K3 := hid (k2.out.trans (W2.out.keptb (below_regrown w2 dq osq)))
  generalize Sort.grow (redrawn w2 dq) osq = w3 at *
  clear c0 T0 W1 k1 H W2 k2
  go_wp2_with (first
    | (go_at_call 73; (with_reducible refine (HT.out w6 W6.out).mono ?_); rintro e w7 ⟨rfl, W7, k7⟩)
    | (refine wpList_wsn { preN x with t := ⟨1, 0⟩ } 9 (enct ⟨1, 0⟩) 29 rfl _ _ rfl rfl rfl W5.out size29 (M10.enct_one _) rfl (fun _ _ _ _ _ _ => rfl) (by decide) ?_; intro w6 W6 k6; have W6 := hid W6; have k6 := hid (K5.out.trans k6); have c16 : w6.cell? ⟨g, 16, none⟩ = some (.int .i64 m.l) := W6.out.cell fun _ _ _ _ _ _ => rfl)
    | (go_at_call 76; (with_reducible refine (one_any w4).mono ?_); rintro e w5 ⟨rfl, b5⟩; have W5 := hid (W4.out.below b5); have K5 := hid (K4.out.trans (W4.out.keptb b5)))
    | (go_at_call 128; (with_reducible refine (HC.out w3).mono ?_); rintro e w4 ⟨rfl, b4⟩; have W4 := hid (W3.out.below b4); have K4 := hid (K3.out.trans (W3.out.keptb b4)))
    | (refine wpList_lt _ rfl rfl W3.out.ty rfl ?_))
  go_ret
  exact ⟨rfl, W7, k6.out.trans k7⟩
theorem begin_any (K : Nat → Prop) (base g : Nat) (x : Nd) (m : Md) (l : List Ac) (w : World) (h : Wk w K base g x m l) (hl : l.length ≤ 1000) (k : NdOk m x) :
    Calls Tryz.prog 82 #[.pointer (some ⟨g, 0, none⟩)] w (RetW K base g (beginN m x) m (l ++ beginL m x) (.int .i64 (beginE m x)) w) := by
  unfold beginN beginL beginE
  by_cases hO : x.sl % m.n = x.id
  · rw [if_neg (not_not_intro hO), if_neg (not_not_intro hO), if_neg (not_not_intro hO)]
    by_cases hC : 0 < x.t.b ∧ x.t.g ≤ x.t.b
    · rw [if_pos hC, if_pos hC, if_pos hC]
      exact begin_froze K base g x m l w h hl k hO hC
    · rw [if_neg hC, if_neg hC, if_neg hC]
      exact begin_own K base g x m l w h hl k hO hC
  · rw [if_pos hO, if_pos hO, if_pos hO]
    exact begin_other K base g x m l w h hl k hO
end Go.Proofs.YtlgedfljmgedfaaGreat
