/-
  Texts ND, NE, NR of this seat, as far as they are used.
-/
import Derived.Test.YtlgedfljmgedfaaGreatJ20
namespace Go.Proofs.YtlgedfljmgedfaaGreat
open Go Go.RowKit
open M10 (hid Md encm mv mz Oth range_keep there_keep range_other there_other setCells_oth setCells_size there_set Ty enct tv tz Fr encf fv fz)
open O6 (Oc enco ov oz)
open T9 (sv)
/-- One more of the numbers by which frames were late, as far as there is room. -/
def lateL (m : Md) (dv : List Int) (t : Int) : List Int := if (dv.length : Int) < m.n then dv ++ [t] else dv
theorem devs_stored {K : Nat → Prop} {base g : Nat} {x : Nd} {m : Md} {l : List Ac} {A A' B : Option Addr} {n n' c c' k d : Nat} {dv : List Int} {w w2 w3 : World}
    (h : WkU w K base g x m l A n c B k d) (o2 : OwnR w2 base 2 1 A' n' c' (sv dv)) (g2 : w.grownBy w2 (ob A)) (e2 : ob A' = ob A ∨ ob A' = some (w.heap.size + 1))
    (v3 : Var w3 g (setv (encw x A n c m B k d) 11 [.slice A' n' c'])) (b3 : Below g w2 w3) (t3 : Oth g w2 w3) (s3 : w3.heap.size = w2.heap.size) : Wk w3 K base g { x with dv := dv } m l ∧ Kept K w w3 := by
  have hgs := h.var.lt (Nat.zero_lt_succ 19)
  have hA : ∀ b, ob A' = some b → ¬ K b ∧ b ≠ g ∧ ob B ≠ some b := fun b hb => by
    rcases e2 with e | e
    · exact h.sa b (e ▸ hb)
    · have : b = w.heap.size + 1 := by rw [e] at hb; injection hb with hb; exact hb.symm
      exact ⟨fun hk => by have := h.kl b hk; omega, by omega, fun e' => by have := (h.acts.lt e').2; omega⟩
  have hne : ∀ b, K b → some b ≠ ob A := fun b hb e => (h.sa b e.symm).1 hb
  refine ⟨⟨A', n', c', B, k, d, v3, o2.oth t3 (fun e => (hA g e).2.1 rfl), ?_, h.bg, h.kg, hA, h.sb, fun b hb => ?_, ?_⟩, ?_⟩
  · refine (h.acts.kept g2 ?_).oth t3 (fun e => (h.sb g e).2 rfl)
    cases hB : ob B with
    | none => exact .inl rfl
    | some b => exact .inr fun e => (h.sa b e.symm).2.2 hB
  · have := h.kl b hb; have := g2.size; omega
  · have := g2.size; have := h.bl; omega
  · exact (Kept.grown g2 h.kl hne).trans (Kept.oth b3 t3 h.kg)
set_option maxRecDepth 100000 in
set_option maxHeartbeats 1000000 in
theorem late_w (K : Nat → Prop) (base g : Nat) (x : Nd) (m : Md) (l : List Ac) (t : Int) (w : World) (h : Wk w K base g x m l) (hm : m.n ≤ 16) :
    Calls Tryz.prog 97 #[.pointer (some ⟨g, 0, none⟩), .int .i64 t] w (RetW K base g { x with dv := lateL m x.dv t } m l (.tuple #[]) w) := by
  obtain ⟨A, n, c, B, k, d, h⟩ := h
  have hn : x.dv.length = n := by have := h.devs.len; simpa [sv] using this
  have c11 : Hid (w.cell? ⟨g, 11, none⟩ = some (.slice A n c)) := hid (h.var.cell rfl)
  have c14 : Hid (w.cell? ⟨g, 14, none⟩ = some (.int .i64 m.n)) := hid (h.var.cell rfl)
  have hgs := h.var.lt (Nat.zero_lt_succ 19)
  by_cases hlt : (n : Int) < m.n
  · have hL : lateL m x.dv t = x.dv ++ [t] := if_pos (by rw [hn]; exact hlt)
    rw [hL]
    clear hL
    have HN : Hid (n ≤ 16) := hid (by omega)
    have H := hid h
    have hne : g ≠ w.heap.size := by omega
    clear h hm hn
    generalize m.n = mn at *
    go_enter Tryz.func97, Tryz.ntmps97
    go_wp2_with fail
    refine wp_region_quiet_below (by kernel_rfl) (by kernel_rfl) ?_
    repeat (first | refine wpQuiet_gl1 30 rfl rfl rfl Tryz.isAgg30 c11.out ?_ | refine wpQuiet_gl1 3 rfl rfl rfl Tryz.isAgg3 c14.out ?_ | quiet_step (fail))
    refine wpQuiet_nil ?_
    intro _ hw'
    obtain ⟨⟨dq, osq⟩, hw''⟩ := hw'
    subst hw''
    have W1 := hid (H.out.below (below_regrown w dq osq))
    have B1 := hid (below_regrown w dq osq)
    generalize Sort.grow (redrawn w dq) osq = w1 at *
    have d11 : w1.cell? ⟨g, 11, none⟩ = some (.slice A n c) := W1.out.var.cell rfl
    have hgs1 := W1.out.var.lt (Nat.zero_lt_succ 19)
    clear c11 c14
    go_wp2_with (first
      | (refine wpList_gst1 30 (.slice A' (n + 1) c') rfl (.tmp 27) (.tmp 24) rfl rfl rfl V2.out (Nat.lt_of_lt_of_le (by decide : 11 < 20) (Nat.le_refl 20)) (by kernel_rfl) rfl rfl ?_; intro w3 v3 b3 t3 s3)
      | (refine wpList_pushI rfl (.tmp 21) (.tmp 23) rfl rfl W1.out.devs rfl (by have := HN.out; omega) W1.out.bl ?_; intro A' c' w2 o2 g2 e2; have V2 : Hid (Var w2 g (encw x A n c m B k d)) := hid (W1.out.var.same (g2.block g hgs1 (fun e => (W1.out.sa g e.symm).2.1 rfl))); clear d11)
      | (refine wpList_bsI (v := t) (.tmp 22) rfl rfl rfl ?_))
    first | go_end0 | refine bodyPost_ret (results_none rfl _ _ _) rfl ?_
    obtain ⟨r1, r2⟩ := devs_stored W1.out o2 g2 e2 v3 b3 t3 s3.out
    exact ⟨rfl, r1, (Kept.of_below B1.out H.out.kl).trans r2⟩
  · have hL : lateL m x.dv t = x.dv := if_neg (by rw [hn]; exact hlt)
    rw [hL]
    clear hL
    have H := hid h
    clear h hm hn
    generalize m.n = mn at *
    go_enter Tryz.func97, Tryz.ntmps97
    go_wp2_with fail
    refine wp_region_quiet_below (by kernel_rfl) (by kernel_rfl) ?_
    repeat (first | refine wpQuiet_gl1 30 rfl rfl rfl Tryz.isAgg30 c11.out ?_ | refine wpQuiet_gl1 3 rfl rfl rfl Tryz.isAgg3 c14.out ?_ | quiet_step (fail))
    refine wpQuiet_nil ?_
    intro _ hw'
    obtain ⟨⟨dq, osq⟩, hw''⟩ := hw'
    subst hw''
    go_wp2_with fail
    first | go_end0 | refine bodyPost_ret (results_none rfl _ _ _) rfl ?_
    exact ⟨rfl, ⟨_, _, _, _, _, _, H.out.below (below_regrown w dq osq)⟩, Kept.of_below (below_regrown w dq osq) H.out.kl⟩
/-! ### A timer at any time -/
/-- Its time of so many ticks, and whether that goes over. -/
def timeT (x : Nd) (n : Int) : Int := if x.st + O6.psO x.o n ≤ 1152921504606846976 then x.st + O6.psO x.o n else 0
def timeE (x : Nd) (n : Int) : Int := if x.st + O6.psO x.o n ≤ 1152921504606846976 then 0 else 2
/-- What the clock and the beginning of a node at work may be. -/
def Run (x : Nd) : Prop := O6.Ok x.o ∧ 0 ≤ x.st ∧ x.st ≤ 1152921504606846976
theorem ps_in {o : Oc} (h : O6.Ok o) {n : Int} (n0 : 0 ≤ n) (n1 : n ≤ 67108864) : 0 ≤ O6.psO o n ∧ O6.psO o n ≤ 100000000000000000 := by
  obtain ⟨p, d, r⟩ := o
  obtain ⟨h1, h2, h3, h4, h5, h6⟩ := h
  simp only at h1 h2 h3 h4 h5 h6
  have hr := O6.rate_range h1 h2 h3 h4
  unfold O6.psO O6.tot
  simp only
  have a1 : 0 ≤ n * (p * (1000000000 + d)) := Int.mul_nonneg n0 (by omega)
  have a2 : n * (p * (1000000000 + d)) ≤ 67108864 * 1001000000000000000 := Int.mul_le_mul n1 hr.2 (by omega) (by omega)
  generalize n * (p * (1000000000 + d)) = Q at *
  omega
theorem time_any (K : Nat → Prop) (base g : Nat) (x : Nd) (m : Md) (l : List Ac) (n : Int) (w : World) (h : Wk w K base g x m l) (hx : Run x) (n0 : 0 ≤ n) (n1 : n ≤ 67108864) :
    Calls Tryz.prog 79 #[.pointer (some ⟨g, 0, none⟩), .int .i64 n] w fun e w' => e = .returned (.tuple #[.int .i64 (timeT x n), ov (O6.aft x.o n), .int .i64 (timeE x n)]) ∧ Below w.heap.size w w' := by
  obtain ⟨ho, s0, s1⟩ := hx
  obtain ⟨p0, p1⟩ := ps_in ho n0 n1
  have HR := fun w => O6.run_ok x.o n w ho n0 (by omega) (by omega)
  by_cases hT : x.st + O6.psO x.o n ≤ 1152921504606846976
  · rw [show timeT x n = _ from if_pos hT, show timeE x n = _ from if_pos hT]
    exact time_w K base g x m l n _ _ _ _ _ _ w h HR (fun w => O6.add_ok _ _ w (by omega) (by omega) (by omega) (by omega) (by omega) (by omega))
  · rw [show timeT x n = _ from if_neg hT, show timeE x n = _ from if_neg hT]
    exact time_w K base g x m l n _ _ _ _ _ _ w h HR (fun w => O6.add_over _ _ w (by omega) (by omega) (by omega) (by omega) (.inr (by omega)))
theorem timer_any (K : Nat → Prop) (base g : Nat) (x : Nd) (m : Md) (l : List Ac) (n : Int) (w : World) (h : Wk w K base g x m l) (hl : l.length ≤ 1000) (hx : Run x) (n0 : 0 ≤ n) (n1 : n ≤ 67108864) :
    Calls Tryz.prog 73 #[.pointer (some ⟨g, 0, none⟩), .int .i64 n] w (RetW K base g x m (l ++ [timr (timeT x n)]) (.int .i64 (timeE x n)) w) :=
  timer_w K base g x m l n _ _ (O6.aft x.o n) w h hl fun w h => time_any K base g x m l n w h hx n0 n1
end Go.Proofs.YtlgedfljmgedfaaGreat
namespace Go.Proofs.YtlgedfljmgedfaaGreat
open Go Go.RowKit
open M10 (hid Md encm mv mz Oth range_keep there_keep range_other there_other setCells_oth setCells_size there_set Ty enct tv tz Fr encf fv fz)
open O6 (Oc enco ov oz)
open T9 (sv)
/-- It listens. -/
def lisN (x : Nd) (now : Int) : Nd := { x with ph := 1, st := now }
def lisK (x : Nd) (m : Md) : Int := 2 * (m.n + x.id) * m.s
theorem lisK_in {x : Nd} {m : Md} (hm : M10.Ok m) (i0 : 0 ≤ x.id) (i1 : x.id < m.n) : 0 ≤ lisK x m ∧ lisK x m ≤ 67108864 := by
  obtain ⟨h1, h2, h3, h4, _⟩ := hm
  unfold lisK
  have a1 : 0 ≤ 2 * (m.n + x.id) * m.s := Int.mul_nonneg (by omega) (by omega)
  have a2 : 2 * (m.n + x.id) * m.s ≤ 64 * 1048576 := Int.mul_le_mul (by omega) (by omega) (by omega) (by omega)
  omega
set_option maxRecDepth 100000 in
set_option maxHeartbeats 1000000 in
theorem listen_w (K : Nat → Prop) (base g : Nat) (x : Nd) (m : Md) (l : List Ac) (now : Int) (w : World) (h : Wk w K base g x m l) (hl : l.length ≤ 100) (hm : M10.Ok m) (i0 : 0 ≤ x.id) (i1 : x.id < m.n) (ho : O6.Ok x.o) (n0 : 0 ≤ now) (n1 : now ≤ 1152921504606846976) :
    Calls Tryz.prog 32 #[.pointer (some ⟨g, 0, none⟩), .int .i64 now] w (RetW K base g (lisN x now) m (l ++ [note 1 0] ++ [timr (timeT (lisN x now) (lisK x m))]) (.int .i64 (timeE (lisN x now) (lisK x m))) w) := by
  obtain ⟨k0, k1⟩ := lisK_in hm i0 i1
  obtain ⟨q1, q2, q3, q4, _⟩ := id hm
  have H := hid h
  have HT := hid (fun w h => timer_any K base g (lisN x now) m (l ++ [note 1 0]) (lisK x m) w h (by simp; omega) ⟨ho, n0, n1⟩ k0 k1)
  have HN := hid (fun w h => note_any K base g (lisN x now) m l 1 0 w h (by omega))
  have e1 : Hid (IntKind.i64.wrap (m.n + x.id) = m.n + x.id) := hid (by rw [IntKind.wrap_i64]; omega)
  have e2 : Hid (IntKind.i64.wrap (2 * (m.n + x.id)) = 2 * (m.n + x.id)) := hid (by rw [IntKind.wrap_i64]; omega)
  have e3 : Hid (IntKind.i64.wrap (2 * (m.n + x.id) * m.s) = lisK x m) := hid (by rw [show 2 * (m.n + x.id) * m.s = lisK x m from rfl, IntKind.wrap_i64]; omega)
  clear h hl hm i0 i1 ho n0 n1 k0 k1 q1 q2 q3 q4
  generalize timeT (lisN x now) (lisK x m) = T at *
  generalize timeE (lisN x now) (lisK x m) = E at *
  generalize lisK x m = k at *
  go_enter Tryz.func32, Tryz.ntmps32
  go_wp2_with (first
    | (go_at_call 72; (with_reducible refine (HN.out w2 W2.out).mono ?_); rintro e w3 ⟨rfl, W3, k3⟩; have W3 := hid W3)
    | (refine wpList_ws1 (lisN x now) 3 (.int .i64 now) 2 rfl _ _ rfl rfl rfl W1.out (by kernel_rfl) rfl rfl rfl (fun _ _ _ _ _ _ => rfl) (by omega) ?_; intro w2 W2 k2; have W2 := hid W2)
    | (refine wpList_ws1 { x with ph := 1 } 1 (.int .i64 1) 3 rfl _ _ rfl rfl rfl H.out (by kernel_rfl) rfl rfl rfl (fun _ _ _ _ _ _ => rfl) (by omega) ?_; intro w1 W1 k1; have W1 := hid W1))
  have KK := hid ((k1.trans k2).trans k3)
  have c0 : w3.cell? ⟨g, 0, none⟩ = some (.int .i64 x.id) := W3.out.cell fun _ _ _ _ _ _ => rfl
  have c14 : w3.cell? ⟨g, 14, none⟩ = some (.int .i64 m.n) := W3.out.cell fun _ _ _ _ _ _ => rfl
  have c15 : w3.cell? ⟨g, 15, none⟩ = some (.int .i64 m.s) := W3.out.cell fun _ _ _ _ _ _ => rfl
  have e1 := e1.out
  have e2 := e2.out
  have e3 := e3.out
  clear k1 k2 k3 W1 W2 HN H
  go_region_held3 (fun w' => w'.cell? ⟨g, 0, none⟩ = some (.int .i64 x.id) ∧ w'.cell? ⟨g, 14, none⟩ = some (.int .i64 m.n) ∧ w'.cell? ⟨g, 15, none⟩ = some (.int .i64 m.s)) (go_keep)
    (first | (go_at_call 73; (with_reducible refine (HT.out w3.drew W3.out.drew).mono ?_); rintro e w4 ⟨rfl, W4, k4⟩; have W4 := hid W4; have K4 := hid k4; clear k4; have d0 : w4.cell? ⟨g, 0, none⟩ = some (.int .i64 x.id) := W4.out.cell fun _ _ _ _ _ _ => rfl; have d14 : w4.cell? ⟨g, 14, none⟩ = some (.int .i64 m.n) := W4.out.cell fun _ _ _ _ _ _ => rfl; have d15 : w4.cell? ⟨g, 15, none⟩ = some (.int .i64 m.s) := W4.out.cell fun _ _ _ _ _ _ => rfl))
  go_wp2_with fail
  go_ret
  exact ⟨rfl, W4.out, KK.out.drew.trans K4.out⟩
/-! ### start -/
theorem results_cs {w : World} {g : Nat} {cs : List Value} {ty : TypeId} {fn : Func} {p : Tmp} (h : fn.results = #[.cell p ty]) (tmps : Array Value) (hp : tmps.getD p undef = .pointer (some ⟨g, 0, none⟩)) (hx : w.rangeAt g 0 cs) {d : TypeDesc} (hu : Tryz.prog.underlying ty = some d) (hd : d.isRow = true) (hs : (Tryz.prog.info? ty).map (·.size) = some cs.length) :
    (results fn tmps).run Tryz.prog w = .ok (.agg cs.toArray) w := by
  have := run_loadVar_mid (P := Tryz.prog) w g 0 ty cs _ hx hu hd hs
  have hp' : tmps[p]?.getD undef = .pointer (some ⟨g, 0, none⟩) := by simpa using hp
  simp only [results, h]
  simp [hp', this, asAddr]
theorem zero29 (w : World) : (zeroValue 29).run Tryz.prog w = .ok (tv tz) w := by kernel_rfl
theorem one_any (w : World) : Calls Tryz.prog 76 #[] w fun e w' => e = .returned (tv ⟨1, 0⟩) ∧ Below w.heap.size w w' := by
  go_enter Tryz.func76, Tryz.ntmps76
  go_wp2_with (first
    | (refine wpList_gst 29 (enct ⟨1, 0⟩) rfl _ _ rfl rfl rfl v1 (by decide) size29 (M10.enct_one _) ?_; intro w2 v2 b2 o2 s2)
    | (refine wpList_galloc 29 (enct tz) zero29 rfl rfl ?_; intro w1 v1 b1 s1))
  refine bodyPost_ret (results_cs (cs := enct ⟨1, 0⟩) Tryz.results76 _ rfl v2.1 Tryz.underlying29 rfl size29) rfl ?_
  exact ⟨rfl, b1.trans b2⟩
theorem with_id (m : Nat) (i : Int) (w : World) (hm : m < 65536) (i0 : 0 ≤ i) (i1 : i ≤ 15) : Calls Tryz.prog 75 #[.int .u16 (m : Int), .int .i64 i] w fun e w' => e = .returned (.int .u16 (M10.addb m i.toNat : Nat)) ∧ w' = w := by
  have := M10.with_in m i.toNat w hm (by omega)
  rw [show ((i.toNat : Nat) : Int) = i by omega] at this
  exact this.mono fun e w' ⟨h1, h2⟩ => ⟨h1, h2.symm⟩
theorem without_id (m : Nat) (i : Int) (w : World) (hm : m < 65536) (i0 : 0 ≤ i) (i1 : i ≤ 15) : Calls Tryz.prog 92 #[.int .u16 (m : Int), .int .i64 i] w fun e w' => e = .returned (.int .u16 (M10.subb m i.toNat : Nat)) ∧ w' = w := by
  have := M10.without_in m i.toNat w hm (by omega)
  rw [show ((i.toNat : Nat) : Int) = i by omega] at this
  exact this.mono fun e w' ⟨h1, h2⟩ => ⟨h1, h2.symm⟩
theorem has_id (m : Nat) (i : Int) (w : World) (hm : m < 65536) (i0 : 0 ≤ i) (i1 : i ≤ 15) : Calls Tryz.prog 26 #[.int .u16 (m : Int), .int .i64 i] w fun e w' => e = .returned (.bool (M10.hs m i.toNat)) ∧ w' = w := by
  have := M10.has_in m i.toNat w hm (by omega)
  rw [show ((i.toNat : Nat) : Int) = i by omega] at this
  exact this.mono fun e w' ⟨h1, h2⟩ => ⟨h1, h2.symm⟩
/-- The node stored whole, with another list. -/
theorem WkU.setN {K : Nat → Prop} {base g : Nat} {x : Nd} {m : Md} {l : List Ac} {A A' B : Option Addr} {n n' c c' k d : Nat} {w : World} (h : WkU w K base g x m l A n c B k d) (y : Nd) (o : OwnR w base 2 1 A' n' c' (sv y.dv)) (hA : ∀ b, ob A' = some b → ¬ K b ∧ b ≠ g ∧ ob B ≠ some b) :
    Wk (w.setCells g 0 (encn y A' n' c')) K base g y m l ∧ Kept K w (w.setCells g 0 (encn y A' n' c')) := by
  have ho := setCells_oth g (encn y A' n' c') 0 w
  have hs := setCells_size g (encn y A' n' c') 0 w
  refine ⟨⟨A', n', c', B, k, d, ?_, o.oth ho.2 (fun e => (hA g e).2.1 rfl), h.acts.oth ho.2 (fun e => (h.sb g e).2 rfl), h.bg, h.kg, hA, h.sb, by rw [hs]; exact h.kl, by rw [hs]; exact h.bl⟩, Kept.oth ho.1 ho.2 h.kg⟩
  exact h.var.set 0 (encn y A' n' c') (by show 0 + 14 ≤ 20; omega)
theorem Wk.setN {K : Nat → Prop} {base g : Nat} {x : Nd} {m : Md} {l : List Ac} {w : World} (h : Wk w K base g x m l) (y : Nd) (hy : y.dv = []) :
    Wk (w.setCells g 0 (encn y none 0 0)) K base g y m l ∧ Kept K w (w.setCells g 0 (encn y none 0 0)) := by
  obtain ⟨A, n, c, B, k, d, h⟩ := h
  exact h.setN y (by rw [hy]; exact OwnR.nil w base 2 1) (fun b hb => by cases hb)
theorem WkU.fz {K : Nat → Prop} {base g : Nat} {x : Nd} {m : Md} {l : List Ac} {A B : Option Addr} {n c k d : Nat} {w : World} (h : WkU w K base g x m l A n c B k d) {j : Nat} (hj : j < 20) : w.frozen? ⟨g, j, none⟩ = false := h.var.frozen hj
theorem one_lit (w : World) : Calls Tryz.prog 76 #[] w fun e w' => e = .returned (.agg #[.int .i64 1, .int .i64 0]) ∧ Below w.heap.size w w' := one_any w
/-- It starts. -/
def staN (x : Nd) (now : Int) : Nd := ⟨x.id, 2, x.id, now, x.o, 0, M10.addb 0 x.id.toNat, ⟨1, 0⟩, [], false, 0⟩
set_option maxRecDepth 100000 in
set_option maxHeartbeats 2000000 in
theorem start_w (K : Nat → Prop) (base g : Nat) (x : Nd) (m : Md) (l : List Ac) (now : Int) (w : World) (h : Wk w K base g x m l) (hl : l.length ≤ 100) (hm : M10.Ok m) (i0 : 0 ≤ x.id) (i1 : x.id < m.n) (ho : O6.Ok x.o) (n0 : 0 ≤ now) (n1 : now ≤ 1152921504606846976) :
    Calls Tryz.prog 38 #[.pointer (some ⟨g, 0, none⟩), .int .i64 now] w (RetW K base g (staN x now) m (l ++ [note 2 0] ++ [timr (timeT (staN x now) m.l)]) (.int .i64 (timeE (staN x now) m.l)) w) := by
  obtain ⟨q1, q2, q3, q4, q5, q6, q7, q8, q9⟩ := id hm
  have H := hid h
  have HT := hid (fun w h => timer_any K base g (staN x now) m (l ++ [note 2 0]) m.l w h (by simp; omega) ⟨ho, n0, n1⟩ (by omega) (by omega))
  have HN := hid (fun w h => note_any K base g (staN x now) m l 2 0 w h (by omega))
  have HW : Hid (∀ w, Calls Tryz.prog 75 #[.int .u16 0, .int .i64 x.id] w fun e w' => e = .returned (.int .u16 (M10.addb 0 x.id.toNat : Nat)) ∧ w' = w) := hid (fun w => with_id 0 x.id w (by omega) i0 (by omega))
  have eu : IntKind.u64.wrap x.id = x.id := by rw [IntKind.wrap_u64]; omega
  have hgl : g < w.heap.size := by obtain ⟨A, n, c, B, k, d, h⟩ := h; exact h.var.lt (Nat.zero_lt_succ 19)
  have c0 : w.cell? ⟨g, 0, none⟩ = some (.int .i64 x.id) := h.cell fun _ _ _ _ _ _ => rfl
  have c4 : w.cell? ⟨g, 4, none⟩ = some (.int .i64 x.o.p) := h.cell fun _ _ _ _ _ _ => rfl
  have c5 : w.cell? ⟨g, 5, none⟩ = some (.int .i64 x.o.d) := h.cell fun _ _ _ _ _ _ => rfl
  have c6 : w.cell? ⟨g, 6, none⟩ = some (.int .i64 x.o.r) := h.cell fun _ _ _ _ _ _ => rfl
  clear h hl hm i0 i1 ho n0 n1 q1 q2 q3 q4 q5 q6 q7 q8 q9
  generalize timeT (staN x now) m.l = T at *
  generalize timeE (staN x now) m.l = E at *
  go_enter Tryz.func38, Tryz.ntmps38
  go_wp2_with fail
  go_region_held3 (fun w' => w'.cell? ⟨g, 0, none⟩ = some (.int .i64 x.id) ∧ w'.cell? ⟨g, 4, none⟩ = some (.int .i64 x.o.p) ∧ w'.cell? ⟨g, 5, none⟩ = some (.int .i64 x.o.d) ∧ w'.cell? ⟨g, 6, none⟩ = some (.int .i64 x.o.r)) (first | (go_keep; done) | exact ⟨(U2.out.setN (staN x now) (OwnR.nil _ _ _ _) (fun b hb => by cases hb)).1.cell fun _ _ _ _ _ _ => rfl, (U2.out.setN (staN x now) (OwnR.nil _ _ _ _) (fun b hb => by cases hb)).1.cell fun _ _ _ _ _ _ => rfl, (U2.out.setN (staN x now) (OwnR.nil _ _ _ _) (fun b hb => by cases hb)).1.cell fun _ _ _ _ _ _ => rfl, (U2.out.setN (staN x now) (OwnR.nil _ _ _ _) (fun b hb => by cases hb)).1.cell fun _ _ _ _ _ _ => rfl⟩)
    (first
      | (go_at_call 75; (with_reducible refine (HW.out w.drew).mono ?_); rintro e w1 ⟨rfl, rfl⟩)
      | (go_at_call 76; (with_reducible refine (one_lit w.drew).mono ?_); rintro e w2 ⟨rfl, b2⟩; obtain ⟨A, n, c, B, kk, dd, U2⟩ := H.out.drew.below b2; have K2 := hid (H.out.drew.keptb b2); have U2 := hid U2; have d0 : w2.cell? ⟨g, 0, none⟩ = some (.int .i64 x.id) := U2.out.var.cell rfl; have d1 : w2.cell? ⟨g, 1, none⟩ = some (.int .i64 x.ph) := U2.out.var.cell rfl; have d2 : w2.cell? ⟨g, 2, none⟩ = some (.int .u64 x.sl) := U2.out.var.cell rfl; have d3 : w2.cell? ⟨g, 3, none⟩ = some (.int .i64 x.st) := U2.out.var.cell rfl; have d4 : w2.cell? ⟨g, 4, none⟩ = some (.int .i64 x.o.p) := U2.out.var.cell rfl; have d5 : w2.cell? ⟨g, 5, none⟩ = some (.int .i64 x.o.d) := U2.out.var.cell rfl; have d6 : w2.cell? ⟨g, 6, none⟩ = some (.int .i64 x.o.r) := U2.out.var.cell rfl; have d7 : w2.cell? ⟨g, 7, none⟩ = some (.int .i64 x.co) := U2.out.var.cell rfl; have d8 : w2.cell? ⟨g, 8, none⟩ = some (.int .u16 (x.mb : Int)) := U2.out.var.cell rfl; have d9 : w2.cell? ⟨g, 9, none⟩ = some (.int .i64 x.t.g) := U2.out.var.cell rfl; have d10 : w2.cell? ⟨g, 10, none⟩ = some (.int .i64 x.t.b) := U2.out.var.cell rfl; have d11 : w2.cell? ⟨g, 11, none⟩ = some (.slice A n c) := U2.out.var.cell rfl; have d12 : w2.cell? ⟨g, 12, none⟩ = some (.bool x.se) := U2.out.var.cell rfl; have d13 : w2.cell? ⟨g, 13, none⟩ = some (.int .i64 x.vd) := U2.out.var.cell rfl; have f0 := U2.out.fz (j := 0) (by decide); have f1 := U2.out.fz (j := 1) (by decide); have f2 := U2.out.fz (j := 2) (by decide); have f3 := U2.out.fz (j := 3) (by decide); have f4 := U2.out.fz (j := 4) (by decide); have f5 := U2.out.fz (j := 5) (by decide); have f6 := U2.out.fz (j := 6) (by decide); have f7 := U2.out.fz (j := 7) (by decide); have f8 := U2.out.fz (j := 8) (by decide); have f9 := U2.out.fz (j := 9) (by decide); have f10 := U2.out.fz (j := 10) (by decide); have f11 := U2.out.fz (j := 11) (by decide); have f12 := U2.out.fz (j := 12) (by decide); have f13 := U2.out.fz (j := 13) (by decide); clear b2))
  generalize hw3 : World.setCell _ ⟨g, 13, none⟩ _ = w3
  have hw4 : w2.setCells g 0 (encn (staN x now) none 0 0) = w3 := hw3
  obtain ⟨W3, K3⟩ := U2.out.setN (staN x now) (OwnR.nil _ _ _ _) (fun b hb => by cases hb)
  rw [hw4] at W3 K3
  have W3 := hid W3
  have KK := hid ((H.out.keptb ((Below.refl _ w).drew)).trans (K2.out.trans K3))
  clear hw3 hw4 K3 U2 K2 H d0 d1 d2 d3 d4 d5 d6 d7 d8 d9 d10 d11 d12 d13 f0 f1 f2 f3 f4 f5 f6 f7 f8 f9 f10 f11 f12 f13 c0 c4 c5 c6
  have c16 : ∀ w, Wk w K base g (staN x now) m (l ++ [note 2 0]) → w.cell? ⟨g, 16, none⟩ = some (.int .i64 m.l) := fun w h => h.cell fun _ _ _ _ _ _ => rfl
  have C16 := hid c16
  clear c16
  go_wp2_with (first
    | (go_at_call 73; (with_reducible refine (HT.out w4 W4.out).mono ?_); rintro e w5 ⟨rfl, W5, k5⟩)
    | (go_at_call 72; (with_reducible refine (HN.out w3 W3.out).mono ?_); rintro e w4 ⟨rfl, W4, k4⟩; have W4 := hid W4; have d16 := C16.out w4 W4.out))
  go_ret
  exact ⟨rfl, W5, (KK.out.trans k4).trans k5⟩
end Go.Proofs.YtlgedfljmgedfaaGreat
namespace Go.Proofs.YtlgedfljmgedfaaGreat
open Go Go.RowKit
open M10 (hid Md encm mv mz Oth range_keep there_keep range_other there_other setCells_oth setCells_size there_set Ty enct tv tz Fr encf fv fz)
open O6 (Oc enco ov oz)
open T9 (sv)
section
variable {ops : Array Oper} {S : World → Prop} {o : Oper} {a : Act}
/-- The law of the library, what the operation writes into named. -/
theorem tk {Q : Exit → Act → World → Prop} (i : Nat) (d : Option Tmp) (v : Value) {fuel : Nat} {listed : Array Bool} {w : World} (hi : ops[i]? = some o) (hd : o.dst = d) (hs : Region.noSelect ops = true) (hf : Region.free .any ops listed i = true) (hr : (Region.ready .any ops listed).contains i = true)
    (hQ : ∀ c a w, Q (.panic c) (a.put d v) w → Q (.panic c) a w) (hy : YieldsIf Tryz.prog ops S o v a) (hS : S w)
    (h : wpAnyH Tryz.prog .any ops Q S fuel (listed.setIfInBounds i true) (a.put d v) w) : wpAnyH Tryz.prog .any ops Q S (fuel + 1) listed a w := by
  subst hd
  exact wpAnyH_take hi hs hf hr hQ hy hS h
theorem yl1 (ty : TypeId) {y : Operand} {p : Addr} {v : Value} (ho : o.op = .load ty y) (hx : a.eval y = .pointer (some p)) (ha : ∀ w, (isAgg ty).run Tryz.prog w = .ok false w) (hc : ∀ w, S w → w.cell? p = some v) (hw : Region.wanted o (yielded ops a.tmps) = true) : YieldsIf Tryz.prog ops S o v a :=
  .inl ⟨hw, fun w hS => by
    unfold execOp
    simp only [ho, hx, Sem.run_bind, Sem.run_pure, Result.andThen_ok, run_load1 ty p v w (ha w) (hc w hS)]⟩
theorem yls (ty : TypeId) (cs : List Value) {y : Operand} {b off : Nat} (ho : o.op = .load ty y) (hx : a.eval y = .pointer (some ⟨b, off, none⟩)) (hc : ∀ w, S w → w.rangeAt b off cs) {d : TypeDesc} (hu : Tryz.prog.underlying ty = some d) (hd : d.isRow = true) (hs : (Tryz.prog.info? ty).map (·.size) = some cs.length) (hw : Region.wanted o (yielded ops a.tmps) = true) : YieldsIf Tryz.prog ops S o (.agg cs.toArray) a :=
  .inl ⟨hw, fun w hS => by
    unfold execOp
    simp only [ho, hx, Sem.run_bind, Sem.run_pure, Result.andThen_ok, run_loadAt_mid w b off ty cs d (hc w hS) hu hd hs]⟩
theorem ylm {z : Md} {y : Operand} {b off : Nat} (ho : o.op = .load 23 y) (hx : a.eval y = .pointer (some ⟨b, off, none⟩)) (hc : ∀ w, S w → w.rangeAt b off (encm z)) (hw : Region.wanted o (yielded ops a.tmps) = true) : YieldsIf Tryz.prog ops S o (mv z) a := yls 23 (encm z) ho hx hc Tryz.underlying23 rfl size23 hw
theorem ylo {z : Oc} {y : Operand} {b off : Nat} (ho : o.op = .load 26 y) (hx : a.eval y = .pointer (some ⟨b, off, none⟩)) (hc : ∀ w, S w → w.rangeAt b off (enco z)) (hw : Region.wanted o (yielded ops a.tmps) = true) : YieldsIf Tryz.prog ops S o (ov z) a := yls 26 (enco z) ho hx hc Tryz.underlying26 rfl size26 hw
theorem ylf {z : Fr} {y : Operand} {b off : Nat} (ho : o.op = .load 54 y) (hx : a.eval y = .pointer (some ⟨b, off, none⟩)) (hc : ∀ w, S w → w.rangeAt b off (encf z)) (hw : Region.wanted o (yielded ops a.tmps) = true) : YieldsIf Tryz.prog ops S o (fv z) a := yls 54 (encf z) ho hx hc Tryz.underlying54 rfl size54 hw
variable {w : World} {K : Nat → Prop} {base g : Nat} {x : Nd} {m : Md} {l : List Ac} {K' : Act → World → Prop} {Q : Exit → Act → World → Prop}
/-- A load of one cell carried out. -/
theorem wp_l1 (ty : TypeId) {y : Operand} {p : Addr} {v : Value} (ho : o.op = .load ty y) (hx : a.eval y = .pointer (some p)) (ha : ∀ w, (isAgg ty).run Tryz.prog w = .ok false w) (hc : w.cell? p = some v) (h : K' (a.put o.dst v) w) : o.wp Tryz.prog a w K' Q := by
  unfold Oper.wp execOp
  simp only [ho, hx, Sem.run_bind, Sem.run_pure, Result.andThen_ok, run_load1 ty p v w (ha w) hc]
  exact h
theorem wp_ls (ty : TypeId) (cs : List Value) {y : Operand} {b off : Nat} (ho : o.op = .load ty y) (hx : a.eval y = .pointer (some ⟨b, off, none⟩)) (hc : w.rangeAt b off cs) {d : TypeDesc} (hu : Tryz.prog.underlying ty = some d) (hd : d.isRow = true) (hs : (Tryz.prog.info? ty).map (·.size) = some cs.length) (h : K' (a.put o.dst (.agg cs.toArray)) w) : o.wp Tryz.prog a w K' Q := wp_load_mid ty y ho b off hx cs d hc hu hd hs h
/-- Stores into a node at work carried out. -/
theorem wp_ws1 (y : Nd) (off : Nat) (v : Value) (ty : TypeId) {p z : Operand} (ho : o.op = .store ty p z) (hx : a.eval p = .pointer (some ⟨g, off, none⟩)) (hy : a.eval z = v) (hv : Wk w K base g x m l) (hs : (Tryz.prog.info? ty).map (·.size) = some 1) (hc : v.cells = #[v]) (h1 : v.oneCell' = true)
    (hd : y.dv = x.dv) (he : ∀ A n c B k d, encw y A n c m B k d = setv (encw x A n c m B k d) off [v]) (hn : off < 20)
    (h : ∀ w', Wk w' K base g y m l → Kept K w w' → K' (a.put o.dst undef) w') : o.wp Tryz.prog a w K' Q := by
  have ht : w.there g off 1 := by
    obtain ⟨A, n, c, B, k, d, h1, _⟩ := hv
    exact h1.there (by show off + 1 ≤ 20; omega)
  have := run_store1 ty g off v w hs hc h1 ht
  obtain ⟨r1, r2⟩ := hv.set y off [v] hd he (by simp; omega)
  unfold Oper.wp execOp
  simp only [ho, hx, hy, Sem.run_bind, Sem.run_pure, Result.andThen_ok, this]
  exact h _ r1 r2
theorem wp_wsn (y : Nd) (off : Nat) (vs : List Value) (ty : TypeId) {p z : Operand} (ho : o.op = .store ty p z) (hx : a.eval p = .pointer (some ⟨g, off, none⟩)) (hy : a.eval z = .agg vs.toArray) (hv : Wk w K base g x m l) (hs : (Tryz.prog.info? ty).map (·.size) = some vs.length) (h1 : ∀ u ∈ vs, u.oneCell' = true)
    (hd : y.dv = x.dv) (he : ∀ A n c B k d, encw y A n c m B k d = setv (encw x A n c m B k d) off vs) (hn : off + vs.length ≤ 20)
    (h : ∀ w', Wk w' K base g y m l → Kept K w w' → K' (a.put o.dst undef) w') : o.wp Tryz.prog a w K' Q := by
  have ht : w.there g off vs.toArray.size := by
    obtain ⟨A, n, c, B, k, d, h1, _⟩ := hv
    exact h1.there (by show off + vs.toArray.size ≤ 20; simpa using hn)
  obtain ⟨r1, r2⟩ := hv.set y off vs hd he hn
  exact wp_store_mid ty p z ho g off vs.toArray hx hy ht (by simpa using hs) (all_oneCell_toArray h1) (h _ r1 r2)
/-! ### One operation that may come up alone, carried out -/
variable {fuel : Nat} {listed : Array Bool}
theorem rd_l1 (i : Nat) (d : Option Tmp) (v : Value) (ty : TypeId) {y : Operand} {p : Addr} (hr : Region.ready .any ops listed = [i]) (hi : ops[i]? = some o) (hd : o.dst = d) (ho : o.op = .load ty y) (hx : a.eval y = .pointer (some p)) (ha : ∀ w, (isAgg ty).run Tryz.prog w = .ok false w) (hc : w.cell? p = some v) (hw : Region.wanted o (yielded ops a.tmps) = true) (hS : S w)
    (h : wpAnyH Tryz.prog .any ops Q S fuel (listed.setIfInBounds i true) (a.put d v) w) : wpAnyH Tryz.prog .any ops Q S (fuel + 1) listed a w := by
  subst hd
  refine wpAnyH_ready hr (by simp) (AllReadyH.cons hi (fun K hK => ?_) AllReadyH.nil)
  rw [if_pos hw]
  exact wp_l1 ty ho hx ha hc (hK.out _ _ hS fun _ => h)
theorem rd_ls (i : Nat) (d : Option Tmp) (ty : TypeId) (cs : List Value) {y : Operand} {b off : Nat} (hr : Region.ready .any ops listed = [i]) (hi : ops[i]? = some o) (hd : o.dst = d) (ho : o.op = .load ty y) (hx : a.eval y = .pointer (some ⟨b, off, none⟩)) (hc : w.rangeAt b off cs) {t : TypeDesc} (hu : Tryz.prog.underlying ty = some t) (ht : t.isRow = true) (hs : (Tryz.prog.info? ty).map (·.size) = some cs.length) (hw : Region.wanted o (yielded ops a.tmps) = true) (hS : S w)
    (h : wpAnyH Tryz.prog .any ops Q S fuel (listed.setIfInBounds i true) (a.put d (.agg cs.toArray)) w) : wpAnyH Tryz.prog .any ops Q S (fuel + 1) listed a w := by
  subst hd
  refine wpAnyH_ready hr (by simp) (AllReadyH.cons hi (fun K hK => ?_) AllReadyH.nil)
  rw [if_pos hw]
  exact wp_ls ty cs ho hx hc hu ht hs (hK.out _ _ hS fun _ => h)
theorem rd_cl (i : Nat) (d : Option Tmp) (f : FuncId) (args : Array Value) (v : Value) {R : World → Prop} (hr : Region.ready .any ops listed = [i]) (hi : ops[i]? = some o) (hd : o.dst = d) (he : (execOp a.eval o).run Tryz.prog w = .ok (.enter f args) w) (hc : Calls Tryz.prog f args w fun e w' => e = .returned v ∧ R w') (hw : Region.wanted o (yielded ops a.tmps) = true)
    (h : ∀ w', R w' → S w' ∧ wpAnyH Tryz.prog .any ops Q S fuel (listed.setIfInBounds i true) (a.put d v) w') : wpAnyH Tryz.prog .any ops Q S (fuel + 1) listed a w := by
  subst hd
  refine wpAnyH_ready hr (by simp) (AllReadyH.cons hi (fun K hK => ?_) AllReadyH.nil)
  rw [if_pos hw]
  unfold Oper.wp
  rw [he]
  refine hc.mono ?_
  rintro e w' ⟨rfl, h2⟩
  exact hK.out _ _ (h w' h2).1 fun _ => (h w' h2).2
theorem rd_ws1 (y : Nd) (i : Nat) (off : Nat) (v : Value) (ty : TypeId) {p z : Operand} (hr : Region.ready .any ops listed = [i]) (hi : ops[i]? = some o) (hd : o.dst = none) (ho : o.op = .store ty p z) (hx : a.eval p = .pointer (some ⟨g, off, none⟩)) (hy : a.eval z = v) (hv : Wk w K base g x m l) (hs : (Tryz.prog.info? ty).map (·.size) = some 1) (hc : v.cells = #[v]) (h1 : v.oneCell' = true)
    (hdv : y.dv = x.dv) (he : ∀ A n c B k d, encw y A n c m B k d = setv (encw x A n c m B k d) off [v]) (hn : off < 20) (hw : Region.wanted o (yielded ops a.tmps) = true)
    (h : ∀ w', Wk w' K base g y m l → Kept K w w' → S w' ∧ wpAnyH Tryz.prog .any ops Q S fuel (listed.setIfInBounds i true) a w') : wpAnyH Tryz.prog .any ops Q S (fuel + 1) listed a w := by
  refine wpAnyH_ready hr (by simp) (AllReadyH.cons hi (fun K hK => ?_) AllReadyH.nil)
  rw [if_pos hw]
  refine wp_ws1 y off v ty ho hx hy hv hs hc h1 hdv he hn fun w' r1 r2 => ?_
  rw [show a.put o.dst undef = a by rw [hd]; rfl]
  exact hK.out _ _ (h w' r1 r2).1 fun _ => (h w' r1 r2).2
theorem rd_wsn (y : Nd) (i : Nat) (off : Nat) (vs : List Value) (ty : TypeId) {p z : Operand} (hr : Region.ready .any ops listed = [i]) (hi : ops[i]? = some o) (hd : o.dst = none) (ho : o.op = .store ty p z) (hx : a.eval p = .pointer (some ⟨g, off, none⟩)) (hy : a.eval z = .agg vs.toArray) (hv : Wk w K base g x m l) (hs : (Tryz.prog.info? ty).map (·.size) = some vs.length) (h1 : ∀ u ∈ vs, u.oneCell' = true)
    (hdv : y.dv = x.dv) (he : ∀ A n c B k d, encw y A n c m B k d = setv (encw x A n c m B k d) off vs) (hn : off + vs.length ≤ 20) (hw : Region.wanted o (yielded ops a.tmps) = true)
    (h : ∀ w', Wk w' K base g y m l → Kept K w w' → S w' ∧ wpAnyH Tryz.prog .any ops Q S fuel (listed.setIfInBounds i true) a w') : wpAnyH Tryz.prog .any ops Q S (fuel + 1) listed a w := by
  refine wpAnyH_ready hr (by simp) (AllReadyH.cons hi (fun K hK => ?_) AllReadyH.nil)
  rw [if_pos hw]
  refine wp_wsn y off vs ty ho hx hy hv hs h1 hdv he hn fun w' r1 r2 => ?_
  rw [show a.put o.dst undef = a by rw [hd]; rfl]
  exact hK.out _ _ (h w' r1 r2).1 fun _ => (h w' r1 r2).2
end
end Go.Proofs.YtlgedfljmgedfaaGreat
