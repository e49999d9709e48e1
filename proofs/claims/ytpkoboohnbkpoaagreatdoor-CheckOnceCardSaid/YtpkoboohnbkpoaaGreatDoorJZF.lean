/-
  The contract of check.forms: the map of all forms, under: the numbers that a world is made of hold what the program lays (LaidC).
-/
import Derived.Test.YtpkoboohnbkpoaaGreatDoorJZM
import Derived.Deep.CutBlock
import Derived.Deep.DeepCutAuto
namespace Go.Proofs.YtpkoboohnbkpoaaGreatDoor
open Go Go.RowKit Go.Maps

/-- The three package variables of check hold what the program lays. -/
structure LaidC (w : World) : Prop where
  period : w.rangeAt 0 0 (encNr nPeriod)
  when_ : w.rangeAt 1 0 (encNr nWhen)
  drift : w.rangeAt 2 0 (encNr nDrift)
theorem LaidC.below {w w' : World} (h : LaidC w) (hb : Below w.heap.size w w') : LaidC w' :=
  ⟨range_keep h.period (range_lt h.period) hb, range_keep h.when_ (range_lt h.when_) hb, range_keep h.drift (range_lt h.drift) hb⟩

theorem bs_run1 (x : Nr) (w : World) : (Instr.buildSlice 101 1 #[(0, nrS.val x)]).run Tryz.prog w = .ok (.slice (some ⟨w.heap.size, 0, none⟩) 1 1) (w.alloc (.cells (nrS.flat [x]).toArray 116)) := by kernel_rfl
theorem bs_run2 (x y : Nr) (w : World) : (Instr.buildSlice 101 2 #[(0, nrS.val x), (1, nrS.val y)]).run Tryz.prog w = .ok (.slice (some ⟨w.heap.size, 0, none⟩) 2 2) (w.alloc (.cells (nrS.flat [x, y]).toArray 116)) := by kernel_rfl
theorem bs_run3 (x y z : Nr) (w : World) : (Instr.buildSlice 101 3 #[(0, nrS.val x), (1, nrS.val y), (2, nrS.val z)]).run Tryz.prog w = .ok (.slice (some ⟨w.heap.size, 0, none⟩) 3 3) (w.alloc (.cells (nrS.flat [x, y, z]).toArray 116)) := by kernel_rfl
theorem bs_run4 (x y z u : Nr) (w : World) : (Instr.buildSlice 101 4 #[(0, nrS.val x), (1, nrS.val y), (2, nrS.val z), (3, nrS.val u)]).run Tryz.prog w = .ok (.slice (some ⟨w.heap.size, 0, none⟩) 4 4) (w.alloc (.cells (nrS.flat [x, y, z, u]).toArray 116)) := by kernel_rfl
section
variable {w : World} {ops : Array Oper} {rest : List Oper} {o : Oper} {a : Act} {Q : Exit → Act → World → Prop}
theorem bs_step {n : Nat} {ps : Array (Nat × Operand)} {us : Array (Nat × Value)} {xs : List Nr} (hg : o.guard = none) (ho : o.op = .buildSlice 101 n ps) (hu : ps.map (fun p => (p.1, a.eval p.2)) = us)
    (hr : (Instr.buildSlice 101 n us).run Tryz.prog w = .ok (.slice (some ⟨w.heap.size, 0, none⟩) n n) (w.alloc (.cells (nrS.flat xs).toArray 116)))
    (h : ∀ w', w'.rangeAt w.heap.size 0 (nrS.flat xs) → Below w.heap.size w w' → Hid (w'.heap.size = w.heap.size + 1) → wpList Tryz.prog ops Q rest (a.put o.dst (.slice (some ⟨w.heap.size, 0, none⟩) n n)) w') : wpList Tryz.prog ops Q (o :: rest) a w := by
  refine wpList_plain hg fun K hK => ?_
  unfold Oper.wp execOp
  simp only [ho, Sem.run_bind]
  have e : (ps.map fun (x : Nat × Operand) => (x.1, a.eval x.2)) = us := hu
  rw [e, hr]
  simp only [Sem.run_pure, Result.andThen_ok]
  exact hK _ _ (h _ (range_new w _ _) ((Below.refl _ _).alloc (Nat.le_refl _) _) (hid (by simp)))
theorem bs_step1 {x0 : Nr} (e0 : Operand) (hg : o.guard = none) (ho : o.op = .buildSlice 101 1 #[(0, e0)]) (h0 : a.eval e0 = nrS.val x0)
    (h : ∀ w', w'.rangeAt w.heap.size 0 (nrS.flat [x0]) → Below w.heap.size w w' → Hid (w'.heap.size = w.heap.size + 1) → wpList Tryz.prog ops Q rest (a.put o.dst (.slice (some ⟨w.heap.size, 0, none⟩) 1 1)) w') : wpList Tryz.prog ops Q (o :: rest) a w :=
  bs_step hg ho (by simp only [List.map_toArray, List.map_cons, List.map_nil, h0]) (bs_run1 x0 w) h
theorem bs_step2 {x0 x1 : Nr} (e0 e1 : Operand) (hg : o.guard = none) (ho : o.op = .buildSlice 101 2 #[(0, e0), (1, e1)]) (h0 : a.eval e0 = nrS.val x0) (h1 : a.eval e1 = nrS.val x1)
    (h : ∀ w', w'.rangeAt w.heap.size 0 (nrS.flat [x0, x1]) → Below w.heap.size w w' → Hid (w'.heap.size = w.heap.size + 1) → wpList Tryz.prog ops Q rest (a.put o.dst (.slice (some ⟨w.heap.size, 0, none⟩) 2 2)) w') : wpList Tryz.prog ops Q (o :: rest) a w :=
  bs_step hg ho (by simp only [List.map_toArray, List.map_cons, List.map_nil, h0, h1]) (bs_run2 x0 x1 w) h
theorem bs_step3 {x0 x1 x2 : Nr} (e0 e1 e2 : Operand) (hg : o.guard = none) (ho : o.op = .buildSlice 101 3 #[(0, e0), (1, e1), (2, e2)]) (h0 : a.eval e0 = nrS.val x0) (h1 : a.eval e1 = nrS.val x1) (h2 : a.eval e2 = nrS.val x2)
    (h : ∀ w', w'.rangeAt w.heap.size 0 (nrS.flat [x0, x1, x2]) → Below w.heap.size w w' → Hid (w'.heap.size = w.heap.size + 1) → wpList Tryz.prog ops Q rest (a.put o.dst (.slice (some ⟨w.heap.size, 0, none⟩) 3 3)) w') : wpList Tryz.prog ops Q (o :: rest) a w :=
  bs_step hg ho (by simp only [List.map_toArray, List.map_cons, List.map_nil, h0, h1, h2]) (bs_run3 x0 x1 x2 w) h
theorem bs_step4 {x0 x1 x2 x3 : Nr} (e0 e1 e2 e3 : Operand) (hg : o.guard = none) (ho : o.op = .buildSlice 101 4 #[(0, e0), (1, e1), (2, e2), (3, e3)]) (h0 : a.eval e0 = nrS.val x0) (h1 : a.eval e1 = nrS.val x1) (h2 : a.eval e2 = nrS.val x2) (h3 : a.eval e3 = nrS.val x3)
    (h : ∀ w', w'.rangeAt w.heap.size 0 (nrS.flat [x0, x1, x2, x3]) → Below w.heap.size w w' → Hid (w'.heap.size = w.heap.size + 1) → wpList Tryz.prog ops Q rest (a.put o.dst (.slice (some ⟨w.heap.size, 0, none⟩) 4 4)) w') : wpList Tryz.prog ops Q (o :: rest) a w :=
  bs_step hg ho (by simp only [List.map_toArray, List.map_cons, List.map_nil, h0, h1, h2, h3]) (bs_run4 x0 x1 x2 x3 w) h
end
/-- While the map of forms is made: the two numbers in variables, the map, the package variables. -/
structure FmS (w0 w : World) (g1 g2 B : Nat) (L : List ((List UInt8 × Fm) × Nat)) : Prop where
  lc : LaidC w
  v1 : nrS.Var w g1 nNode
  v2 : nrS.Var w g2 nTicks
  fm : FmT w B w0.heap.size L
  bel : Below w0.heap.size w0 w
  ne1 : g1 ≠ B
  ne2 : g2 ≠ B
  ne : ∀ p ∈ L, p.2 ≠ B
  lc0 : LaidC w0
theorem LaidC.other {w w' : World} {B : Nat} (h : LaidC w) (ho : Oth B w w') (h1 : 0 ≠ B) (h2 : 1 ≠ B) (h3 : 2 ≠ B) : LaidC w' :=
  ⟨range_other h.period h1 ho, range_other h.when_ h2 ho, range_other h.drift h3 ho⟩
section
variable {w0 w w' : World} {g1 g2 B g : Nat} {L : List ((List UInt8 × Fm) × Nat)}
theorem FmS.below (h : FmS w0 w g1 g2 B L) (hb : Below w.heap.size w w') : FmS w0 w' g1 g2 B L :=
  ⟨h.lc.below hb, h.v1.keep hb, h.v2.keep hb, h.fm.below hb, h.bel.trans (hb.mono h.bel.size), h.ne1, h.ne2, h.ne, h.lc0⟩
theorem FmS.start (hC : LaidC w0) (hb : Below w0.heap.size w0 w) (v1 : nrS.Var w g1 nNode) (v2 : nrS.Var w g2 nTicks) (m5 : Mp w' w.heap.size #[] 0) (b5 : Below w.heap.size w w') : FmS w0 w' g1 g2 w.heap.size [] :=
  ⟨hC.below (hb.trans (b5.mono hb.size)), v1.keep b5, v2.keep b5, FmT.start m5 hb.size, hb.trans (b5.mono hb.size), Nat.ne_of_lt v1.lt, Nat.ne_of_lt v2.lt, (fun p hp => by cases hp), hC⟩
theorem FmS.ge (h : FmS w0 w g1 g2 B L) : w0.heap.size ≤ w.heap.size := h.bel.size
theorem FmS.le (h : FmS w0 w g1 g2 B L) : B < w.heap.size := h.fm.mp.lt
variable {ops : Array Oper} {rest : List Oper} {o : Oper} {a : Act} {Q : Exit → Act → World → Prop}
theorem wp_insF {s : List UInt8} {f : Fm} {w1 : World} (hg : o.guard = none) (m x v : Operand) {t e : TypeId} (ho : o.op = .insert t m x v) (ht : Tryz.prog.underlying t = some (.map 9 e))
    (hm : a.eval m = .map (some B)) (hx : a.eval x = .string (strB s)) (hv : a.eval v = feS.val (feOf f w1.heap.size)) (H : FmS w0 w g1 g2 B L) (R : w.rangeAt w1.heap.size 0 (nrS.flat f.nums))
    (S : FmS w0 w g1 g2 B L ∧ w0.heap.size ≤ w1.heap.size ∧ Hid (w.heap.size = w1.heap.size + 1) ∧ B < w1.heap.size) (hf : fndL (entL L) s = none)
    (h : ∀ w', FmS w0 w' g1 g2 B (L ++ [((s, f), w1.heap.size)]) → wpList Tryz.prog ops Q rest (a.put o.dst undef) w') : wpList Tryz.prog ops Q (o :: rest) a w := by
  have hs := S.2.2.1.out
  refine wp_ins hg m x v ho ht hm hx hv H.fm.mp hf fun w' h1 h2 h3 h4 => h w' ?_
  have hp : 0 ≠ B := fun e => by have := range_lt H.lc0.period; have := H.fm.ge; omega
  have hw : 1 ≠ B := fun e => by have := range_lt H.lc0.when_; have := H.fm.ge; omega
  have hd : 2 ≠ B := fun e => by have := range_lt H.lc0.drift; have := H.fm.ge; omega
  refine ⟨H.lc.other h3 hp hw hd, H.v1.other h3 H.ne1, H.v2.other h3 H.ne2, H.fm.push h1 h3 h4 S.2.1 (by omega) R (by have := S.2.2.2; omega) H.ne, H.bel.trans (h2.mono H.fm.ge), H.ne1, H.ne2, fun p hp => ?_, H.lc0⟩
  rcases List.mem_append.1 hp with hp | hp
  · exact H.ne p hp
  · simp only [List.mem_singleton] at hp
    subst hp
    have := S.2.2.2
    simp only
    omega
end
set_option maxRecDepth 100000 in
set_option maxHeartbeats 4000000 in
theorem forms_any (w : World) (hC : LaidC w) : Calls Tryz.prog 52 #[] w fun e w' => ∃ B, e = .returned (.map (some B)) ∧ Fms w' B w.heap.size ∧ Below w.heap.size w w' := by
  have HC := hid hC
  clear hC
  go_enter Tryz.func52, Tryz.ntmps52
  go_upto_region 3 with (first
    | (refine Sh.wp_sv nrS (x := nTicks) rfl (.tmp 2) (.tmp 4) rfl rfl (by rfl) X3.out.2.2 ?_; intro w4 q4 b4 o4 s4; have X4 := hid (show Below w.heap.size w w4 ∧ nrS.Var w4 _ nNode ∧ nrS.Var w4 _ nTicks from ⟨X3.out.1.trans (b4.mono X2.out.1.size), X3.out.2.1.below b4 X2.out.2.lt, q4⟩); clear X3 q4 b4 o4 s4)
    | (refine Sh.wp_al nrS rfl rfl ?_; intro w3 q3 b3 s3; have k9 := X2.out; have X3 := hid (show Below w.heap.size w w3 ∧ nrS.Var w3 _ nNode ∧ nrS.Var w3 _ _ from ⟨X2.out.1.trans (b3.mono X2.out.1.size), X2.out.2.keep b3, q3⟩); clear q3 b3 s3 k9)
    | (refine Sh.wp_sv nrS (x := nNode) rfl (.tmp 1) (.tmp 3) rfl rfl (by rfl) X1.out.2 ?_; intro w2 q2 b2 o2 s2; have X2 := hid (show Below w.heap.size w w2 ∧ nrS.Var w2 _ nNode from ⟨X1.out.1.trans b2, q2⟩); clear X1 q2 b2 o2 s2)
    | (refine Sh.wp_al nrS rfl rfl ?_; intro w1 q1 b1 s1; have X1 := hid (show Below w.heap.size w w1 ∧ nrS.Var w1 w.heap.size _ from ⟨b1, q1⟩); clear q1 b1 s1))
  dsimp only [List.append]
  go_wp2_with (first
    | (have hk := tk0; clear hk; refine bs_step1 (x0 := ⟨false, 2, 16⟩) _ rfl rfl rfl ?_; intro w6 r6 b6 s6; have R := hid r6; have S := hid (And.intro (H.out.below b6) (And.intro H.out.ge (And.intro s6 H.out.le))); have H := hid (H.out.below b6); clear r6 b6 s6; clear tk0; have tk1 := trivial)
    | (have hk := tk1; clear hk; refine wp_insF (s := wNodes) (f := ⟨[⟨false, 2, 16⟩], 0, true, false⟩) rfl _ _ _ rfl Tryz.underlying78 rfl rfl rfl H.out R.out S.out rfl ?_; intro w5 h5; have H := hid h5; clear h5 R S; clear tk1; have tk2 := trivial)
    | (have hk := tk2; clear hk; refine Sh.wp_ld nrS rfl (.global 0) rfl rfl H.out.lc.period ?_; clear tk2; have tk3 := trivial)
    | (have hk := tk3; clear hk; refine bs_step1 (x0 := nPeriod) _ rfl rfl rfl ?_; intro w6 r6 b6 s6; have R := hid r6; have S := hid (And.intro (H.out.below b6) (And.intro H.out.ge (And.intro s6 H.out.le))); have H := hid (H.out.below b6); clear r6 b6 s6; clear tk3; have tk4 := trivial)
    | (have hk := tk4; clear hk; refine wp_insF (s := wTick) (f := ⟨[nPeriod], 0, true, false⟩) rfl _ _ _ rfl Tryz.underlying78 rfl rfl rfl H.out R.out S.out rfl ?_; intro w5 h5; have H := hid h5; clear h5 R S; clear tk4; have tk5 := trivial)
    | (have hk := tk5; clear hk; refine Sh.wp_ld nrS rfl (.tmp 2) rfl rfl H.out.v2.1 ?_; clear tk5; have tk6 := trivial)
    | (have hk := tk6; clear hk; refine Sh.wp_ld nrS rfl (.tmp 2) rfl rfl H.out.v2.1 ?_; clear tk6; have tk7 := trivial)
    | (have hk := tk7; clear hk; refine Sh.wp_ld nrS rfl (.tmp 2) rfl rfl H.out.v2.1 ?_; clear tk7; have tk8 := trivial)
    | (have hk := tk8; clear hk; refine Sh.wp_ld nrS rfl (.tmp 2) rfl rfl H.out.v2.1 ?_; clear tk8; have tk9 := trivial)
    | (have hk := tk9; clear hk; refine bs_step4 (x0 := nTicks) (x1 := nTicks) (x2 := nTicks) (x3 := nTicks) _ _ _ _ rfl rfl rfl rfl rfl rfl ?_; intro w6 r6 b6 s6; have R := hid r6; have S := hid (And.intro (H.out.below b6) (And.intro H.out.ge (And.intro s6 H.out.le))); have H := hid (H.out.below b6); clear r6 b6 s6; clear tk9; have tk10 := trivial)
    | (have hk := tk10; clear hk; refine wp_insF (s := wSlot) (f := ⟨[nTicks, nTicks, nTicks, nTicks], 0, true, false⟩) rfl _ _ _ rfl Tryz.underlying78 rfl rfl rfl H.out R.out S.out rfl ?_; intro w5 h5; have H := hid h5; clear h5 R S; clear tk10; have tk11 := trivial)
    | (have hk := tk11; clear hk; refine Sh.wp_ld nrS rfl (.global 1) rfl rfl H.out.lc.when_ ?_; clear tk11; have tk12 := trivial)
    | (have hk := tk12; clear hk; refine bs_step1 (x0 := nWhen) _ rfl rfl rfl ?_; intro w6 r6 b6 s6; have R := hid r6; have S := hid (And.intro (H.out.below b6) (And.intro H.out.ge (And.intro s6 H.out.le))); have H := hid (H.out.below b6); clear r6 b6 s6; clear tk12; have tk13 := trivial)
    | (have hk := tk13; clear hk; refine wp_insF (s := wHorizon) (f := ⟨[nWhen], 0, true, false⟩) rfl _ _ _ rfl Tryz.underlying78 rfl rfl rfl H.out R.out S.out rfl ?_; intro w5 h5; have H := hid h5; clear h5 R S; clear tk13; have tk14 := trivial)
    | (have hk := tk14; clear hk; refine Sh.wp_ld nrS rfl (.tmp 1) rfl rfl H.out.v1.1 ?_; clear tk14; have tk15 := trivial)
    | (have hk := tk15; clear hk; refine Sh.wp_ld nrS rfl (.global 2) rfl rfl H.out.lc.drift ?_; clear tk15; have tk16 := trivial)
    | (have hk := tk16; clear hk; refine bs_step2 (x0 := nNode) (x1 := nDrift) _ _ rfl rfl rfl rfl ?_; intro w6 r6 b6 s6; have R := hid r6; have S := hid (And.intro (H.out.below b6) (And.intro H.out.ge (And.intro s6 H.out.le))); have H := hid (H.out.below b6); clear r6 b6 s6; clear tk16; have tk17 := trivial)
    | (have hk := tk17; clear hk; refine wp_insF (s := wDrift) (f := ⟨[nNode, nDrift], 1, true, false⟩) rfl _ _ _ rfl Tryz.underlying78 rfl rfl rfl H.out R.out S.out rfl ?_; intro w5 h5; have H := hid h5; clear h5 R S; clear tk17; have tk18 := trivial)
    | (have hk := tk18; clear hk; refine Sh.wp_ld nrS rfl (.tmp 1) rfl rfl H.out.v1.1 ?_; clear tk18; have tk19 := trivial)
    | (have hk := tk19; clear hk; refine Sh.wp_ld nrS rfl (.tmp 1) rfl rfl H.out.v1.1 ?_; clear tk19; have tk20 := trivial)
    | (have hk := tk20; clear hk; refine bs_step3 (x0 := nNode) (x1 := nNode) (x2 := ⟨true, 0, 1099511627776⟩) _ _ _ rfl rfl rfl rfl rfl ?_; intro w6 r6 b6 s6; have R := hid r6; have S := hid (And.intro (H.out.below b6) (And.intro H.out.ge (And.intro s6 H.out.le))); have H := hid (H.out.below b6); clear r6 b6 s6; clear tk20; have tk21 := trivial)
    | (have hk := tk21; clear hk; refine wp_insF (s := wDelay) (f := ⟨[nNode, nNode, ⟨true, 0, 1099511627776⟩], 2, true, false⟩) rfl _ _ _ rfl Tryz.underlying78 rfl rfl rfl H.out R.out S.out rfl ?_; intro w5 h5; have H := hid h5; clear h5 R S; clear tk21; have tk22 := trivial)
    | (have hk := tk22; clear hk; refine Sh.wp_ld nrS rfl (.tmp 1) rfl rfl H.out.v1.1 ?_; clear tk22; have tk23 := trivial)
    | (have hk := tk23; clear hk; refine Sh.wp_ld nrS rfl (.global 1) rfl rfl H.out.lc.when_ ?_; clear tk23; have tk24 := trivial)
    | (have hk := tk24; clear hk; refine bs_step2 (x0 := nNode) (x1 := nWhen) _ _ rfl rfl rfl rfl ?_; intro w6 r6 b6 s6; have R := hid r6; have S := hid (And.intro (H.out.below b6) (And.intro H.out.ge (And.intro s6 H.out.le))); have H := hid (H.out.below b6); clear r6 b6 s6; clear tk24; have tk25 := trivial)
    | (have hk := tk25; clear hk; refine wp_insF (s := wPower) (f := ⟨[nNode, nWhen], 1, true, false⟩) rfl _ _ _ rfl Tryz.underlying78 rfl rfl rfl H.out R.out S.out rfl ?_; intro w5 h5; have H := hid h5; clear h5 R S; clear tk25; have tk26 := trivial)
    | (have hk := tk26; clear hk; refine bs_step1 (x0 := ⟨false, 0, 1⟩) _ rfl rfl rfl ?_; intro w6 r6 b6 s6; have R := hid r6; have S := hid (And.intro (H.out.below b6) (And.intro H.out.ge (And.intro s6 H.out.le))); have H := hid (H.out.below b6); clear r6 b6 s6; clear tk26; have tk27 := trivial)
    | (have hk := tk27; clear hk; refine wp_insF (s := wGuard) (f := ⟨[⟨false, 0, 1⟩], 0, true, false⟩) rfl _ _ _ rfl Tryz.underlying78 rfl rfl rfl H.out R.out S.out rfl ?_; intro w5 h5; have H := hid h5; clear h5 R S; clear tk27; have tk28 := trivial)
    | (have hk := tk28; clear hk; refine Sh.wp_ld nrS rfl (.tmp 1) rfl rfl H.out.v1.1 ?_; clear tk28; have tk29 := trivial)
    | (have hk := tk29; clear hk; refine Sh.wp_ld nrS rfl (.global 1) rfl rfl H.out.lc.when_ ?_; clear tk29; have tk30 := trivial)
    | (have hk := tk30; clear hk; refine Sh.wp_ld nrS rfl (.global 1) rfl rfl H.out.lc.when_ ?_; clear tk30; have tk31 := trivial)
    | (have hk := tk31; clear hk; refine bs_step3 (x0 := nNode) (x1 := nWhen) (x2 := nWhen) _ _ _ rfl rfl rfl rfl rfl ?_; intro w6 r6 b6 s6; have R := hid r6; have S := hid (And.intro (H.out.below b6) (And.intro H.out.ge (And.intro s6 H.out.le))); have H := hid (H.out.below b6); clear r6 b6 s6; clear tk31; have tk32 := trivial)
    | (have hk := tk32; clear hk; refine wp_insF (s := wSilence) (f := ⟨[nNode, nWhen, nWhen], 1, false, false⟩) rfl _ _ _ rfl Tryz.underlying78 rfl rfl rfl H.out R.out S.out rfl ?_; intro w5 h5; have H := hid h5; clear h5 R S; clear tk32; have tk33 := trivial)
    | (have hk := tk33; clear hk; refine Sh.wp_ld nrS rfl (.tmp 1) rfl rfl H.out.v1.1 ?_; clear tk33; have tk34 := trivial)
    | (have hk := tk34; clear hk; refine Sh.wp_ld nrS rfl (.global 1) rfl rfl H.out.lc.when_ ?_; clear tk34; have tk35 := trivial)
    | (have hk := tk35; clear hk; refine Sh.wp_ld nrS rfl (.global 1) rfl rfl H.out.lc.when_ ?_; clear tk35; have tk36 := trivial)
    | (have hk := tk36; clear hk; refine bs_step3 (x0 := nNode) (x1 := nWhen) (x2 := nWhen) _ _ _ rfl rfl rfl rfl rfl ?_; intro w6 r6 b6 s6; have R := hid r6; have S := hid (And.intro (H.out.below b6) (And.intro H.out.ge (And.intro s6 H.out.le))); have H := hid (H.out.below b6); clear r6 b6 s6; clear tk36; have tk37 := trivial)
    | (have hk := tk37; clear hk; refine wp_insF (s := wCorrupt) (f := ⟨[nNode, nWhen, nWhen], 1, false, false⟩) rfl _ _ _ rfl Tryz.underlying78 rfl rfl rfl H.out R.out S.out rfl ?_; intro w5 h5; have H := hid h5; clear h5 R S; clear tk37; have tk38 := trivial)
    | (have hk := tk38; clear hk; refine Sh.wp_ld nrS rfl (.global 1) rfl rfl H.out.lc.when_ ?_; clear tk38; have tk39 := trivial)
    | (have hk := tk39; clear hk; refine Sh.wp_ld nrS rfl (.global 1) rfl rfl H.out.lc.when_ ?_; clear tk39; have tk40 := trivial)
    | (have hk := tk40; clear hk; refine bs_step3 (x0 := ⟨false, 0, 1⟩) (x1 := nWhen) (x2 := nWhen) _ _ _ rfl rfl rfl rfl rfl ?_; intro w6 r6 b6 s6; have R := hid r6; have S := hid (And.intro (H.out.below b6) (And.intro H.out.ge (And.intro s6 H.out.le))); have H := hid (H.out.below b6); clear r6 b6 s6; clear tk40; have tk41 := trivial)
    | (have hk := tk41; clear hk; refine wp_insF (s := wCut) (f := ⟨[⟨false, 0, 1⟩, nWhen, nWhen], 0, false, false⟩) rfl _ _ _ rfl Tryz.underlying78 rfl rfl rfl H.out R.out S.out rfl ?_; intro w5 h5; have H := hid h5; clear h5 R S; clear tk41; have tk42 := trivial)
    | (have hk := tk42; clear hk; refine Sh.wp_ld nrS rfl (.tmp 1) rfl rfl H.out.v1.1 ?_; clear tk42; have tk43 := trivial)
    | (have hk := tk43; clear hk; refine Sh.wp_ld nrS rfl (.global 1) rfl rfl H.out.lc.when_ ?_; clear tk43; have tk44 := trivial)
    | (have hk := tk44; clear hk; refine bs_step2 (x0 := nNode) (x1 := nWhen) _ _ rfl rfl rfl rfl ?_; intro w6 r6 b6 s6; have R := hid r6; have S := hid (And.intro (H.out.below b6) (And.intro H.out.ge (And.intro s6 H.out.le))); have H := hid (H.out.below b6); clear r6 b6 s6; clear tk44; have tk45 := trivial)
    | (have hk := tk45; clear hk; refine wp_insF (s := wBabble) (f := ⟨[nNode, nWhen], 1, false, false⟩) rfl _ _ _ rfl Tryz.underlying78 rfl rfl rfl H.out R.out S.out rfl ?_; intro w5 h5; have H := hid h5; clear h5 R S; clear tk45; have tk46 := trivial)
    | (have hk := tk46; clear hk; refine Sh.wp_ld nrS rfl (.tmp 1) rfl rfl H.out.v1.1 ?_; clear tk46; have tk47 := trivial)
    | (have hk := tk47; clear hk; refine Sh.wp_ld nrS rfl (.global 1) rfl rfl H.out.lc.when_ ?_; clear tk47; have tk48 := trivial)
    | (have hk := tk48; clear hk; refine bs_step2 (x0 := nNode) (x1 := nWhen) _ _ rfl rfl rfl rfl ?_; intro w6 r6 b6 s6; have R := hid r6; have S := hid (And.intro (H.out.below b6) (And.intro H.out.ge (And.intro s6 H.out.le))); have H := hid (H.out.below b6); clear r6 b6 s6; clear tk48; have tk49 := trivial)
    | (have hk := tk49; clear hk; refine wp_insF (s := wCrash) (f := ⟨[nNode, nWhen], 1, false, false⟩) rfl _ _ _ rfl Tryz.underlying78 rfl rfl rfl H.out R.out S.out rfl ?_; intro w5 h5; have H := hid h5; clear h5 R S; clear tk49; have tk50 := trivial)
    | (have hk := tk50; clear hk; refine Sh.wp_ld nrS rfl (.global 1) rfl rfl H.out.lc.when_ ?_; clear tk50; have tk51 := trivial)
    | (have hk := tk51; clear hk; refine bs_step2 (x0 := ⟨false, 1, 1000⟩) (x1 := nWhen) _ _ rfl rfl rfl rfl ?_; intro w6 r6 b6 s6; have R := hid r6; have S := hid (And.intro (H.out.below b6) (And.intro H.out.ge (And.intro s6 H.out.le))); have H := hid (H.out.below b6); clear r6 b6 s6; clear tk51; have tk52 := trivial)
    | (have hk := tk52; clear hk; refine wp_insF (s := wRepeat) (f := ⟨[⟨false, 1, 1000⟩, nWhen], 0, false, true⟩) rfl _ _ _ rfl Tryz.underlying78 rfl rfl rfl H.out R.out S.out rfl ?_; intro w5 h5; have H := hid h5; clear h5 R S; clear tk52; have tk53 := trivial)
    | (refine wp_mkmap rfl rfl ?_; intro w5 m5 b5 s5; have H := hid (FmS.start HC.out X4.out.1 X4.out.2.1 X4.out.2.2 m5 b5); clear m5 b5 s5 X4; have tk0 := trivial))
  go_ret
  exact ⟨_, rfl, ⟨[_, _, _, _, _, _, _, _, _, _, _, _, _, _], rfl, H.out.fm⟩, H.out.bel⟩
end Go.Proofs.YtpkoboohnbkpoaaGreatDoor
