/-
  kernel.Check's closure: what is wrong with a thing of a queue, by what was met. What is asked: the thing's number is one of 64 bits, fewer than 10,000 were met.
-/
import Derived.Test.YtpfidohneddgkaaKB
import Derived.Test.YtpfidohneddgkaaJ
import Derived.Maps.OwnSet
namespace Go.Proofs.Ytpfidohneddgkaa
open Go Go.RowKit Go.Maps

theorem key23 : Keyed Try.prog 23 := int_keyed Try.underlying23
theorem zero3 (w : World) : (zeroValue 3).run Try.prog w = .ok (.int .i64 0) w := by kernel_rfl
/-- The map: block B, of at most k entries, that reads as D. -/
def Met (w : World) (B k : Nat) (D : DataW Unit) : Prop := w.ownsMap Try.prog 23 (plainElem Try.prog 3) B k D
theorem grown_below {a w w' : World} {row : Option Nat} (h : a.grownBy w row) (hb : Below w.heap.size w w') : a.grownBy w' row :=
  ⟨hb.os.trans h.os, hb.tape.trans h.tape, hb.output.trans h.output, Nat.le_trans h.size hb.size, fun i hi hne => (hb.block i (Nat.lt_of_lt_of_le hi h.size)).trans (h.block i hi hne)⟩
theorem VarQ.grown {w w' : World} {g : Nat} {q : Qu} {row : Option Nat} (h : VarQ w g q) (hg : w.grownBy w' row) (hne : some g ≠ row) : VarQ w' g q := by
  have hb := hg.block g h.lt hne
  exact ⟨fun j v hv => (World.cell?_of_block (a := ⟨g, 0 + j, none⟩) hb).trans (h.1 j v hv), fun j hj => ⟨by rw [World.cell?_of_block (a := ⟨g, 0 + j, none⟩) hb]; exact (h.2 j hj).1, by rw [World.frozen?_of_block (a := ⟨g, 0 + j, none⟩) hb]; exact (h.2 j hj).2⟩⟩
theorem VarI.grown {w w' : World} {g : Nat} {q : It} {row : Option Nat} (h : VarI w g q) (hg : w.grownBy w' row) (hne : some g ≠ row) : VarI w' g q := by
  have hb := hg.block g h.lt hne
  exact ⟨fun j v hv => (World.cell?_of_block (a := ⟨g, 0 + j, none⟩) hb).trans (h.1 j v hv), fun j hj => ⟨by rw [World.cell?_of_block (a := ⟨g, 0 + j, none⟩) hb]; exact (h.2 j hj).1, by rw [World.frozen?_of_block (a := ⟨g, 0 + j, none⟩) hb]; exact (h.2 j hj).2⟩⟩

/-- What is wrong with a thing of a queue, met so often ahead of it. -/
def badB (nx nw : Int) (c : Int) (x : It) : Bool := decide (1 < c + 1) || (decide (nx ≤ sq x) || (!fitB x.1 x.2.1 || decide (x.1 < nw)))

set_option maxRecDepth 100000 in
set_option maxHeartbeats 1000000 in
theorem check1_any (x : It) (gm gq B k : Nat) (q : Qu) (D : DataW Unit) (c : Int) (w : World) (hx : 0 ≤ sq x ∧ sq x ≤ 18446744073709551615) (hm : w.cell? ⟨gm, 0, none⟩ = some (.map (some B))) (hq : VarQ w gq q) (hown : Met w B k D) (hk : k ≤ 10000)
    (hc : D.atKey (.int .u64 (sq x)) (.lit (.int .i64 0)) = .lit (.int .i64 c)) (hc0 : 0 ≤ c) (hc1 : c ≤ 10000) (hn1 : gm ≠ B) (hn2 : gq ≠ B) :
    Calls Try.prog 45 #[itv x, .pointer (some ⟨gm, 0, none⟩), .pointer (some ⟨gq, 0, none⟩)] w fun e w' => e = .returned (.bool (badB q.nx q.nw c x)) ∧ w.grownBy w' (some B) ∧ Met w' B (k + 1) (D.put (.int .u64 (sq x)) (.lit (.int .i64 (c + 1)))) := by
  obtain ⟨x1, x2, x3, x4, x5, x6⟩ := x
  change 0 ≤ x3 ∧ x3 ≤ 18446744073709551615 at hx
  change D.atKey (.int .u64 x3) (.lit (.int .i64 0)) = .lit (.int .i64 c) at hc
  have hkey : keyOf Try.prog 23 (.int .u64 x3) = some (.int .u64 x3) := keyOf_int_mk Try.underlying23 (WalkArith.wf_u64 hx)
  have HK := hid hkey
  have HGM := hid (World.block_lt_of_cell? w _ hm)
  have HGQ := hid hq.lt
  have HGB := hid (World.ownsMap.lt hown)
  have HQ := hid hq
  have HM := hid hm
  have HO := hid hown
  have HC := hid hc
  have hwr : IntKind.i64.wrap (c + 1) = c + 1 := IntWalk.i64_in _ (by omega)
  have HWR := hid hwr
  have HPS : Hid ((D.put (.int .u64 x3) (.lit (.int .i64 (c + 1)))).atKey (.int .u64 x3) (.lit (.int .i64 0)) = .lit (.int .i64 (c + 1))) := hid (atKey_put_same (World.ownsMap.isMap hown) (key23.key hkey) _ _)
  have HE : Hid (badB q.nx q.nw c (x1, x2, x3, x4, x5, x6) = (decide (1 < c + 1) || (decide (q.nx ≤ x3) || (!fitB x1 x2 || decide (x1 < q.nw))))) := hid rfl
  obtain ⟨A, n, cc, nx, nw, hz⟩ := q
  have HF := hid (fun w => fits_any x1 x2 w)
  generalize fitB x1 x2 = F at *
  have hwfC : (Lit.int .i64 (c + 1)).wf = true := WalkArith.wf_i64 (by omega)
  have HWF := hid hwfC
  clear hq hm hown hc hkey hwfC hwr
  go_enter Try.func45, Try.ntmps45
  go_wp2_with (first
    | (refine wpList_boxi rfl (.tmp 0) rfl rfl ?_; intro w1 v1 b1 s1; have m1 : w1.cell? ⟨gm, 0, none⟩ = some (.map (some B)) := (b1.cell (p := ⟨gm, 0, none⟩) HGM.out).trans HM.out; have i2 : w1.cell? ⟨w.heap.size, 2, none⟩ = some (.int .u64 x3) := v1.c2)
    | (at_lookup; refine wpList_lookup_own_int _ rfl _ _ 66 rfl 23 3 .i64 key23 Try.underlying66 Try.underlying3 (zero3 _) B (k + 1) _ rfl own2 _ _ rfl HK.out ?_; intro c2 hat2 _; have e2 := HPS.out.symm.trans hat2; injection e2 with e2; injection e2 with _ e2; subst e2)
    | (at_lookup; refine wpList_lookup_own_int _ rfl _ _ 66 rfl 23 3 .i64 key23 Try.underlying66 Try.underlying3 (zero3 _) B k D rfl (HO.out.kept ((grown_below (World.grownBy.refl w none) b1)) (by simp)) _ _ rfl HK.out ?_; intro c1 hat1 _; have e1 := HC.out.symm.trans hat1; injection e1 with e1; injection e1 with _ e1; subst e1)
    | (at_mapUpdate; refine wpList_mapUpdate_own _ rfl _ _ _ 66 rfl 23 3 key23 Try.underlying66 (plainElem Try.prog 3) B k D rfl (HO.out.kept ((grown_below (World.grownBy.refl w none) b1)) (by simp)) (by unfold maxLen; omega) _ _ _ rfl rfl HK.out (.lit (.int .i64 (c + 1))) [] (plainElem_int Try.underlying3 HWF.out) ?_; intro w2 own2 g2; have m2 : w2.cell? ⟨gm, 0, none⟩ = some (.map (some B)) := g2.cell m1 (by simpa using hn1); have hne : some w.heap.size ≠ some B := (by have := HGB.out; simp; omega); have v2 := v1.grown g2 hne; have j0 : w2.cell? ⟨w.heap.size, 0, none⟩ = some (.int .i64 x1) := v2.c0; have j1 : w2.cell? ⟨w.heap.size, 1, none⟩ = some (.int .i64 x2) := v2.c1; have j2 : w2.cell? ⟨w.heap.size, 2, none⟩ = some (.int .u64 x3) := v2.c2; have q2 := (HQ.out.below b1 HGQ.out).grown g2 (by simpa using hn2); have G2 : Hid (w.grownBy w2 (some B)) := hid ((grown_below (World.grownBy.refl w (some B)) b1).trans g2); have O2 : Hid (Met w2 B (k + 1) (D.put (.int .u64 x3) (.lit (.int .i64 (c + 1))))) := hid own2; have r1 : w2.cell? ⟨gq, 1, none⟩ = some (.int .u64 nx) := q2.c1; have r2 : w2.cell? ⟨gq, 2, none⟩ = some (.int .i64 nw) := q2.c2)
    | (go_at_call 46; refine (HF.out _).mono ?_; rintro e w3 ⟨rfl, b3⟩; have G3 : Hid (w.grownBy w3 (some B)) := hid (grown_below G2.out b3); have O3 : Hid (Met w3 B (k + 1) (D.put (.int .u64 x3) (.lit (.int .i64 (c + 1))))) := hid (O2.out.kept (grown_below (World.grownBy.refl w2 none) b3) (by simp)); have l0 : w3.cell? ⟨w.heap.size, 0, none⟩ = some (.int .i64 x1) := (v2.below b3 v2.lt).c0; have l2 : w3.cell? ⟨gq, 2, none⟩ = some (.int .i64 nw) := (q2.below b3 q2.lt).c2))
  all_goals
    go_ret
    first
      | exact ⟨ret_bool (by rw [HE.out]; clear HE HF HQ; simp_all [Bool.or_assoc]), G3.out, O3.out⟩
      | exact ⟨ret_bool (by rw [HE.out]; clear HE HF HQ; simp_all), G2.out, O2.out⟩
end Go.Proofs.Ytpfidohneddgkaa
