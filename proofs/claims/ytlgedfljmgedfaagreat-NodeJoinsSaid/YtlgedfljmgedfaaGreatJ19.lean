/-
  Texts NV, RR of this seat, as far as they are used.
-/
import Derived.Test.YtlgedfljmgedfaaGreatJ4
import Derived.Test.YtlgedfljmgedfaaGreatJ9
import Derived.Test.YtlgedfljmgedfaaGreatJ11
import Derived.Test.YtlgedfljmgedfaaGreatJ18
import Derived.Lib.QuietBelow
import Derived.Deep.RegionHeld3
import Derived.Defers
import Derived.Test.YtlgedfljmgedfaaGreatRows
import Derived.WalkKit
import Derived.ProofKit
import Derived.OpenShut
import Derived.ChangeOld
import Derived.SizedLaws
import Derived.Carry
import Derived.Deep.Slices
namespace Go.Proofs.YtlgedfljmgedfaaGreat
open Go Go.RowKit
open M10 (hid Md encm mv mz Oth range_keep there_keep range_other there_other setCells_oth setCells_size there_set Ty enct tv tz Fr encf fv fz)
open O6 (Oc enco ov oz)
open T9 (sv)

/-! ### Blocks that stay -/
structure Kept (K : Nat → Prop) (w w' : World) : Prop where
  os : w'.os = w.os
  tape : w'.tape = w.tape
  output : w'.output = w.output
  size : w.heap.size ≤ w'.heap.size
  block : ∀ k, K k → w'.heap[k]? = w.heap[k]?
section
variable {K : Nat → Prop} {w w' w'' : World} {B : Nat}
theorem Kept.refl (K : Nat → Prop) (w : World) : Kept K w w := ⟨rfl, rfl, rfl, Nat.le_refl _, fun _ _ => rfl⟩
theorem Kept.trans (h : Kept K w w') (k : Kept K w' w'') : Kept K w w'' := ⟨k.os.trans h.os, k.tape.trans h.tape, k.output.trans h.output, Nat.le_trans h.size k.size, fun i hi => (k.block i hi).trans (h.block i hi)⟩
theorem Kept.of_below (h : Below B w w') (hK : ∀ k, K k → k < B) : Kept K w w' := ⟨h.os, h.tape, h.output, h.size, fun k hk => h.block k (hK k hk)⟩
theorem Kept.below (h : Kept K w w') (hK : ∀ k, k < B → K k) : Below B w w' := ⟨h.os, h.tape, h.output, h.size, fun k hk => h.block k (hK k hk)⟩
theorem Kept.drew (h : Kept K w w') : Kept K w w'.drew := ⟨h.os, h.tape, h.output, h.size, h.block⟩
theorem Kept.oth {g : Nat} (h : Below g w w') (ho : Oth g w w') (hK : ¬ K g) : Kept K w w' := ⟨h.os, h.tape, h.output, h.size, fun k hk => ho k fun e => hK (e ▸ hk)⟩
theorem Kept.grown {r : Option Nat} (h : w.grownBy w' r) (hb : ∀ k, K k → k < w.heap.size) (hr : ∀ k, K k → some k ≠ r) : Kept K w w' := ⟨h.os, h.tape, h.output, h.size, fun k hk => h.block k (hb k hk) (hr k hk)⟩
end

/-! ### A variable -/
/-- Block g holds these cells, from its first on. -/
def Var (w : World) (g : Nat) (cs : List Value) : Prop := w.rangeAt g 0 cs ∧ w.there g 0 cs.length
section
variable {w w' : World} {g : Nat} {cs : List Value}
theorem Var.below (h : Var w g cs) {B : Nat} (hk : Below B w w') (hb : g < B) : Var w' g cs := ⟨range_keep h.1 hb hk, there_keep h.2 hb hk⟩
theorem Var.other (h : Var w g cs) {b : Nat} (ho : Oth b w w') (hb : g ≠ b) : Var w' g cs := ⟨range_other h.1 hb ho, there_other h.2 hb ho⟩
theorem Var.same (h : Var w g cs) (he : w'.heap[g]? = w.heap[g]?) : Var w' g cs :=
  ⟨fun j v hv => (World.cell?_of_block (a := ⟨g, 0 + j, none⟩) he).trans (h.1 j v hv), fun j hj => ⟨by rw [World.cell?_of_block (a := ⟨g, 0 + j, none⟩) he]; exact (h.2 j hj).1, by rw [World.frozen?_of_block (a := ⟨g, 0 + j, none⟩) he]; exact (h.2 j hj).2⟩⟩
theorem Var.cell (h : Var w g cs) {k : Nat} {v : Value} (hc : cs[k]? = some v) : w.cell? ⟨g, k, none⟩ = some v := by have := h.1 k v hc; rwa [Nat.zero_add] at this
theorem Var.lt (h : Var w g cs) (hc : 0 < cs.length) : g < w.heap.size := World.block_lt_of_cell? w _ (h.cell (k := 0) (List.getElem?_eq_getElem hc))
theorem Var.part (h : Var w g cs) {o : Nat} {ds : List Value} (hd : ∀ j v, ds[j]? = some v → cs[o + j]? = some v) : w.rangeAt g o ds := fun j v hv => h.cell (hd j v hv)
theorem Var.there (h : Var w g cs) {o n : Nat} (hn : o + n ≤ cs.length) : w.there g o n := fun j hj => by have := h.2 (o + j) (by omega); rwa [Nat.zero_add] at this
theorem Var.frozen (h : Var w g cs) {k : Nat} (hk : k < cs.length) : w.frozen? ⟨g, k, none⟩ = false := by have := (h.2 k hk).2; rwa [Nat.zero_add] at this
theorem Var.drew (h : Var w g cs) : Var w.drew g cs := ⟨h.1, h.2⟩
/-- A new variable. -/
theorem var_new (w : World) (cs : List Value) (ty : TypeId) : Var (w.alloc (.cells cs.toArray ty)) w.heap.size cs := by
  have h1 : (w.alloc (.cells cs.toArray ty)).rangeAt w.heap.size 0 cs := fun j v hv => by
    rw [Nat.zero_add, cell_of_row _ _ _ _ _ _ (heap_alloc_new w _)]
    simpa using hv
  refine ⟨h1, fun j hj => ⟨?_, frozen_of_row _ _ _ _ _ (heap_alloc_new w _)⟩⟩
  rw [h1 j _ (List.getElem?_eq_getElem hj)]; rfl
/-- Cells in the middle stored. -/
def setv (cs : List Value) (o : Nat) (vs : List Value) : List Value := cs.take o ++ (vs ++ cs.drop (o + vs.length))
theorem setv_len (cs vs : List Value) (o : Nat) (h : o + vs.length ≤ cs.length) : (setv cs o vs).length = cs.length := by
  unfold setv; simp; omega
theorem Var.set (h : Var w g cs) (o : Nat) (vs : List Value) (hn : o + vs.length ≤ cs.length) : Var (w.setCells g o vs) g (setv cs o vs) := by
  refine ⟨fun j v hv => ?_, by rw [setv_len _ _ _ hn]; exact there_set _ _ h.2⟩
  rw [Nat.zero_add]
  unfold setv at hv
  by_cases h1 : j < o
  · rw [List.getElem?_append_left (by simp; omega), List.getElem?_take_of_lt h1] at hv
    have h2 : w.rangeAt g j [v] := fun i x hx => by
      rcases i with _ | i
      · simp at hx; subst hx; exact h.cell hv
      · simp at hx
    have h3 := World.rangeAt_setCells_apart h2 g o vs (by simp; omega) 0 v rfl
    simpa using h3
  · by_cases h4 : j < o + vs.length
    · have h5 : vs[j - o]? = some v := by
        rw [List.getElem?_append_right (by simp; omega), List.getElem?_append_left (by simp; omega)] at hv
        rw [← hv]; congr 1; simp; omega
      have := World.rangeAt_setCells_same w g o vs (h.there hn) (j - o) v h5
      rwa [show o + (j - o) = j by omega] at this
    · have h5 : cs[j]? = some v := by
        rw [List.getElem?_append_right (by simp; omega), List.getElem?_append_right (by simp; omega), List.getElem?_drop] at hv
        rw [← hv]; congr 1; simp; omega
      have h2 : w.rangeAt g j [v] := fun i x hx => by
        rcases i with _ | i
        · simp at hx; subst hx; exact h.cell h5
        · simp at hx
      have h3 := World.rangeAt_setCells_apart h2 g o vs (by simp; omega) 0 v rfl
      simpa using h3
end

/-! ### A slice of the call's own -/
def OwnR (w : World) (base : Nat) (e : TypeId) (size : Nat) (A : Option Addr) (n c : Nat) (vs : List Value) : Prop := w.ownsRow base e size (.slice A n c) n vs
/-- The block of a slice. -/
def ob (A : Option Addr) : Option Nat := Value.ownBlock (.slice A 0 0)
theorem ob_of (A : Option Addr) (n c : Nat) : Value.ownBlock (.slice A n c) = ob A := by cases A <;> rfl
section
variable {w w' : World} {base size n c : Nat} {e : TypeId} {A : Option Addr} {vs : List Value}
theorem OwnR.below (h : OwnR w base e size A n c vs) (hb : Below w.heap.size w w') : OwnR w' base e size A n c vs := by
  refine ⟨h.1, ?_⟩
  rcases h.2 with h0 | ⟨g, cap, cur, hv, hg, hh, r⟩
  · exact .inl h0
  · exact .inr ⟨g, cap, cur, hv, hg, (hb.block g (Array.getElem?_eq_some_iff.1 hh).1).trans hh, r⟩
theorem OwnR.oth (h : OwnR w base e size A n c vs) {g : Nat} (ho : Oth g w w') (hg : ob A ≠ some g) : OwnR w' base e size A n c vs := by
  refine ⟨h.1, ?_⟩
  rcases h.2 with h0 | ⟨b, cap, cur, hv, hb, hh, r⟩
  · exact .inl h0
  · refine .inr ⟨b, cap, cur, hv, hb, (ho b fun e => hg ?_).trans hh, r⟩
    rw [← ob_of A n c, hv, e]; rfl
theorem OwnR.kept (h : OwnR w base e size A n c vs) {r : Option Nat} (hg : w.grownBy w' r) (hne : ob A = none ∨ ob A ≠ r) : OwnR w' base e size A n c vs := World.ownsRow.kept h hg (by rw [ob_of]; exact hne)
theorem OwnR.alloc (h : OwnR w base e size A n c vs) (o : Obj) : OwnR (w.alloc o) base e size A n c vs := World.ownsRow.alloc h o
theorem OwnR.drew (h : OwnR w base e size A n c vs) : OwnR w.drew base e size A n c vs := h
theorem OwnR.lt (h : OwnR w base e size A n c vs) {k : Nat} (hk : ob A = some k) : base ≤ k ∧ k < w.heap.size := World.ownsRow.lt h k (by rw [ob_of]; exact hk)
theorem OwnR.nil (w : World) (base : Nat) (e : TypeId) (size : Nat) : OwnR w base e size none 0 0 [] := World.ownsRow_nil w base e size
theorem OwnR.base_le (h : OwnR w base e size A n c vs) {base' : Nat} (hb : base' ≤ base) : OwnR w base' e size A n c vs := by
  refine ⟨h.1, ?_⟩
  rcases h.2 with h0 | ⟨g, cap, cur, hv, hg, hh, r⟩
  · exact .inl h0
  · exact .inr ⟨g, cap, cur, hv, by omega, hh, r⟩
theorem OwnR.len (h : OwnR w base e size A n c vs) : vs.length = n * size := h.1
end

/-! ### Acts -/
structure Ac where
  kd : Int
  ts : Int
  f : Fr
  a : Int
  b : Int
deriving DecidableEq
def az : Ac := ⟨0, 0, fz, 0, 0⟩
def enca (x : Ac) : List Value := [.int .i64 x.kd, .int .i64 x.ts, .int .i64 x.f.k, .int .i64 x.f.f, .int .u64 (x.f.s : Int), .int .u16 (x.f.m : Int), .int .i64 x.a, .int .i64 x.b]
def av (x : Ac) : Value := .agg (enca x).toArray
def flat (l : List Ac) : List Value := l.flatMap enca
theorem enca_len (x : Ac) : (enca x).length = 8 := rfl
theorem enca_one (x : Ac) : ∀ u ∈ enca x, u.oneCell' = true := by
  intro u hu; simp [enca] at hu; rcases hu with rfl | rfl | rfl | rfl | rfl | rfl | rfl | rfl <;> rfl
theorem flat_cons (x : Ac) (l : List Ac) : flat (x :: l) = enca x ++ flat l := rfl
theorem flat_len (l : List Ac) : (flat l).length = l.length * 8 := by
  induction l with
  | nil => rfl
  | cons x l ih => rw [flat_cons, List.length_append, ih, enca_len, List.length_cons]; omega
theorem flat_app (a b : List Ac) : flat (a ++ b) = flat a ++ flat b := by simp [flat]
/-- A note, a timer, what is sent. -/
def note (k b : Int) : Ac := ⟨3, 0, fz, k, b⟩
def timr (t : Int) : Ac := ⟨1, t, fz, 0, 0⟩
def sent (f : Fr) : Ac := ⟨2, 0, f, 0, 0⟩
theorem size66 : (Tryz.prog.info? 66).map (·.size) = some 8 := by kernel_rfl
theorem info66 : (Tryz.prog.info? 66).map (fun i => (i.zero, i.size, i.bytes)) = some (some (av az), 8, 64) := by kernel_rfl
theorem zero66 (w : World) : (zeroValue 66).run Tryz.prog w = .ok (av az) w := by kernel_rfl

/-! ### A node -/
structure Nd where
  id : Int
  ph : Int
  sl : Int
  st : Int
  o : Oc
  co : Int
  mb : Nat
  t : Ty
  dv : List Int
  se : Bool
  vd : Int
def nz : Nd := ⟨0, 0, 0, 0, oz, 0, 0, tz, [], false, 0⟩
def encn (x : Nd) (A : Option Addr) (n c : Nat) : List Value := [.int .i64 x.id, .int .i64 x.ph, .int .u64 x.sl, .int .i64 x.st, .int .i64 x.o.p, .int .i64 x.o.d, .int .i64 x.o.r, .int .i64 x.co, .int .u16 (x.mb : Int), .int .i64 x.t.g, .int .i64 x.t.b, .slice A n c, .bool x.se, .int .i64 x.vd]
def nv (x : Nd) (A : Option Addr) (n c : Nat) : Value := .agg (encn x A n c).toArray
theorem encn_one (x : Nd) (A : Option Addr) (n c : Nat) : ∀ u ∈ encn x A n c, u.oneCell' = true := by
  intro u hu; simp [encn] at hu; rcases hu with rfl | rfl | rfl | rfl | rfl | rfl | rfl | rfl | rfl | rfl | rfl | rfl | rfl | rfl <;> rfl
theorem size32 : (Tryz.prog.info? 32).map (·.size) = some 14 := by kernel_rfl
theorem zero32 (w : World) : (zeroValue 32).run Tryz.prog w = .ok (nv nz none 0 0) w := by kernel_rfl
def encw (x : Nd) (A : Option Addr) (n c : Nat) (m : Md) (B : Option Addr) (k d : Nat) : List Value := encn x A n c ++ (encm m ++ [.slice B k d])
theorem size71 : (Tryz.prog.info? 71).map (·.size) = some 20 := by kernel_rfl
theorem size23 : (Tryz.prog.info? 23).map (·.size) = some 5 := by kernel_rfl
theorem size26 : (Tryz.prog.info? 26).map (·.size) = some 3 := by kernel_rfl
theorem size29 : (Tryz.prog.info? 29).map (·.size) = some 2 := by kernel_rfl
theorem size54 : (Tryz.prog.info? 54).map (·.size) = some 4 := by kernel_rfl

/-- Block g is a node at work: the node, its schedule, its acts; its lists are its own, from block base on, and none of these blocks is among those that stay. -/
structure WkU (w : World) (K : Nat → Prop) (base g : Nat) (x : Nd) (m : Md) (l : List Ac) (A : Option Addr) (n c : Nat) (B : Option Addr) (k d : Nat) : Prop where
  var : Var w g (encw x A n c m B k d)
  devs : OwnR w base 2 1 A n c (sv x.dv)
  acts : OwnR w base 66 8 B k d (flat l)
  bg : base ≤ g
  kg : ¬ K g
  sa : ∀ b, ob A = some b → ¬ K b ∧ b ≠ g ∧ ob B ≠ some b
  sb : ∀ b, ob B = some b → ¬ K b ∧ b ≠ g
  kl : ∀ b, K b → b < w.heap.size
  bl : base ≤ w.heap.size
def Wk (w : World) (K : Nat → Prop) (base g : Nat) (x : Nd) (m : Md) (l : List Ac) : Prop :=
  ∃ (A : Option Addr) (n c : Nat) (B : Option Addr) (k d : Nat), WkU w K base g x m l A n c B k d
theorem WkU.below {w w' : World} {K : Nat → Prop} {base g : Nat} {x : Nd} {m : Md} {l : List Ac} {A B : Option Addr} {n c k d : Nat} (h : WkU w K base g x m l A n c B k d) (hb : Below w.heap.size w w') : WkU w' K base g x m l A n c B k d :=
  ⟨h.1.below hb (h.1.lt (Nat.zero_lt_succ 19)), h.2.below hb, h.3.below hb, h.4, h.5, h.6, h.7, fun b hk => Nat.lt_of_lt_of_le (h.8 b hk) hb.size, Nat.le_trans h.9 hb.size⟩
section
variable {w w' : World} {K : Nat → Prop} {base g : Nat} {x : Nd} {m : Md} {l : List Ac}
theorem Wk.below (h : Wk w K base g x m l) (hb : Below w.heap.size w w') : Wk w' K base g x m l := by
  obtain ⟨A, n, c, B, k, d, h1, h2, h3, h4, h5, h6, h7, h8, h9⟩ := h
  exact ⟨A, n, c, B, k, d, h1.below hb (h1.lt (by show 0 < 20; omega)), h2.below hb, h3.below hb, h4, h5, h6, h7, fun b hk => Nat.lt_of_lt_of_le (h8 b hk) hb.size, Nat.le_trans h9 hb.size⟩
theorem Wk.drew (h : Wk w K base g x m l) : Wk w.drew K base g x m l := h.below (Below.refl _ w).drew
theorem Wk.keptb (h : Wk w K base g x m l) (hb : Below w.heap.size w w') : Kept K w w' := by
  obtain ⟨A, n, c, B, k, d, h1, h2, h3, h4, h5, h6, h7, h8, h9⟩ := h
  exact Kept.of_below hb h8
theorem Wk.cell (h : Wk w K base g x m l) {j : Nat} {v : Value} (hc : ∀ A n c B k d, (encw x A n c m B k d)[j]? = some v) : w.cell? ⟨g, j, none⟩ = some v := by
  obtain ⟨A, n, c, B, k, d, h1, _⟩ := h
  exact h1.cell (hc A n c B k d)
theorem Wk.osc (h : Wk w K base g x m l) : w.rangeAt g 4 (enco x.o) := by
  obtain ⟨A, n, c, B, k, d, h1, _⟩ := h
  refine h1.part fun j v hv => ?_
  match j, hv with
  | 0, hv => exact hv
  | 1, hv => exact hv
  | 2, hv => exact hv
theorem Wk.md (h : Wk w K base g x m l) : w.rangeAt g 14 (encm m) := by
  obtain ⟨A, n, c, B, k, d, h1, _⟩ := h
  refine h1.part fun j v hv => ?_
  match j, hv with
  | 0, hv => exact hv
  | 1, hv => exact hv
  | 2, hv => exact hv
  | 3, hv => exact hv
  | 4, hv => exact hv
theorem Wk.ty (h : Wk w K base g x m l) : w.rangeAt g 9 (enct x.t) := by
  obtain ⟨A, n, c, B, k, d, h1, _⟩ := h
  refine h1.part fun j v hv => ?_
  match j, hv with
  | 0, hv => exact hv
  | 1, hv => exact hv
/-- Some of its cells, but for its lists, stored: y is x with them. -/
theorem Wk.set (h : Wk w K base g x m l) (y : Nd) (o : Nat) (vs : List Value) (hy : y.dv = x.dv) (he : ∀ A n c B k d, encw y A n c m B k d = setv (encw x A n c m B k d) o vs) (hn : o + vs.length ≤ 20) :
    Wk (w.setCells g o vs) K base g y m l ∧ Kept K w (w.setCells g o vs) := by
  obtain ⟨A, n, c, B, k, d, h1, h2, h3, h4, h5, h6, h7, h8, h9⟩ := h
  have ho := setCells_oth g vs o w
  have hs := setCells_size g vs o w
  refine ⟨⟨A, n, c, B, k, d, ?_, ?_, h3.oth ho.2 (fun e => (h7 g e).2 rfl), h4, h5, h6, h7, by rw [hs]; exact h8, by rw [hs]; exact h9⟩, Kept.oth ho.1 ho.2 h5⟩
  · rw [he]; exact h1.set o vs hn
  · rw [hy]; exact h2.oth ho.2 (fun e => (h6 g e).2.1 rfl)
end
end Go.Proofs.YtlgedfljmgedfaaGreat
namespace Go.Proofs.YtlgedfljmgedfaaGreat
open Go Go.ChangeShapes Go.WideShapes Go.ChangeAt Go.RowKit
open M10 (hid Md encm mv mz Ty enct tv tz Fr encf fv fz)
open O6 (Oc enco ov oz)
open T9 (sv)
theorem own : ownKnob Tryz.prog.godebug = none := by kernel_rfl
theorem laidOut : laidOutB Tryz.prog = true := by kernel_rfl
/-- What is known of a number of 64 bits that came in. -/
def In64 (z : Int) : Prop := -9223372036854775808 ≤ z ∧ z ≤ 9223372036854775807
section
variable {H : Type} {hv : TypeId × Value → H} {W : World}
theorem trod_lt0 {t : TypeId} {v : Value} {d : DataW H} {p : List MemPlace} (h : DataW.Trod hv Tryz.prog W 0 (fun _ => true) true t v d p) : ∀ x ∈ p, x.block < W.heap.size := by
  obtain ⟨m, hm⟩ := h; exact DataW.trod_lt m _ _ _ hm
set_option maxRecDepth 100000 in
theorem osc_of {fuel : Nat} {cs : List Value} {x : DataW H × List MemPlace} (h : DataW.trod hv Tryz.prog W 0 (fun _ => true) true fuel 26 cs = some x) : ∃ o : Oc, cs = enco o := by
  obtain ⟨xs, n, _, _, hl, hx, hf⟩ := DataW.trod_struct Tryz.underlying26 h
  have hln : cs.length = 3 := hl.trans (by kernel_rfl)
  have hxn : xs.length = 3 := hx
  have c2 : Tryz.prog.cellsOf 2 = 1 := by kernel_rfl
  have f0 : DataW.trod hv Tryz.prog W 0 (fun _ => true) true n 2 ((cs.drop 0).take (Tryz.prog.cellsOf 2)) = xs[0]? := hf 0 _ rfl
  rw [c2, List.getElem?_eq_getElem (by omega)] at f0
  have f1 : DataW.trod hv Tryz.prog W 0 (fun _ => true) true n 2 ((cs.drop 1).take (Tryz.prog.cellsOf 2)) = xs[1]? := hf 1 _ rfl
  rw [c2, List.getElem?_eq_getElem (by omega)] at f1
  have f2 : DataW.trod hv Tryz.prog W 0 (fun _ => true) true n 2 ((cs.drop 2).take (Tryz.prog.cellsOf 2)) = xs[2]? := hf 2 _ rfl
  rw [c2, List.getElem?_eq_getElem (by omega)] at f2
  obtain ⟨z0, e0, _, w0⟩ := DataW.trod_int Tryz.underlying2 f0
  have b0 := bounds_i64 w0
  obtain ⟨z1, e1, _, w1⟩ := DataW.trod_int Tryz.underlying2 f1
  have b1 := bounds_i64 w1
  obtain ⟨z2, e2, _, w2⟩ := DataW.trod_int Tryz.underlying2 f2
  have b2 := bounds_i64 w2
  match cs, hln with
  | [a0, a1, a2], _ =>
    simp at e0 e1 e2
    exact ⟨⟨z0, z1, z2⟩, by subst e0 e1 e2; rfl⟩
set_option maxRecDepth 100000 in
theorem medl_of {fuel : Nat} {cs : List Value} {x : DataW H × List MemPlace} (h : DataW.trod hv Tryz.prog W 0 (fun _ => true) true fuel 23 cs = some x) : ∃ m : Md, cs = encm m ∧ In64 m.n ∧ In64 m.s ∧ In64 m.l ∧ In64 m.f ∧ In64 m.d := by
  obtain ⟨xs, n, _, _, hl, hx, hf⟩ := DataW.trod_struct Tryz.underlying23 h
  have hln : cs.length = 5 := hl.trans (by kernel_rfl)
  have hxn : xs.length = 5 := hx
  have c2 : Tryz.prog.cellsOf 2 = 1 := by kernel_rfl
  have c3 : Tryz.prog.cellsOf 3 = 1 := by kernel_rfl
  have f0 : DataW.trod hv Tryz.prog W 0 (fun _ => true) true n 3 ((cs.drop 0).take (Tryz.prog.cellsOf 3)) = xs[0]? := hf 0 _ rfl
  rw [c3, List.getElem?_eq_getElem (by omega)] at f0
  have f1 : DataW.trod hv Tryz.prog W 0 (fun _ => true) true n 2 ((cs.drop 1).take (Tryz.prog.cellsOf 2)) = xs[1]? := hf 1 _ rfl
  rw [c2, List.getElem?_eq_getElem (by omega)] at f1
  have f2 : DataW.trod hv Tryz.prog W 0 (fun _ => true) true n 2 ((cs.drop 2).take (Tryz.prog.cellsOf 2)) = xs[2]? := hf 2 _ rfl
  rw [c2, List.getElem?_eq_getElem (by omega)] at f2
  have f3 : DataW.trod hv Tryz.prog W 0 (fun _ => true) true n 2 ((cs.drop 3).take (Tryz.prog.cellsOf 2)) = xs[3]? := hf 3 _ rfl
  rw [c2, List.getElem?_eq_getElem (by omega)] at f3
  have f4 : DataW.trod hv Tryz.prog W 0 (fun _ => true) true n 2 ((cs.drop 4).take (Tryz.prog.cellsOf 2)) = xs[4]? := hf 4 _ rfl
  rw [c2, List.getElem?_eq_getElem (by omega)] at f4
  obtain ⟨z0, e0, _, w0⟩ := DataW.trod_int Tryz.underlying3 f0
  have b0 := bounds_i64 w0
  obtain ⟨z1, e1, _, w1⟩ := DataW.trod_int Tryz.underlying2 f1
  have b1 := bounds_i64 w1
  obtain ⟨z2, e2, _, w2⟩ := DataW.trod_int Tryz.underlying2 f2
  have b2 := bounds_i64 w2
  obtain ⟨z3, e3, _, w3⟩ := DataW.trod_int Tryz.underlying2 f3
  have b3 := bounds_i64 w3
  obtain ⟨z4, e4, _, w4⟩ := DataW.trod_int Tryz.underlying2 f4
  have b4 := bounds_i64 w4
  match cs, hln with
  | [a0, a1, a2, a3, a4], _ =>
    simp at e0 e1 e2 e3 e4
    exact ⟨⟨z0, z1, z2, z3, z4⟩, by subst e0 e1 e2 e3 e4; rfl, b0, b1, b2, b3, b4⟩
set_option maxRecDepth 100000 in
theorem frame_of {fuel : Nat} {cs : List Value} {x : DataW H × List MemPlace} (h : DataW.trod hv Tryz.prog W 0 (fun _ => true) true fuel 54 cs = some x) : ∃ f : Fr, cs = encf f ∧ In64 f.k ∧ In64 f.f ∧ f.s < 18446744073709551616 ∧ f.m < 65536 := by
  obtain ⟨xs, n, _, _, hl, hx, hf⟩ := DataW.trod_struct Tryz.underlying54 h
  have hln : cs.length = 4 := hl.trans (by kernel_rfl)
  have hxn : xs.length = 4 := hx
  have c3 : Tryz.prog.cellsOf 3 = 1 := by kernel_rfl
  have c24 : Tryz.prog.cellsOf 24 = 1 := by kernel_rfl
  have c27 : Tryz.prog.cellsOf 27 = 1 := by kernel_rfl
  have f0 : DataW.trod hv Tryz.prog W 0 (fun _ => true) true n 3 ((cs.drop 0).take (Tryz.prog.cellsOf 3)) = xs[0]? := hf 0 _ rfl
  rw [c3, List.getElem?_eq_getElem (by omega)] at f0
  have f1 : DataW.trod hv Tryz.prog W 0 (fun _ => true) true n 3 ((cs.drop 1).take (Tryz.prog.cellsOf 3)) = xs[1]? := hf 1 _ rfl
  rw [c3, List.getElem?_eq_getElem (by omega)] at f1
  have f2 : DataW.trod hv Tryz.prog W 0 (fun _ => true) true n 24 ((cs.drop 2).take (Tryz.prog.cellsOf 24)) = xs[2]? := hf 2 _ rfl
  rw [c24, List.getElem?_eq_getElem (by omega)] at f2
  have f3 : DataW.trod hv Tryz.prog W 0 (fun _ => true) true n 27 ((cs.drop 3).take (Tryz.prog.cellsOf 27)) = xs[3]? := hf 3 _ rfl
  rw [c27, List.getElem?_eq_getElem (by omega)] at f3
  obtain ⟨z0, e0, _, w0⟩ := DataW.trod_int Tryz.underlying3 f0
  have b0 := bounds_i64 w0
  obtain ⟨z1, e1, _, w1⟩ := DataW.trod_int Tryz.underlying3 f1
  have b1 := bounds_i64 w1
  obtain ⟨z2, e2, _, w2⟩ := DataW.trod_int Tryz.underlying24 f2
  have b2 := bounds_u64 w2
  obtain ⟨z3, e3, _, w3⟩ := DataW.trod_int Tryz.underlying27 f3
  have b3 := bounds_u16 w3
  obtain ⟨y2, rfl⟩ : ∃ y : Nat, z2 = y := ⟨z2.toNat, by omega⟩
  obtain ⟨y3, rfl⟩ : ∃ y : Nat, z3 = y := ⟨z3.toNat, by omega⟩
  match cs, hln with
  | [a0, a1, a2, a3], _ =>
    simp at e0 e1 e2 e3
    exact ⟨⟨z0, z1, y2, y3⟩, by subst e0 e1 e2 e3; rfl, b0, b1, by simp only; omega, by simp only; omega⟩
set_option maxRecDepth 100000 in
/-- One that came in as an argument. -/
theorem came_m {r : Reach} {base : Nat} {v : Value} {d : DataW H} {p : List MemPlace} (hok : Value.okWide Tryz.prog W r base 23 v) (h : DataW.Trod hv Tryz.prog W 0 (fun _ => true) true 23 v d p) :
    ∃ m : Md, v = mv m ∧ In64 m.n ∧ In64 m.s ∧ In64 m.l ∧ In64 m.f ∧ In64 m.d := by
  obtain ⟨cs, rfl, _⟩ := okWide_struct Tryz.underlying23 hok
  obtain ⟨fuel, hf⟩ := h
  obtain ⟨z, hz, q⟩ := medl_of hf
  have e : (Value.agg cs).cells = cs := rfl
  rw [e] at hz
  refine ⟨z, ?_, q⟩
  unfold mv
  rw [← hz]
set_option maxRecDepth 100000 in
/-- One that came in as an argument. -/
theorem came_o {r : Reach} {base : Nat} {v : Value} {d : DataW H} {p : List MemPlace} (hok : Value.okWide Tryz.prog W r base 26 v) (h : DataW.Trod hv Tryz.prog W 0 (fun _ => true) true 26 v d p) :
    ∃ o : Oc, v = ov o := by
  obtain ⟨cs, rfl, _⟩ := okWide_struct Tryz.underlying26 hok
  obtain ⟨fuel, hf⟩ := h
  obtain ⟨z, hz⟩ := osc_of hf
  have e : (Value.agg cs).cells = cs := rfl
  rw [e] at hz
  refine ⟨z, ?_⟩
  unfold ov
  rw [← hz]
set_option maxRecDepth 100000 in
/-- One that came in as an argument. -/
theorem came_f {r : Reach} {base : Nat} {v : Value} {d : DataW H} {p : List MemPlace} (hok : Value.okWide Tryz.prog W r base 54 v) (h : DataW.Trod hv Tryz.prog W 0 (fun _ => true) true 54 v d p) :
    ∃ f : Fr, v = fv f ∧ In64 f.k ∧ In64 f.f ∧ f.s < 18446744073709551616 ∧ f.m < 65536 := by
  obtain ⟨cs, rfl, _⟩ := okWide_struct Tryz.underlying54 hok
  obtain ⟨fuel, hf⟩ := h
  obtain ⟨z, hz, q⟩ := frame_of hf
  have e : (Value.agg cs).cells = cs := rfl
  rw [e] at hz
  refine ⟨z, ?_, q⟩
  unfold fv
  rw [← hz]
end
end Go.Proofs.YtlgedfljmgedfaaGreat
