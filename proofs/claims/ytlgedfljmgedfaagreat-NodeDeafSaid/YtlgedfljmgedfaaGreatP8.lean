/-
  Texts NV, RR, NW, NA, NB, NC, ND, NE, NR of this seat, as far as they are used.
-/
import Derived.Test.YtlgedfljmgedfaaGreatP2
import Derived.Test.YtlgedfljmgedfaaGreatP4
import Derived.Test.YtlgedfljmgedfaaGreatP5
import Derived.Test.YtlgedfljmgedfaaGreatP7
import Derived.Lib.QuietBelow
import Derived.Deep.RegionHeld3
import Derived.Defers
import Derived.Test.YtlgedfljmgedfaaGreatRows
import Derived.WalkKit
import Derived.ProofKit
import Derived.OpenShut
import Derived.ChangeOld
import Derived.SizedLaws
import Derived.Carry
import Derived.Deep.Slices
import Derived.BigQuiet
namespace Go.Proofs.YtlgedfljmgedfaaGreat
open Go Go.RowKit
open M10 (hid Md encm mv mz Oth range_keep there_keep range_other there_other setCells_oth setCells_size there_set Ty enct tv tz Fr encf fv fz)
open O6 (Oc enco ov oz)
open T9 (sv)

/-! ### Blocks that stay -/
structure Kept (K : Nat → Prop) (w w' : World) : Prop where
  os : w'.os = w.os
  tape : w'.tape = w.tape
  output : w'.output = w.output
  size : w.heap.size ≤ w'.heap.size
  block : ∀ k, K k → w'.heap[k]? = w.heap[k]?
section
variable {K : Nat → Prop} {w w' w'' : World} {B : Nat}
theorem Kept.refl (K : Nat → Prop) (w : World) : Kept K w w := ⟨rfl, rfl, rfl, Nat.le_refl _, fun _ _ => rfl⟩
theorem Kept.trans (h : Kept K w w') (k : Kept K w' w'') : Kept K w w'' := ⟨k.os.trans h.os, k.tape.trans h.tape, k.output.trans h.output, Nat.le_trans h.size k.size, fun i hi => (k.block i hi).trans (h.block i hi)⟩
theorem Kept.of_below (h : Below B w w') (hK : ∀ k, K k → k < B) : Kept K w w' := ⟨h.os, h.tape, h.output, h.size, fun k hk => h.block k (hK k hk)⟩
theorem Kept.below (h : Kept K w w') (hK : ∀ k, k < B → K k) : Below B w w' := ⟨h.os, h.tape, h.output, h.size, fun k hk => h.block k (hK k hk)⟩
theorem Kept.drew (h : Kept K w w') : Kept K w w'.drew := ⟨h.os, h.tape, h.output, h.size, h.block⟩
theorem Kept.oth {g : Nat} (h : Below g w w') (ho : Oth g w w') (hK : ¬ K g) : Kept K w w' := ⟨h.os, h.tape, h.output, h.size, fun k hk => ho k fun e => hK (e ▸ hk)⟩
theorem Kept.grown {r : Option Nat} (h : w.grownBy w' r) (hb : ∀ k, K k → k < w.heap.size) (hr : ∀ k, K k → some k ≠ r) : Kept K w w' := ⟨h.os, h.tape, h.output, h.size, fun k hk => h.block k (hb k hk) (hr k hk)⟩
end

/-! ### A variable -/
/-- Block g holds these cells, from its first on. -/
def Var (w : World) (g : Nat) (cs : List Value) : Prop := w.rangeAt g 0 cs ∧ w.there g 0 cs.length
section
variable {w w' : World} {g : Nat} {cs : List Value}
theorem Var.below (h : Var w g cs) {B : Nat} (hk : Below B w w') (hb : g < B) : Var w' g cs := ⟨range_keep h.1 hb hk, there_keep h.2 hb hk⟩
theorem Var.other (h : Var w g cs) {b : Nat} (ho : Oth b w w') (hb : g ≠ b) : Var w' g cs := ⟨range_other h.1 hb ho, there_other h.2 hb ho⟩
theorem Var.same (h : Var w g cs) (he : w'.heap[g]? = w.heap[g]?) : Var w' g cs :=
  ⟨fun j v hv => (World.cell?_of_block (a := ⟨g, 0 + j, none⟩) he).trans (h.1 j v hv), fun j hj => ⟨by rw [World.cell?_of_block (a := ⟨g, 0 + j, none⟩) he]; exact (h.2 j hj).1, by rw [World.frozen?_of_block (a := ⟨g, 0 + j, none⟩) he]; exact (h.2 j hj).2⟩⟩
theorem Var.cell (h : Var w g cs) {k : Nat} {v : Value} (hc : cs[k]? = some v) : w.cell? ⟨g, k, none⟩ = some v := by have := h.1 k v hc; rwa [Nat.zero_add] at this
theorem Var.lt (h : Var w g cs) (hc : 0 < cs.length) : g < w.heap.size := World.block_lt_of_cell? w _ (h.cell (k := 0) (List.getElem?_eq_getElem hc))
theorem Var.part (h : Var w g cs) {o : Nat} {ds : List Value} (hd : ∀ j v, ds[j]? = some v → cs[o + j]? = some v) : w.rangeAt g o ds := fun j v hv => h.cell (hd j v hv)
theorem Var.there (h : Var w g cs) {o n : Nat} (hn : o + n ≤ cs.length) : w.there g o n := fun j hj => by have := h.2 (o + j) (by omega); rwa [Nat.zero_add] at this
theorem Var.frozen (h : Var w g cs) {k : Nat} (hk : k < cs.length) : w.frozen? ⟨g, k, none⟩ = false := by have := (h.2 k hk).2; rwa [Nat.zero_add] at this
theorem Var.drew (h : Var w g cs) : Var w.drew g cs := ⟨h.1, h.2⟩
/-- A new variable. -/
theorem var_new (w : World) (cs : List Value) (ty : TypeId) : Var (w.alloc (.cells cs.toArray ty)) w.heap.size cs := by
  have h1 : (w.alloc (.cells cs.toArray ty)).rangeAt w.heap.size 0 cs := fun j v hv => by
    rw [Nat.zero_add, cell_of_row _ _ _ _ _ _ (heap_alloc_new w _)]
    simpa using hv
  refine ⟨h1, fun j hj => ⟨?_, frozen_of_row _ _ _ _ _ (heap_alloc_new w _)⟩⟩
  rw [h1 j _ (List.getElem?_eq_getElem hj)]; rfl
/-- Cells in the middle stored. -/
def setv (cs : List Value) (o : Nat) (vs : List Value) : List Value := cs.take o ++ (vs ++ cs.drop (o + vs.length))
theorem setv_len (cs vs : List Value) (o : Nat) (h : o + vs.length ≤ cs.length) : (setv cs o vs).length = cs.length := by
  unfold setv; simp; omega
theorem Var.set (h : Var w g cs) (o : Nat) (vs : List Value) (hn : o + vs.length ≤ cs.length) : Var (w.setCells g o vs) g (setv cs o vs) := by
  refine ⟨fun j v hv => ?_, by rw [setv_len _ _ _ hn]; exact there_set _ _ h.2⟩
  rw [Nat.zero_add]
  unfold setv at hv
  by_cases h1 : j < o
  · rw [List.getElem?_append_left (by simp; omega), List.getElem?_take_of_lt h1] at hv
    have h2 : w.rangeAt g j [v] := fun i x hx => by
      rcases i with _ | i
      · simp at hx; subst hx; exact h.cell hv
      · simp at hx
    have h3 := World.rangeAt_setCells_apart h2 g o vs (by simp; omega) 0 v rfl
    simpa using h3
  · by_cases h4 : j < o + vs.length
    · have h5 : vs[j - o]? = some v := by
        rw [List.getElem?_append_right (by simp; omega), List.getElem?_append_left (by simp; omega)] at hv
        rw [← hv]; congr 1; simp; omega
      have := World.rangeAt_setCells_same w g o vs (h.there hn) (j - o) v h5
      rwa [show o + (j - o) = j by omega] at this
    · have h5 : cs[j]? = some v := by
        rw [List.getElem?_append_right (by simp; omega), List.getElem?_append_right (by simp; omega), List.getElem?_drop] at hv
        rw [← hv]; congr 1; simp; omega
      have h2 : w.rangeAt g j [v] := fun i x hx => by
        rcases i with _ | i
        · simp at hx; subst hx; exact h.cell h5
        · simp at hx
      have h3 := World.rangeAt_setCells_apart h2 g o vs (by simp; omega) 0 v rfl
      simpa using h3
end

/-! ### A slice of the call's own -/
def OwnR (w : World) (base : Nat) (e : TypeId) (size : Nat) (A : Option Addr) (n c : Nat) (vs : List Value) : Prop := w.ownsRow base e size (.slice A n c) n vs
/-- The block of a slice. -/
def ob (A : Option Addr) : Option Nat := Value.ownBlock (.slice A 0 0)
theorem ob_of (A : Option Addr) (n c : Nat) : Value.ownBlock (.slice A n c) = ob A := by cases A <;> rfl
section
variable {w w' : World} {base size n c : Nat} {e : TypeId} {A : Option Addr} {vs : List Value}
theorem OwnR.below (h : OwnR w base e size A n c vs) (hb : Below w.heap.size w w') : OwnR w' base e size A n c vs := by
  refine ⟨h.1, ?_⟩
  rcases h.2 with h0 | ⟨g, cap, cur, hv, hg, hh, r⟩
  · exact .inl h0
  · exact .inr ⟨g, cap, cur, hv, hg, (hb.block g (Array.getElem?_eq_some_iff.1 hh).1).trans hh, r⟩
theorem OwnR.oth (h : OwnR w base e size A n c vs) {g : Nat} (ho : Oth g w w') (hg : ob A ≠ some g) : OwnR w' base e size A n c vs := by
  refine ⟨h.1, ?_⟩
  rcases h.2 with h0 | ⟨b, cap, cur, hv, hb, hh, r⟩
  · exact .inl h0
  · refine .inr ⟨b, cap, cur, hv, hb, (ho b fun e => hg ?_).trans hh, r⟩
    rw [← ob_of A n c, hv, e]; rfl
theorem OwnR.kept (h : OwnR w base e size A n c vs) {r : Option Nat} (hg : w.grownBy w' r) (hne : ob A = none ∨ ob A ≠ r) : OwnR w' base e size A n c vs := World.ownsRow.kept h hg (by rw [ob_of]; exact hne)
theorem OwnR.alloc (h : OwnR w base e size A n c vs) (o : Obj) : OwnR (w.alloc o) base e size A n c vs := World.ownsRow.alloc h o
theorem OwnR.drew (h : OwnR w base e size A n c vs) : OwnR w.drew base e size A n c vs := h
theorem OwnR.lt (h : OwnR w base e size A n c vs) {k : Nat} (hk : ob A = some k) : base ≤ k ∧ k < w.heap.size := World.ownsRow.lt h k (by rw [ob_of]; exact hk)
theorem OwnR.nil (w : World) (base : Nat) (e : TypeId) (size : Nat) : OwnR w base e size none 0 0 [] := World.ownsRow_nil w base e size
theorem OwnR.base_le (h : OwnR w base e size A n c vs) {base' : Nat} (hb : base' ≤ base) : OwnR w base' e size A n c vs := by
  refine ⟨h.1, ?_⟩
  rcases h.2 with h0 | ⟨g, cap, cur, hv, hg, hh, r⟩
  · exact .inl h0
  · exact .inr ⟨g, cap, cur, hv, by omega, hh, r⟩
theorem OwnR.len (h : OwnR w base e size A n c vs) : vs.length = n * size := h.1
end

/-! ### Acts -/
structure Ac where
  kd : Int
  ts : Int
  f : Fr
  a : Int
  b : Int
deriving DecidableEq
def az : Ac := ⟨0, 0, fz, 0, 0⟩
def enca (x : Ac) : List Value := [.int .i64 x.kd, .int .i64 x.ts, .int .i64 x.f.k, .int .i64 x.f.f, .int .u64 (x.f.s : Int), .int .u16 (x.f.m : Int), .int .i64 x.a, .int .i64 x.b]
def av (x : Ac) : Value := .agg (enca x).toArray
def flat (l : List Ac) : List Value := l.flatMap enca
theorem enca_len (x : Ac) : (enca x).length = 8 := rfl
theorem enca_one (x : Ac) : ∀ u ∈ enca x, u.oneCell' = true := by
  intro u hu; simp [enca] at hu; rcases hu with rfl | rfl | rfl | rfl | rfl | rfl | rfl | rfl <;> rfl
theorem flat_cons (x : Ac) (l : List Ac) : flat (x :: l) = enca x ++ flat l := rfl
theorem flat_len (l : List Ac) : (flat l).length = l.length * 8 := by
  induction l with
  | nil => rfl
  | cons x l ih => rw [flat_cons, List.length_append, ih, enca_len, List.length_cons]; omega
theorem flat_app (a b : List Ac) : flat (a ++ b) = flat a ++ flat b := by simp [flat]
/-- A note, a timer, what is sent. -/
def note (k b : Int) : Ac := ⟨3, 0, fz, k, b⟩
def timr (t : Int) : Ac := ⟨1, t, fz, 0, 0⟩
def sent (f : Fr) : Ac := ⟨2, 0, f, 0, 0⟩
theorem info66 : (Tryz.prog.info? 66).map (fun i => (i.zero, i.size, i.bytes)) = some (some (av az), 8, 64) := by kernel_rfl
/-! ### A node -/
structure Nd where
  id : Int
  ph : Int
  sl : Int
  st : Int
  o : Oc
  co : Int
  mb : Nat
  t : Ty
  dv : List Int
  se : Bool
  vd : Int
def nz : Nd := ⟨0, 0, 0, 0, oz, 0, 0, tz, [], false, 0⟩
def encn (x : Nd) (A : Option Addr) (n c : Nat) : List Value := [.int .i64 x.id, .int .i64 x.ph, .int .u64 x.sl, .int .i64 x.st, .int .i64 x.o.p, .int .i64 x.o.d, .int .i64 x.o.r, .int .i64 x.co, .int .u16 (x.mb : Int), .int .i64 x.t.g, .int .i64 x.t.b, .slice A n c, .bool x.se, .int .i64 x.vd]
def nv (x : Nd) (A : Option Addr) (n c : Nat) : Value := .agg (encn x A n c).toArray
theorem encn_one (x : Nd) (A : Option Addr) (n c : Nat) : ∀ u ∈ encn x A n c, u.oneCell' = true := by
  intro u hu; simp [encn] at hu; rcases hu with rfl | rfl | rfl | rfl | rfl | rfl | rfl | rfl | rfl | rfl | rfl | rfl | rfl | rfl <;> rfl
theorem size32 : (Tryz.prog.info? 32).map (·.size) = some 14 := by kernel_rfl
theorem zero32 (w : World) : (zeroValue 32).run Tryz.prog w = .ok (nv nz none 0 0) w := by kernel_rfl
def encw (x : Nd) (A : Option Addr) (n c : Nat) (m : Md) (B : Option Addr) (k d : Nat) : List Value := encn x A n c ++ (encm m ++ [.slice B k d])
theorem size71 : (Tryz.prog.info? 71).map (·.size) = some 20 := by kernel_rfl
theorem size23 : (Tryz.prog.info? 23).map (·.size) = some 5 := by kernel_rfl
theorem size26 : (Tryz.prog.info? 26).map (·.size) = some 3 := by kernel_rfl
theorem size29 : (Tryz.prog.info? 29).map (·.size) = some 2 := by kernel_rfl
theorem size54 : (Tryz.prog.info? 54).map (·.size) = some 4 := by kernel_rfl

/-- Block g is a node at work: the node, its schedule, its acts; its lists are its own, from block base on, and none of these blocks is among those that stay. -/
structure WkU (w : World) (K : Nat → Prop) (base g : Nat) (x : Nd) (m : Md) (l : List Ac) (A : Option Addr) (n c : Nat) (B : Option Addr) (k d : Nat) : Prop where
  var : Var w g (encw x A n c m B k d)
  devs : OwnR w base 2 1 A n c (sv x.dv)
  acts : OwnR w base 66 8 B k d (flat l)
  bg : base ≤ g
  kg : ¬ K g
  sa : ∀ b, ob A = some b → ¬ K b ∧ b ≠ g ∧ ob B ≠ some b
  sb : ∀ b, ob B = some b → ¬ K b ∧ b ≠ g
  kl : ∀ b, K b → b < w.heap.size
  bl : base ≤ w.heap.size
def Wk (w : World) (K : Nat → Prop) (base g : Nat) (x : Nd) (m : Md) (l : List Ac) : Prop :=
  ∃ (A : Option Addr) (n c : Nat) (B : Option Addr) (k d : Nat), WkU w K base g x m l A n c B k d
theorem WkU.below {w w' : World} {K : Nat → Prop} {base g : Nat} {x : Nd} {m : Md} {l : List Ac} {A B : Option Addr} {n c k d : Nat} (h : WkU w K base g x m l A n c B k d) (hb : Below w.heap.size w w') : WkU w' K base g x m l A n c B k d :=
  ⟨h.1.below hb (h.1.lt (Nat.zero_lt_succ 19)), h.2.below hb, h.3.below hb, h.4, h.5, h.6, h.7, fun b hk => Nat.lt_of_lt_of_le (h.8 b hk) hb.size, Nat.le_trans h.9 hb.size⟩
section
variable {w w' : World} {K : Nat → Prop} {base g : Nat} {x : Nd} {m : Md} {l : List Ac}
theorem Wk.below (h : Wk w K base g x m l) (hb : Below w.heap.size w w') : Wk w' K base g x m l := by
  obtain ⟨A, n, c, B, k, d, h1, h2, h3, h4, h5, h6, h7, h8, h9⟩ := h
  exact ⟨A, n, c, B, k, d, h1.below hb (h1.lt (by show 0 < 20; omega)), h2.below hb, h3.below hb, h4, h5, h6, h7, fun b hk => Nat.lt_of_lt_of_le (h8 b hk) hb.size, Nat.le_trans h9 hb.size⟩
theorem Wk.drew (h : Wk w K base g x m l) : Wk w.drew K base g x m l := h.below (Below.refl _ w).drew
theorem Wk.keptb (h : Wk w K base g x m l) (hb : Below w.heap.size w w') : Kept K w w' := by
  obtain ⟨A, n, c, B, k, d, h1, h2, h3, h4, h5, h6, h7, h8, h9⟩ := h
  exact Kept.of_below hb h8
theorem Wk.cell (h : Wk w K base g x m l) {j : Nat} {v : Value} (hc : ∀ A n c B k d, (encw x A n c m B k d)[j]? = some v) : w.cell? ⟨g, j, none⟩ = some v := by
  obtain ⟨A, n, c, B, k, d, h1, _⟩ := h
  exact h1.cell (hc A n c B k d)
theorem Wk.osc (h : Wk w K base g x m l) : w.rangeAt g 4 (enco x.o) := by
  obtain ⟨A, n, c, B, k, d, h1, _⟩ := h
  refine h1.part fun j v hv => ?_
  match j, hv with
  | 0, hv => exact hv
  | 1, hv => exact hv
  | 2, hv => exact hv
theorem Wk.md (h : Wk w K base g x m l) : w.rangeAt g 14 (encm m) := by
  obtain ⟨A, n, c, B, k, d, h1, _⟩ := h
  refine h1.part fun j v hv => ?_
  match j, hv with
  | 0, hv => exact hv
  | 1, hv => exact hv
  | 2, hv => exact hv
  | 3, hv => exact hv
  | 4, hv => exact hv
theorem Wk.ty (h : Wk w K base g x m l) : w.rangeAt g 9 (enct x.t) := by
  obtain ⟨A, n, c, B, k, d, h1, _⟩ := h
  refine h1.part fun j v hv => ?_
  match j, hv with
  | 0, hv => exact hv
  | 1, hv => exact hv
/-- Some of its cells, but for its lists, stored: y is x with them. -/
theorem Wk.set (h : Wk w K base g x m l) (y : Nd) (o : Nat) (vs : List Value) (hy : y.dv = x.dv) (he : ∀ A n c B k d, encw y A n c m B k d = setv (encw x A n c m B k d) o vs) (hn : o + vs.length ≤ 20) :
    Wk (w.setCells g o vs) K base g y m l ∧ Kept K w (w.setCells g o vs) := by
  obtain ⟨A, n, c, B, k, d, h1, h2, h3, h4, h5, h6, h7, h8, h9⟩ := h
  have ho := setCells_oth g vs o w
  have hs := setCells_size g vs o w
  refine ⟨⟨A, n, c, B, k, d, ?_, ?_, h3.oth ho.2 (fun e => (h7 g e).2 rfl), h4, h5, h6, h7, by rw [hs]; exact h8, by rw [hs]; exact h9⟩, Kept.oth ho.1 ho.2 h5⟩
  · rw [he]; exact h1.set o vs hn
  · rw [hy]; exact h2.oth ho.2 (fun e => (h6 g e).2.1 rfl)
end
end Go.Proofs.YtlgedfljmgedfaaGreat
namespace Go.Proofs.YtlgedfljmgedfaaGreat
open Go Go.ChangeShapes Go.WideShapes Go.ChangeAt Go.RowKit
open M10 (hid Md encm mv mz Ty enct tv tz Fr encf fv fz)
open O6 (Oc enco ov oz)
open T9 (sv)
theorem own : ownKnob Tryz.prog.godebug = none := by kernel_rfl
theorem laidOut : laidOutB Tryz.prog = true := by kernel_rfl
/-- What is known of a number of 64 bits that came in. -/
def In64 (z : Int) : Prop := -9223372036854775808 ≤ z ∧ z ≤ 9223372036854775807
theorem pick {α : Type} [Inhabited α] {n : Nat} {P : Nat → α → Prop} (h : ∀ i, i < n → ∃ x, P i x) : ∃ f : Nat → α, ∀ i, i < n → P i (f i) :=
  ⟨fun i => if h' : i < n then (h i h').choose else default, fun i hi => by simp only [dif_pos hi]; exact (h i hi).choose_spec⟩
section
variable {H : Type} {hv : TypeId × Value → H} {W : World}
theorem trod_lt0 {t : TypeId} {v : Value} {d : DataW H} {p : List MemPlace} (h : DataW.Trod hv Tryz.prog W 0 (fun _ => true) true t v d p) : ∀ x ∈ p, x.block < W.heap.size := by
  obtain ⟨m, hm⟩ := h; exact DataW.trod_lt m _ _ _ hm
theorem row_of {vs : List Value} {A : Addr} {n : Nat} (hl : vs.length = n) (h : ∀ j u, vs[j]? = some u → W.cell? (A.add j) = some u) : T9.Row W W.heap.size (some A) n vs := by
  refine ⟨hl, fun hn => ?_⟩
  obtain ⟨b, off, spot⟩ := A
  have h0 := h 0 (vs[0]'(by omega)) (List.getElem?_eq_getElem (by omega))
  have hspot : spot = none := by simpa [Addr.add] using World.cell?_spot h0
  subst hspot
  rw [T9.plain_add] at h0
  exact ⟨b, off, rfl, World.block_lt_of_cell? W _ h0, fun j u hu => by have := h j u hu; rwa [T9.plain_add] at this⟩
theorem row8_of {B n : Nat} {A : Option Addr} {vs : List Value} (h : T9.Row W B A n vs) : F8.Row W B A n vs := h
set_option maxRecDepth 100000 in
theorem nums_of {fuel : Nat} {cs : List Value} {x : DataW H × List MemPlace} (hf : DataW.trod hv Tryz.prog W 0 (fun _ => true) true fuel 30 cs = some x) :
    ∃ A n c zs, cs = [.slice A n c] ∧ T9.Row W W.heap.size A n (sv zs) ∧ n ≤ c ∧ c ≤ 9223372036854775807 := by
  rcases Deep.open_slice1 Tryz.underlying30 (by kernel_rfl) hf with ⟨hcs, hx⟩ | ⟨a, n, c, m, k, V, D, Pl, hcs, _, hl, hm, hmm, hx, hi⟩
  · exact ⟨none, 0, 0, [], hcs, T9.Row.nil _ _ _, Nat.le_refl _, by decide⟩
  · simp only [if_true] at hmm
    rw [hmm] at hi
    obtain ⟨f, hf'⟩ := pick (α := Int) (n := c) (P := fun i z => V i = .int .i64 z) (fun i hi' => by
      obtain ⟨_, ht⟩ := hi i hi'
      obtain ⟨z, e, _, wf⟩ := DataW.trod_int Tryz.underlying2 ht
      simp at e
      exact ⟨z, e⟩)
    refine ⟨some a, n, c, (List.range n).map f, hcs, row_of (by simp [sv]) fun j u hu => ?_, hl, by unfold maxLen at hm; omega⟩
    unfold sv at hu
    rw [List.getElem?_map] at hu
    obtain ⟨z, hz, rfl⟩ := Option.map_eq_some_iff.1 hu
    rw [List.getElem?_map] at hz
    obtain ⟨i, hi2, rfl⟩ := Option.map_eq_some_iff.1 hz
    have hj : j < n := by have := (List.getElem?_eq_some_iff.1 hi2).1; simpa using this
    rw [List.getElem?_range hj] at hi2
    injection hi2 with hi2; subst hi2
    rw [(hi j (by omega)).1, hf' j (by omega)]
set_option maxRecDepth 100000 in
theorem bytes_of {fuel : Nat} {cs : List Value} {x : DataW H × List MemPlace} (hf : DataW.trod hv Tryz.prog W 0 (fun _ => true) true fuel 33 cs = some x) :
    ∃ A n c bs, cs = [.slice A n c] ∧ F8.Row W W.heap.size A n (F8.bv bs) ∧ F8.Oct bs ∧ n ≤ c ∧ c ≤ 9223372036854775807 := by
  rcases Deep.open_slice1 Tryz.underlying33 (by kernel_rfl) hf with ⟨hcs, hx⟩ | ⟨a, n, c, m, k, V, D, Pl, hcs, _, hl, hm, hmm, hx, hi⟩
  · exact ⟨none, 0, 0, [], hcs, T9.Row.nil _ _ _, (fun x hx => by cases hx), Nat.le_refl _, by decide⟩
  · simp only [if_true] at hmm
    rw [hmm] at hi
    obtain ⟨f, hf'⟩ := pick (α := Nat) (n := c) (P := fun i z => V i = .int .u8 (z : Int) ∧ z < 256) (fun i hi' => by
      obtain ⟨_, ht⟩ := hi i hi'
      obtain ⟨z, e, _, wf⟩ := DataW.trod_int Tryz.underlying5 ht
      have hb := bounds_u8 wf
      simp at e
      exact ⟨z.toNat, by rw [e, Int.toNat_of_nonneg hb.1], by omega⟩)
    refine ⟨some a, n, c, (List.range n).map f, hcs, row8_of (row_of (by simp [F8.bv]) fun j u hu => ?_), fun x hx => ?_, hl, by unfold maxLen at hm; omega⟩
    · unfold F8.bv at hu
      rw [List.getElem?_map] at hu
      obtain ⟨z, hz, rfl⟩ := Option.map_eq_some_iff.1 hu
      rw [List.getElem?_map] at hz
      obtain ⟨i, hi2, rfl⟩ := Option.map_eq_some_iff.1 hz
      have hj : j < n := by have := (List.getElem?_eq_some_iff.1 hi2).1; simpa using this
      rw [List.getElem?_range hj] at hi2
      injection hi2 with hi2; subst hi2
      rw [(hi j (by omega)).1, (hf' j (by omega)).1]
    · obtain ⟨i, hi2, rfl⟩ := List.mem_map.1 hx
      exact (hf' i (by have := List.mem_range.1 hi2; omega)).2
/-- Bytes that came in. -/
theorem came_u8s {A : Option Addr} {n c : Nat} {d : DataW H} {p : List MemPlace} (h : DataW.Trod hv Tryz.prog W 0 (fun _ => true) true 33 (.slice A n c) d p) :
    ∃ bs, F8.Row W W.heap.size A n (F8.bv bs) ∧ F8.Oct bs ∧ n ≤ c := by
  obtain ⟨fuel, hf⟩ := h
  obtain ⟨A', n', c', bs, e, h1, h2, h3, _⟩ := bytes_of hf
  have e' : [Value.slice A n c] = [Value.slice A' n' c'] := e
  simp at e'
  obtain ⟨rfl, rfl, rfl⟩ := e'
  exact ⟨bs, h1, h2, h3⟩
set_option maxRecDepth 100000 in
theorem osc_of {fuel : Nat} {cs : List Value} {x : DataW H × List MemPlace} (h : DataW.trod hv Tryz.prog W 0 (fun _ => true) true fuel 26 cs = some x) : ∃ o : Oc, cs = enco o := by
  obtain ⟨xs, n, _, _, hl, hx, hf⟩ := DataW.trod_struct Tryz.underlying26 h
  have hln : cs.length = 3 := hl.trans (by kernel_rfl)
  have hxn : xs.length = 3 := hx
  have c2 : Tryz.prog.cellsOf 2 = 1 := by kernel_rfl
  have f0 : DataW.trod hv Tryz.prog W 0 (fun _ => true) true n 2 ((cs.drop 0).take (Tryz.prog.cellsOf 2)) = xs[0]? := hf 0 _ rfl
  rw [c2, List.getElem?_eq_getElem (by omega)] at f0
  have f1 : DataW.trod hv Tryz.prog W 0 (fun _ => true) true n 2 ((cs.drop 1).take (Tryz.prog.cellsOf 2)) = xs[1]? := hf 1 _ rfl
  rw [c2, List.getElem?_eq_getElem (by omega)] at f1
  have f2 : DataW.trod hv Tryz.prog W 0 (fun _ => true) true n 2 ((cs.drop 2).take (Tryz.prog.cellsOf 2)) = xs[2]? := hf 2 _ rfl
  rw [c2, List.getElem?_eq_getElem (by omega)] at f2
  obtain ⟨z0, e0, _, w0⟩ := DataW.trod_int Tryz.underlying2 f0
  have b0 := bounds_i64 w0
  obtain ⟨z1, e1, _, w1⟩ := DataW.trod_int Tryz.underlying2 f1
  have b1 := bounds_i64 w1
  obtain ⟨z2, e2, _, w2⟩ := DataW.trod_int Tryz.underlying2 f2
  have b2 := bounds_i64 w2
  match cs, hln with
  | [a0, a1, a2], _ =>
    simp at e0 e1 e2
    exact ⟨⟨z0, z1, z2⟩, by subst e0 e1 e2; rfl⟩
set_option maxRecDepth 100000 in
theorem tally_of {fuel : Nat} {cs : List Value} {x : DataW H × List MemPlace} (h : DataW.trod hv Tryz.prog W 0 (fun _ => true) true fuel 29 cs = some x) : ∃ t : Ty, cs = enct t := by
  obtain ⟨xs, n, _, _, hl, hx, hf⟩ := DataW.trod_struct Tryz.underlying29 h
  have hln : cs.length = 2 := hl.trans (by kernel_rfl)
  have hxn : xs.length = 2 := hx
  have c3 : Tryz.prog.cellsOf 3 = 1 := by kernel_rfl
  have f0 : DataW.trod hv Tryz.prog W 0 (fun _ => true) true n 3 ((cs.drop 0).take (Tryz.prog.cellsOf 3)) = xs[0]? := hf 0 _ rfl
  rw [c3, List.getElem?_eq_getElem (by omega)] at f0
  have f1 : DataW.trod hv Tryz.prog W 0 (fun _ => true) true n 3 ((cs.drop 1).take (Tryz.prog.cellsOf 3)) = xs[1]? := hf 1 _ rfl
  rw [c3, List.getElem?_eq_getElem (by omega)] at f1
  obtain ⟨z0, e0, _, w0⟩ := DataW.trod_int Tryz.underlying3 f0
  have b0 := bounds_i64 w0
  obtain ⟨z1, e1, _, w1⟩ := DataW.trod_int Tryz.underlying3 f1
  have b1 := bounds_i64 w1
  match cs, hln with
  | [a0, a1], _ =>
    simp at e0 e1
    exact ⟨⟨z0, z1⟩, by subst e0 e1; rfl⟩
set_option maxRecDepth 100000 in
theorem medl_of {fuel : Nat} {cs : List Value} {x : DataW H × List MemPlace} (h : DataW.trod hv Tryz.prog W 0 (fun _ => true) true fuel 23 cs = some x) : ∃ m : Md, cs = encm m ∧ In64 m.n ∧ In64 m.s ∧ In64 m.l ∧ In64 m.f ∧ In64 m.d := by
  obtain ⟨xs, n, _, _, hl, hx, hf⟩ := DataW.trod_struct Tryz.underlying23 h
  have hln : cs.length = 5 := hl.trans (by kernel_rfl)
  have hxn : xs.length = 5 := hx
  have c2 : Tryz.prog.cellsOf 2 = 1 := by kernel_rfl
  have c3 : Tryz.prog.cellsOf 3 = 1 := by kernel_rfl
  have f0 : DataW.trod hv Tryz.prog W 0 (fun _ => true) true n 3 ((cs.drop 0).take (Tryz.prog.cellsOf 3)) = xs[0]? := hf 0 _ rfl
  rw [c3, List.getElem?_eq_getElem (by omega)] at f0
  have f1 : DataW.trod hv Tryz.prog W 0 (fun _ => true) true n 2 ((cs.drop 1).take (Tryz.prog.cellsOf 2)) = xs[1]? := hf 1 _ rfl
  rw [c2, List.getElem?_eq_getElem (by omega)] at f1
  have f2 : DataW.trod hv Tryz.prog W 0 (fun _ => true) true n 2 ((cs.drop 2).take (Tryz.prog.cellsOf 2)) = xs[2]? := hf 2 _ rfl
  rw [c2, List.getElem?_eq_getElem (by omega)] at f2
  have f3 : DataW.trod hv Tryz.prog W 0 (fun _ => true) true n 2 ((cs.drop 3).take (Tryz.prog.cellsOf 2)) = xs[3]? := hf 3 _ rfl
  rw [c2, List.getElem?_eq_getElem (by omega)] at f3
  have f4 : DataW.trod hv Tryz.prog W 0 (fun _ => true) true n 2 ((cs.drop 4).take (Tryz.prog.cellsOf 2)) = xs[4]? := hf 4 _ rfl
  rw [c2, List.getElem?_eq_getElem (by omega)] at f4
  obtain ⟨z0, e0, _, w0⟩ := DataW.trod_int Tryz.underlying3 f0
  have b0 := bounds_i64 w0
  obtain ⟨z1, e1, _, w1⟩ := DataW.trod_int Tryz.underlying2 f1
  have b1 := bounds_i64 w1
  obtain ⟨z2, e2, _, w2⟩ := DataW.trod_int Tryz.underlying2 f2
  have b2 := bounds_i64 w2
  obtain ⟨z3, e3, _, w3⟩ := DataW.trod_int Tryz.underlying2 f3
  have b3 := bounds_i64 w3
  obtain ⟨z4, e4, _, w4⟩ := DataW.trod_int Tryz.underlying2 f4
  have b4 := bounds_i64 w4
  match cs, hln with
  | [a0, a1, a2, a3, a4], _ =>
    simp at e0 e1 e2 e3 e4
    exact ⟨⟨z0, z1, z2, z3, z4⟩, by subst e0 e1 e2 e3 e4; rfl, b0, b1, b2, b3, b4⟩
set_option maxRecDepth 100000 in
theorem node_of {fuel : Nat} {cs : List Value} {x : DataW H × List MemPlace} (h : DataW.trod hv Tryz.prog W 0 (fun _ => true) true fuel 32 cs = some x) : ∃ (x : Nd) (A : Option Addr) (n c : Nat), cs = encn x A n c ∧ T9.Row W W.heap.size A n (sv x.dv) ∧ 0 ≤ x.sl ∧ x.mb < 65536 ∧ n ≤ c := by
  obtain ⟨xs, n, _, _, hl, hx, hf⟩ := DataW.trod_struct Tryz.underlying32 h
  have hln : cs.length = 14 := hl.trans (by kernel_rfl)
  have hxn : xs.length = 11 := hx
  have c2 : Tryz.prog.cellsOf 2 = 1 := by kernel_rfl
  have c3 : Tryz.prog.cellsOf 3 = 1 := by kernel_rfl
  have c4 : Tryz.prog.cellsOf 4 = 1 := by kernel_rfl
  have c24 : Tryz.prog.cellsOf 24 = 1 := by kernel_rfl
  have c26 : Tryz.prog.cellsOf 26 = 3 := by kernel_rfl
  have c27 : Tryz.prog.cellsOf 27 = 1 := by kernel_rfl
  have c29 : Tryz.prog.cellsOf 29 = 2 := by kernel_rfl
  have c30 : Tryz.prog.cellsOf 30 = 1 := by kernel_rfl
  have f0 : DataW.trod hv Tryz.prog W 0 (fun _ => true) true n 3 ((cs.drop 0).take (Tryz.prog.cellsOf 3)) = xs[0]? := hf 0 _ rfl
  rw [c3, List.getElem?_eq_getElem (by omega)] at f0
  have f1 : DataW.trod hv Tryz.prog W 0 (fun _ => true) true n 3 ((cs.drop 1).take (Tryz.prog.cellsOf 3)) = xs[1]? := hf 1 _ rfl
  rw [c3, List.getElem?_eq_getElem (by omega)] at f1
  have f2 : DataW.trod hv Tryz.prog W 0 (fun _ => true) true n 24 ((cs.drop 2).take (Tryz.prog.cellsOf 24)) = xs[2]? := hf 2 _ rfl
  rw [c24, List.getElem?_eq_getElem (by omega)] at f2
  have f3 : DataW.trod hv Tryz.prog W 0 (fun _ => true) true n 2 ((cs.drop 3).take (Tryz.prog.cellsOf 2)) = xs[3]? := hf 3 _ rfl
  rw [c2, List.getElem?_eq_getElem (by omega)] at f3
  have f4 : DataW.trod hv Tryz.prog W 0 (fun _ => true) true n 26 ((cs.drop 4).take (Tryz.prog.cellsOf 26)) = xs[4]? := hf 4 _ rfl
  rw [c26, List.getElem?_eq_getElem (by omega)] at f4
  have f5 : DataW.trod hv Tryz.prog W 0 (fun _ => true) true n 2 ((cs.drop 7).take (Tryz.prog.cellsOf 2)) = xs[5]? := hf 5 _ rfl
  rw [c2, List.getElem?_eq_getElem (by omega)] at f5
  have f6 : DataW.trod hv Tryz.prog W 0 (fun _ => true) true n 27 ((cs.drop 8).take (Tryz.prog.cellsOf 27)) = xs[6]? := hf 6 _ rfl
  rw [c27, List.getElem?_eq_getElem (by omega)] at f6
  have f7 : DataW.trod hv Tryz.prog W 0 (fun _ => true) true n 29 ((cs.drop 9).take (Tryz.prog.cellsOf 29)) = xs[7]? := hf 7 _ rfl
  rw [c29, List.getElem?_eq_getElem (by omega)] at f7
  have f8 : DataW.trod hv Tryz.prog W 0 (fun _ => true) true n 30 ((cs.drop 11).take (Tryz.prog.cellsOf 30)) = xs[8]? := hf 8 _ rfl
  rw [c30, List.getElem?_eq_getElem (by omega)] at f8
  have f9 : DataW.trod hv Tryz.prog W 0 (fun _ => true) true n 4 ((cs.drop 12).take (Tryz.prog.cellsOf 4)) = xs[9]? := hf 9 _ rfl
  rw [c4, List.getElem?_eq_getElem (by omega)] at f9
  have f10 : DataW.trod hv Tryz.prog W 0 (fun _ => true) true n 3 ((cs.drop 13).take (Tryz.prog.cellsOf 3)) = xs[10]? := hf 10 _ rfl
  rw [c3, List.getElem?_eq_getElem (by omega)] at f10
  obtain ⟨z0, e0, _, w0⟩ := DataW.trod_int Tryz.underlying3 f0
  have b0 := bounds_i64 w0
  obtain ⟨z1, e1, _, w1⟩ := DataW.trod_int Tryz.underlying3 f1
  have b1 := bounds_i64 w1
  obtain ⟨z2, e2, _, w2⟩ := DataW.trod_int Tryz.underlying24 f2
  have b2 := bounds_u64 w2
  obtain ⟨z3, e3, _, w3⟩ := DataW.trod_int Tryz.underlying2 f3
  have b3 := bounds_i64 w3
  obtain ⟨o, e4⟩ := osc_of f4
  obtain ⟨z5, e5, _, w5⟩ := DataW.trod_int Tryz.underlying2 f5
  have b5 := bounds_i64 w5
  obtain ⟨z6, e6, _, w6⟩ := DataW.trod_int Tryz.underlying27 f6
  have b6 := bounds_u16 w6
  obtain ⟨t, e7⟩ := tally_of f7
  obtain ⟨A, m, c, zs, e8, hr, hmc, _⟩ := nums_of f8
  obtain ⟨z9, e9, _⟩ := DataW.trod_bool Tryz.underlying4 f9
  obtain ⟨z10, e10, _, w10⟩ := DataW.trod_int Tryz.underlying3 f10
  have b10 := bounds_i64 w10
  obtain ⟨y6, rfl⟩ : ∃ y : Nat, z6 = y := ⟨z6.toNat, by omega⟩
  match cs, hln with
  | [a0, a1, a2, a3, a4, a5, a6, a7, a8, a9, a10, a11, a12, a13], _ =>
    simp at e0 e1 e2 e3 e4 e5 e6 e7 e8 e9 e10
    unfold enco at e4
    unfold enct at e7
    simp at e4 e7
    obtain ⟨e4a, e4b, e4c⟩ := e4
    obtain ⟨e7a, e7b⟩ := e7
    exact ⟨⟨z0, z1, z2, z3, o, z5, y6, t, zs, z9, z10⟩, A, m, c, by subst e0 e1 e2 e3 e4a e4b e4c e5 e6 e7a e7b e8 e9 e10; rfl, hr, b2.1, by simp only; omega, hmc⟩
set_option maxRecDepth 100000 in
/-- One that came in as an argument. -/
theorem came_m {r : Reach} {base : Nat} {v : Value} {d : DataW H} {p : List MemPlace} (hok : Value.okWide Tryz.prog W r base 23 v) (h : DataW.Trod hv Tryz.prog W 0 (fun _ => true) true 23 v d p) :
    ∃ m : Md, v = mv m ∧ In64 m.n ∧ In64 m.s ∧ In64 m.l ∧ In64 m.f ∧ In64 m.d := by
  obtain ⟨cs, rfl, _⟩ := okWide_struct Tryz.underlying23 hok
  obtain ⟨fuel, hf⟩ := h
  obtain ⟨z, hz, q⟩ := medl_of hf
  have e : (Value.agg cs).cells = cs := rfl
  rw [e] at hz
  refine ⟨z, ?_, q⟩
  unfold mv
  rw [← hz]
set_option maxRecDepth 100000 in
/-- One that came in as an argument. -/
theorem came_n {r : Reach} {base : Nat} {v : Value} {d : DataW H} {p : List MemPlace} (hok : Value.okWide Tryz.prog W r base 32 v) (h : DataW.Trod hv Tryz.prog W 0 (fun _ => true) true 32 v d p) :
    ∃ (x : Nd) (A : Option Addr) (n c : Nat), v = nv x A n c ∧ T9.Row W W.heap.size A n (sv x.dv) ∧ 0 ≤ x.sl ∧ x.mb < 65536 ∧ n ≤ c := by
  obtain ⟨cs, rfl, _⟩ := okWide_struct Tryz.underlying32 hok
  obtain ⟨fuel, hf⟩ := h
  obtain ⟨x, A, n, c, hz, q⟩ := node_of hf
  have e : (Value.agg cs).cells = cs := rfl
  rw [e] at hz
  refine ⟨x, A, n, c, ?_, q⟩
  unfold nv
  rw [← hz]
end
end Go.Proofs.YtlgedfljmgedfaaGreat
namespace Go.Proofs.YtlgedfljmgedfaaGreat
open Go Go.RowKit
open M10 (hid Md encm mv mz Oth range_keep there_keep range_other there_other setCells_oth setCells_size there_set Ty enct tv tz Fr encf fv fz)
open O6 (Oc enco ov oz)
open T9 (sv)
section
variable {w w' : World} {K : Nat → Prop} {base g : Nat} {x : Nd} {m : Md} {l : List Ac} {cs : List Value}
variable {ops : Array Oper} {rest : List Oper} {o : Oper} {a : Act} {Q : Exit → Act → World → Prop}
/-! ### Variables -/
theorem wpList_gbox (ty : TypeId) (cs : List Value) (hg : o.guard = none) (y : Operand) (ho : o.op = .box ty y) (hx : (a.eval y).cells = cs.toArray)
    (h : ∀ w', Var w' w.heap.size cs → Below w.heap.size w w' → Hid (w'.heap.size = w.heap.size + 1) → wpList Tryz.prog ops Q rest (a.put o.dst (.pointer (some ⟨w.heap.size, 0, none⟩))) w') : wpList Tryz.prog ops Q (o :: rest) a w := by
  refine wpList_plain hg fun K hK => ?_
  unfold Oper.wp execOp
  simp only [ho, Sem.run_bind, Instr.box, newVar, newRow, run_newObj_alloc, Sem.run_pure, Result.andThen_ok]
  refine hK _ _ (h _ ?_ ((Below.refl _ _).alloc (Nat.le_refl _) _) (hid (by simp)))
  rw [hx]; exact var_new w cs ty
theorem wpList_galloc (ty : TypeId) (cs : List Value) (hz : ∀ w, (zeroValue ty).run Tryz.prog w = .ok (.agg cs.toArray) w) (hg : o.guard = none) (ho : o.op = .alloc ty)
    (h : ∀ w', Var w' w.heap.size cs → Below w.heap.size w w' → Hid (w'.heap.size = w.heap.size + 1) → wpList Tryz.prog ops Q rest (a.put o.dst (.pointer (some ⟨w.heap.size, 0, none⟩))) w') : wpList Tryz.prog ops Q (o :: rest) a w := by
  refine wpList_plain hg fun K hK => ?_
  unfold Oper.wp execOp
  simp only [ho, Sem.run_bind, Instr.alloc, hz, newVar, newRow, run_newObj_alloc, Sem.run_pure, Result.andThen_ok]
  exact hK _ _ (h _ (var_new w cs ty) ((Below.refl _ _).alloc (Nat.le_refl _) _) (hid (by simp)))
theorem wpList_galloc1 (ty : TypeId) (v : Value) (hz : ∀ w, (zeroValue ty).run Tryz.prog w = .ok v w) (hc : v.cells = #[v]) (hg : o.guard = none) (ho : o.op = .alloc ty)
    (h : ∀ w', Var w' w.heap.size [v] → Below w.heap.size w w' → Hid (w'.heap.size = w.heap.size + 1) → wpList Tryz.prog ops Q rest (a.put o.dst (.pointer (some ⟨w.heap.size, 0, none⟩))) w') : wpList Tryz.prog ops Q (o :: rest) a w := by
  refine wpList_plain hg fun K hK => ?_
  unfold Oper.wp execOp
  simp only [ho, Sem.run_bind, Instr.alloc, hz, hc, newVar, newRow, run_newObj_alloc, Sem.run_pure, Result.andThen_ok]
  exact hK _ _ (h _ (var_new w [v] ty) ((Below.refl _ _).alloc (Nat.le_refl _) _) (hid (by simp)))
/-- A struct loaded, from wherever it lies. -/
theorem wpList_gld (ty : TypeId) (cs : List Value) (y : Operand) (ho : o.op = .load ty y) {b off : Nat} (hx : a.eval y = .pointer (some ⟨b, off, none⟩)) (hv : w.rangeAt b off cs) {d : TypeDesc} (hu : Tryz.prog.underlying ty = some d) (hd : d.isRow = true) (hs : (Tryz.prog.info? ty).map (·.size) = some cs.length)
    (hw : Region.wanted o (yielded ops a.tmps) = true) (h : wpList Tryz.prog ops Q rest (a.put o.dst (.agg cs.toArray)) w) : wpList Tryz.prog ops Q (o :: rest) a w :=
  wpList_step fun _ hK => by rw [if_pos hw]; exact wp_load_mid ty y ho b off hx cs d hv hu hd hs (hK _ _ h)
/-- An oscillator, a schedule, a tally, a frame, a node, an act loaded. -/
theorem wpList_lo {z : Oc} (y : Operand) (ho : o.op = .load 26 y) {b off : Nat} (hx : a.eval y = .pointer (some ⟨b, off, none⟩)) (hv : w.rangeAt b off (enco z)) (hw : Region.wanted o (yielded ops a.tmps) = true)
    (h : wpList Tryz.prog ops Q rest (a.put o.dst (ov z)) w) : wpList Tryz.prog ops Q (o :: rest) a w := wpList_gld 26 (enco z) y ho hx hv Tryz.underlying26 rfl (by rw [size26]; rfl) hw h
theorem wpList_lm {z : Md} (y : Operand) (ho : o.op = .load 23 y) {b off : Nat} (hx : a.eval y = .pointer (some ⟨b, off, none⟩)) (hv : w.rangeAt b off (encm z)) (hw : Region.wanted o (yielded ops a.tmps) = true)
    (h : wpList Tryz.prog ops Q rest (a.put o.dst (mv z)) w) : wpList Tryz.prog ops Q (o :: rest) a w := wpList_gld 23 (encm z) y ho hx hv Tryz.underlying23 rfl (by rw [size23]; rfl) hw h
theorem wpList_lt {z : Ty} (y : Operand) (ho : o.op = .load 29 y) {b off : Nat} (hx : a.eval y = .pointer (some ⟨b, off, none⟩)) (hv : w.rangeAt b off (enct z)) (hw : Region.wanted o (yielded ops a.tmps) = true)
    (h : wpList Tryz.prog ops Q rest (a.put o.dst (tv z)) w) : wpList Tryz.prog ops Q (o :: rest) a w := wpList_gld 29 (enct z) y ho hx hv Tryz.underlying29 rfl (by rw [size29]; rfl) hw h
theorem wpList_lf {z : Fr} (y : Operand) (ho : o.op = .load 54 y) {b off : Nat} (hx : a.eval y = .pointer (some ⟨b, off, none⟩)) (hv : w.rangeAt b off (encf z)) (hw : Region.wanted o (yielded ops a.tmps) = true)
    (h : wpList Tryz.prog ops Q rest (a.put o.dst (fv z)) w) : wpList Tryz.prog ops Q (o :: rest) a w := wpList_gld 54 (encf z) y ho hx hv Tryz.underlying54 rfl (by rw [size54]; rfl) hw h
theorem wpList_ln {z : Nd} {A : Option Addr} {n c : Nat} (y : Operand) (ho : o.op = .load 32 y) {b off : Nat} (hx : a.eval y = .pointer (some ⟨b, off, none⟩)) (hv : w.rangeAt b off (encn z A n c)) (hw : Region.wanted o (yielded ops a.tmps) = true)
    (h : wpList Tryz.prog ops Q rest (a.put o.dst (nv z A n c)) w) : wpList Tryz.prog ops Q (o :: rest) a w := wpList_gld 32 (encn z A n c) y ho hx hv Tryz.underlying32 rfl (by rw [size32]; rfl) hw h
/-- Cells of a variable stored. -/
theorem wpList_gst (ty : TypeId) (vs : List Value) (hg : o.guard = none) (y z : Operand) (ho : o.op = .store ty y z) {off : Nat} (hx : a.eval y = .pointer (some ⟨g, off, none⟩)) (hy : a.eval z = .agg vs.toArray) (hv : Var w g cs) (hn : off + vs.length ≤ cs.length) (hs : (Tryz.prog.info? ty).map (·.size) = some vs.length) (h1 : ∀ u ∈ vs, u.oneCell' = true)
    (h : ∀ w', Var w' g (setv cs off vs) → Below g w w' → Oth g w w' → Hid (w'.heap.size = w.heap.size) → wpList Tryz.prog ops Q rest (a.put o.dst undef) w') : wpList Tryz.prog ops Q (o :: rest) a w :=
  wpList_store_mid hg ty y z ho g off vs.toArray hx hy (hv.there (by simpa using hn)) (by simpa using hs) (all_oneCell_toArray h1) (h _ (hv.set off vs hn) (setCells_oth g _ _ _).1 (setCells_oth g _ _ _).2 (hid (setCells_size _ _ _ _)))
theorem run_store1 (ty : TypeId) (g k : Nat) (v : Value) (w : World) (hs : (Tryz.prog.info? ty).map (·.size) = some 1) (hc : v.cells = #[v]) (h1 : v.oneCell' = true) (ht : w.there g k 1) : (Instr.storeAt ty (.pointer (some ⟨g, k, none⟩)) v).run Tryz.prog w = .ok () (w.setCells g k [v]) := by
  have := run_storeCells_cells (P := Tryz.prog) g k [v] 0 w (fun i hi => by simpa using (ht i (by simpa using hi)).1) (fun i hi => by simpa using (ht i (by simpa using hi)).2) (fun u hu => by simp at hu; rw [hu]; exact h1)
  cases hq : Tryz.prog.info? ty with
  | none => simp [hq] at hs
  | some i =>
    have hz : i.size = 1 := by simpa [hq] using hs
    simp only [Nat.add_zero] at this
    simp [Instr.storeAt, Instr.sureAddr, storeVar, sizeOf, typeInfo, hq, hc, hz, this]
theorem wpList_gst1 (ty : TypeId) (v : Value) (hg : o.guard = none) (y z : Operand) (ho : o.op = .store ty y z) {off : Nat} (hx : a.eval y = .pointer (some ⟨g, off, none⟩)) (hy : a.eval z = v) (hv : Var w g cs) (hn : off < cs.length) (hs : (Tryz.prog.info? ty).map (·.size) = some 1) (hc : v.cells = #[v]) (h1 : v.oneCell' = true)
    (h : ∀ w', Var w' g (setv cs off [v]) → Below g w w' → Oth g w w' → Hid (w'.heap.size = w.heap.size) → wpList Tryz.prog ops Q rest (a.put o.dst undef) w') : wpList Tryz.prog ops Q (o :: rest) a w := by
  refine wpList_plain hg fun K hK => ?_
  have := run_store1 ty g off v w hs hc h1 (hv.there (by omega))
  unfold Oper.wp execOp
  simp only [ho, hx, hy, Sem.run_bind, Sem.run_pure, Result.andThen_ok, this]
  exact hK _ _ (h _ (hv.set off [v] (by simp; omega)) (setCells_oth g _ _ _).1 (setCells_oth g _ _ _).2 (hid (setCells_size _ _ _ _)))
/-- A cell of a variable loaded. -/
theorem run_load1 (ty : TypeId) (p : Addr) (v : Value) (w : World) (ha : (isAgg ty).run Tryz.prog w = .ok false w) (hc : w.cell? p = some v) : (Instr.loadAt ty (.pointer (some p))).run Tryz.prog w = .ok v w := by
  simp [Instr.loadAt, Instr.sureAddr, loadVar, ha, hc]
/-! ### A node at work -/
theorem wpList_ws1 (y : Nd) (off : Nat) (v : Value) (ty : TypeId) (hg : o.guard = none) (p z : Operand) (ho : o.op = .store ty p z) (hx : a.eval p = .pointer (some ⟨g, off, none⟩)) (hy : a.eval z = v) (hv : Wk w K base g x m l) (hs : (Tryz.prog.info? ty).map (·.size) = some 1) (hc : v.cells = #[v]) (h1 : v.oneCell' = true)
    (hd : y.dv = x.dv) (he : ∀ A n c B k d, encw y A n c m B k d = setv (encw x A n c m B k d) off [v]) (hn : off < 20)
    (h : ∀ w', Wk w' K base g y m l → Kept K w w' → wpList Tryz.prog ops Q rest (a.put o.dst undef) w') : wpList Tryz.prog ops Q (o :: rest) a w := by
  refine wpList_plain hg fun K' hK => ?_
  have ht : w.there g off 1 := by
    obtain ⟨A, n, c, B, k, d, h1, _⟩ := hv
    exact h1.there (by show off + 1 ≤ 20; omega)
  have := run_store1 ty g off v w hs hc h1 ht
  obtain ⟨r1, r2⟩ := hv.set y off [v] hd he (by simp; omega)
  unfold Oper.wp execOp
  simp only [ho, hx, hy, Sem.run_bind, Sem.run_pure, Result.andThen_ok, this]
  exact hK _ _ (h _ r1 r2)
theorem wpList_wsn (y : Nd) (off : Nat) (vs : List Value) (ty : TypeId) (hg : o.guard = none) (p z : Operand) (ho : o.op = .store ty p z) (hx : a.eval p = .pointer (some ⟨g, off, none⟩)) (hy : a.eval z = .agg vs.toArray) (hv : Wk w K base g x m l) (hs : (Tryz.prog.info? ty).map (·.size) = some vs.length) (h1 : ∀ u ∈ vs, u.oneCell' = true)
    (hd : y.dv = x.dv) (he : ∀ A n c B k d, encw y A n c m B k d = setv (encw x A n c m B k d) off vs) (hn : off + vs.length ≤ 20)
    (h : ∀ w', Wk w' K base g y m l → Kept K w w' → wpList Tryz.prog ops Q rest (a.put o.dst undef) w') : wpList Tryz.prog ops Q (o :: rest) a w := by
  have ht : w.there g off vs.toArray.size := by
    obtain ⟨A, n, c, B, k, d, h1, _⟩ := hv
    exact h1.there (by show off + vs.toArray.size ≤ 20; simpa using hn)
  obtain ⟨r1, r2⟩ := hv.set y off vs hd he hn
  exact wpList_store_mid hg ty p z ho g off vs.toArray hx hy ht (by simpa using hs) (all_oneCell_toArray h1) (h _ r1 r2)
/-! ### Append -/
/-- A slice literal of one act, of one number. -/
theorem wpList_bsA (y : Operand) (ho : o.op = .buildSlice 37 1 #[(0, y)]) (hw : Region.wanted o (yielded ops a.tmps) = true) {x : Ac} (hx : a.eval y = av x)
    (h : wpList Tryz.prog ops Q rest (a.put o.dst (.slice (some ⟨w.heap.size, 0, none⟩) 1 1)) (w.alloc (.cells (enca x).toArray 66))) : wpList Tryz.prog ops Q (o :: rest) a w := by
  refine wpList_step fun _ hK => ?_
  rw [if_pos hw]
  unfold av enca at hx
  unfold enca at h
  unfold Oper.wp execOp
  simp only [ho, List.map_toArray, List.map_cons, List.map_nil, hx]
  simp [go_sem]
  exact hK _ _ h
theorem wpList_bsI (y : Operand) (ho : o.op = .buildSlice 30 1 #[(0, y)]) (hw : Region.wanted o (yielded ops a.tmps) = true) {v : Int} (hx : a.eval y = .int .i64 v)
    (h : wpList Tryz.prog ops Q rest (a.put o.dst (.slice (some ⟨w.heap.size, 0, none⟩) 1 1)) (w.alloc (.cells #[.int .i64 v] 2))) : wpList Tryz.prog ops Q (o :: rest) a w := by
  refine wpList_step fun _ hK => ?_
  rw [if_pos hw]
  unfold Oper.wp execOp
  simp only [ho, List.map_toArray, List.map_cons, List.map_nil, hx]
  simp [go_sem]
  exact hK _ _ h
/-- append of one onto a slice of the call's own. -/
theorem wpList_gpush (T e : TypeId) (size bytes : Nat) (z : Value) (cs : List Value) (ht : Tryz.prog.underlying T = some (.slice e)) (hi : (Tryz.prog.info? e).map (fun i => (i.zero, i.size, i.bytes)) = some (some z, size, bytes)) (hz : z.cells.size = size) (hs0 : 0 < size) (hb0 : bytes ≤ 1000) (hcs : cs.length = size) (h1 : ∀ u ∈ cs, u.oneCell' = true)
    (hgd : o.guard = none) (s y : Operand) (ho : o.op = .call { callee := .builtin .append, args := #[s, y], argTypes := #[T, T] }) {base n c : Nat} {A : Option Addr} {vs : List Value} (hs : a.eval s = .slice A n c) (hown : OwnR w base e size A n c vs)
    (hx : a.eval y = .slice (some ⟨w.heap.size, 0, none⟩) 1 1) (hn : n ≤ 100000) (hbase : base ≤ w.heap.size)
    (h : ∀ A' c' w', OwnR w' base e size A' (n + 1) c' (vs ++ cs) → w.grownBy w' (ob A) → (ob A' = ob A ∨ ob A' = some (w.heap.size + 1)) → wpList Tryz.prog ops Q rest (a.put o.dst (.slice A' (n + 1) c')) w') :
    wpList Tryz.prog ops Q (o :: rest) a (w.alloc (.cells cs.toArray e)) := by
  refine wpList_plain hgd fun _ hK => ?_
  obtain ⟨i, hi0, hi1, hi2, hi3⟩ := info_parts hi
  have hmul : (n + 1) * bytes ≤ 140737488355328 := by
    have : (n + 1) * bytes ≤ 100001 * 1000 := Nat.mul_le_mul (by omega) hb0
    omega
  obtain ⟨v', w', hrun, h2, h3, _, h5⟩ := run_append_own_at (P := Tryz.prog) (w.alloc (.cells cs.toArray e)) base T o.type e i z size bytes ht hi0 hi1 hi2 hi3 hz hs0 (.slice A n c) n vs (hown.alloc _) ⟨w.heap.size, 0, none⟩ 1 1 cs (by omega)
    (fun j u hu => by
      rw [T9.plain_add]
      have := (var_new w cs e).1 j u hu
      exact this)
    h1 (by unfold maxLen; omega) hmul (by simp; omega)
  have hsz : (w.alloc (.cells cs.toArray e)).heap.size = w.heap.size + 1 := by simp
  rw [ob_of] at h3 h5
  have hg : w.grownBy w' (ob A) := ⟨h3.os, h3.tape, h3.output, by have := h3.size; rw [hsz] at this; omega, fun k hk hne => (h3.block k (by rw [hsz]; omega) hne).trans (Below.heap_alloc _ _ _ hk)⟩
  have hfin : ∃ A' c', v' = .slice A' (n + 1) c' := by
    rcases h2.2 with ⟨rfl, h0⟩ | ⟨g, cap, cur, rfl, r⟩
    · omega
    · exact ⟨_, _, rfl⟩
  obtain ⟨A', c', rfl⟩ := hfin
  rw [ob_of, hsz] at h5
  unfold Oper.wp execOp
  simp only [ho, resolve, invoke, builtin, Sem.run_bind, Sem.run_pure, Result.andThen_ok, List.map_toArray, List.map_cons, List.map_nil, hs, hx, hrun]
  exact hK _ _ (h A' c' w' h2 hg h5)
theorem wpList_pushA (hgd : o.guard = none) (s y : Operand) (ho : o.op = .call { callee := .builtin .append, args := #[s, y], argTypes := #[37, 37] }) {n c : Nat} {A : Option Addr} {l : List Ac} {v : Ac} (hs : a.eval s = .slice A n c) (hown : OwnR w base 66 8 A n c (flat l))
    (hx : a.eval y = .slice (some ⟨w.heap.size, 0, none⟩) 1 1) (hn : n ≤ 100000) (hbase : base ≤ w.heap.size)
    (h : ∀ A' c' w', OwnR w' base 66 8 A' (n + 1) c' (flat (l ++ [v])) → w.grownBy w' (ob A) → (ob A' = ob A ∨ ob A' = some (w.heap.size + 1)) → wpList Tryz.prog ops Q rest (a.put o.dst (.slice A' (n + 1) c')) w') :
    wpList Tryz.prog ops Q (o :: rest) a (w.alloc (.cells (enca v).toArray 66)) :=
  wpList_gpush 37 66 8 64 (av az) (enca v) Tryz.underlying37 info66 rfl (by omega) (by omega) rfl (enca_one v) hgd s y ho hs hown hx hn hbase fun A' c' w' h1 h2 h3 => h A' c' w' ((show flat l ++ enca v = flat (l ++ [v]) by rw [flat_app]; simp [flat]) ▸ h1) h2 h3
theorem wpList_pushI (hgd : o.guard = none) (s y : Operand) (ho : o.op = .call { callee := .builtin .append, args := #[s, y], argTypes := #[30, 30] }) {n c : Nat} {A : Option Addr} {l : List Int} {v : Int} (hs : a.eval s = .slice A n c) (hown : OwnR w base 2 1 A n c (sv l))
    (hx : a.eval y = .slice (some ⟨w.heap.size, 0, none⟩) 1 1) (hn : n ≤ 100000) (hbase : base ≤ w.heap.size)
    (h : ∀ A' c' w', OwnR w' base 2 1 A' (n + 1) c' (sv (l ++ [v])) → w.grownBy w' (ob A) → (ob A' = ob A ∨ ob A' = some (w.heap.size + 1)) → wpList Tryz.prog ops Q rest (a.put o.dst (.slice A' (n + 1) c')) w') :
    wpList Tryz.prog ops Q (o :: rest) a (w.alloc (.cells #[.int .i64 v] 2)) :=
  wpList_gpush 30 2 1 8 (.int .i64 0) [.int .i64 v] Tryz.underlying30 T9.info2 rfl (by omega) (by omega) rfl (by intro u hu; simp at hu; subst hu; rfl) hgd s y ho hs hown hx hn hbase fun A' c' w' h1 h2 h3 => h A' c' w' ((show sv l ++ [.int .i64 v] = sv (l ++ [v]) by simp [sv]) ▸ h1) h2 h3
end
end Go.Proofs.YtlgedfljmgedfaaGreat
namespace Go.Proofs.YtlgedfljmgedfaaGreat
open Go Go.RowKit
open M10 (hid Md encm mv mz Oth range_keep there_keep range_other there_other setCells_oth setCells_size there_set Ty enct tv tz Fr encf fv fz)
open O6 (Oc enco ov oz)
open T9 (sv)
/-- What a method of a node at work leaves. -/
def RetW (K : Nat → Prop) (base g : Nat) (y : Nd) (m : Md) (l : List Ac) (v : Value) (w : World) (e : Ending) (w' : World) : Prop := e = .returned v ∧ Wk w' K base g y m l ∧ Kept K w w'
/-- An act more, the list stored. -/
theorem pushed {K : Nat → Prop} {base g : Nat} {x : Nd} {m : Md} {l : List Ac} {A B B' : Option Addr} {n c k d d' : Nat} {v : Ac} {w w2 w3 : World}
    (h1 : Var w g (encw x A n c m B k d)) (h2 : OwnR w base 2 1 A n c (sv x.dv)) (h4 : base ≤ g) (h5 : ¬ K g) (h6 : ∀ b, ob A = some b → ¬ K b ∧ b ≠ g ∧ ob B ≠ some b) (h7 : ∀ b, ob B = some b → ¬ K b ∧ b ≠ g) (h8 : ∀ b, K b → b < w.heap.size) (_h9 : base ≤ w.heap.size)
    (o2 : OwnR w2 base 66 8 B' (k + 1) d' (flat (l ++ [v]))) (g2 : w.grownBy w2 (ob B)) (e2 : ob B' = ob B ∨ ob B' = some (w.heap.size + 1))
    (v3 : Var w3 g (setv (encw x A n c m B k d) 19 [.slice B' (k + 1) d'])) (b3 : Below g w2 w3) (t3 : Oth g w2 w3) (s3 : w3.heap.size = w2.heap.size) : Wk w3 K base g x m (l ++ [v]) ∧ Kept K w w3 := by
  have hgs := h1.lt (by show 0 < 20; omega)
  have hB : ∀ b, ob B' = some b → ¬ K b ∧ b ≠ g := fun b hb => by
    rcases e2 with e | e
    · exact h7 b (e ▸ hb)
    · have : b = w.heap.size + 1 := by rw [e] at hb; injection hb with hb; exact hb.symm
      exact ⟨fun hk => by have := h8 b hk; omega, by omega⟩
  have hne : ∀ b, K b → some b ≠ ob B := fun b hb e => (h7 b e.symm).1 hb
  refine ⟨⟨A, n, c, B', k + 1, d', v3, ?_, o2.oth t3 (fun e => (hB g e).2 rfl), h4, h5, fun b hb => ⟨(h6 b hb).1, (h6 b hb).2.1, fun e => ?_⟩, hB, fun b hb => ?_, ?_⟩, ?_⟩
  · refine (h2.kept g2 ?_).oth t3 (fun e => (h6 g e).2.1 rfl)
    cases hA : ob A with
    | none => exact .inl rfl
    | some b => exact .inr fun e => (h6 b hA).2.2 e.symm
  · rcases e2 with e' | e'
    · exact (h6 b hb).2.2 (e' ▸ e)
    · have : b = w.heap.size + 1 := by rw [e'] at e; injection e with e; exact e.symm
      have := (h2.lt hb).2
      omega
  · have := h8 b hb; have := g2.size; omega
  · have := g2.size; omega
  · exact (Kept.grown g2 h8 hne).trans (Kept.oth b3 t3 h5)
set_option maxRecDepth 100000 in
theorem note_any (K : Nat → Prop) (base g : Nat) (x : Nd) (m : Md) (l : List Ac) (k b : Int) (w : World) (h : Wk w K base g x m l) (hl : l.length ≤ 1000) :
    Calls Tryz.prog 72 #[.pointer (some ⟨g, 0, none⟩), .int .i64 k, .int .i64 b] w (RetW K base g x m (l ++ [note k b]) (.tuple #[]) w) := by
  obtain ⟨A, n, c, B, kk, d, h1, h2, h3, h4, h5, h6, h7, h8, h9⟩ := h
  have hk : kk ≤ 1000 := by have := h3.len; rw [flat_len] at this; omega
  have hgs := h1.lt (by show 0 < 20; omega)
  have c19 : w.cell? ⟨g, 19, none⟩ = some (.slice B kk d) := h1.cell rfl
  have H1 := hid h1
  have H3 := hid h3
  clear h1 h3
  go_enter Tryz.func72, Tryz.ntmps72
  go_wp2_with (first
    | (refine wpList_gst1 37 (.slice B' (kk + 1) d') rfl (.tmp 17) (.tmp 15) rfl rfl rfl V2.out (by show 19 < 20; omega) (by kernel_rfl) rfl rfl ?_; intro w3 v3 b3 t3 s3)
    | (refine wpList_pushA rfl (.tmp 10) (.tmp 14) rfl rfl H3.out rfl (by omega) h9 ?_; intro B' d' w2 o2 g2 e2; have V2 : Hid (Var w2 g (encw x A n c m B kk d)) := hid (H1.out.same (g2.block g hgs (fun e => (h7 g e.symm).2 rfl))); clear c19)
    | (refine wpList_bsA (x := note k b) (.tmp 13) rfl rfl rfl ?_))
  first | go_end0 | refine bodyPost_ret (results_none rfl _ _ _) rfl ?_
  exact ⟨rfl, pushed H1.out h2 h4 h5 h6 h7 h8 h9 o2 g2 e2 v3 b3 t3 s3.out⟩
end Go.Proofs.YtlgedfljmgedfaaGreat
namespace Go.Proofs.YtlgedfljmgedfaaGreat
open Go Go.RowKit
open M10 (hid Md encm mv mz Oth range_keep there_keep range_other there_other setCells_oth setCells_size there_set Ty enct tv tz Fr encf fv fz)
open O6 (Oc enco ov oz)
open T9 (sv)
section
variable {w : World} {K : Nat → Prop} {base g : Nat} {x : Nd} {m : Md} {l : List Ac}
/-! ### In a quiet region -/
theorem wpQuiet_gld (ty : TypeId) (cs : List Value) {ops : Array Oper} {Q : Act → Prop} {o : Oper} {rest : List Oper} {a : Act} {y : Operand} {b off : Nat} (hw : Region.wanted o (yielded ops a.tmps) = true) (ho : o.op = .load ty y)
    (hx : a.eval y = .pointer (some ⟨b, off, none⟩)) (hr : w.rangeAt b off cs) {d : TypeDesc} (hu : Tryz.prog.underlying ty = some d) (hd : d.isRow = true) (hs : (Tryz.prog.info? ty).map (·.size) = some cs.length)
    (h : wpQuiet Tryz.prog ops (fun w' => ∃ p : Regrown, w' = Sort.grow (redrawn w p.d) p.os) Q rest (a.put o.dst (.agg cs.toArray))) : wpQuiet Tryz.prog ops (fun w' => ∃ p : Regrown, w' = Sort.grow (redrawn w p.d) p.os) Q (o :: rest) a := by
  unfold wpQuiet
  rw [if_pos hw]
  refine ⟨.agg cs.toArray, fun w' hw' => ?_, h⟩
  unfold Oper.quietAt
  have hr' : w'.rangeAt b off cs := fun j v hv => by obtain ⟨p, rfl⟩ := hw'; exact cell_regrown (hr j v hv) p.d p.os
  have : (execOp a.eval o).run Tryz.prog w' = .ok (.value (.agg cs.toArray)) w' := by
    unfold execOp
    have := run_loadAt_mid w' b off ty cs d hr' hu hd hs
    simp only [ho, hx, Sem.run_bind, Sem.run_pure, Result.andThen_ok, this]
  rw [this]
  exact ⟨rfl, rfl⟩
theorem wpQuiet_gl1 (ty : TypeId) {ops : Array Oper} {Q : Act → Prop} {o : Oper} {rest : List Oper} {a : Act} {y : Operand} {p : Addr} {v : Value} (hw : Region.wanted o (yielded ops a.tmps) = true) (ho : o.op = .load ty y)
    (hx : a.eval y = .pointer (some p)) (ha : ∀ w, (isAgg ty).run Tryz.prog w = .ok false w) (hr : w.cell? p = some v) (h : wpQuiet Tryz.prog ops (fun w' => ∃ p : Regrown, w' = Sort.grow (redrawn w p.d) p.os) Q rest (a.put o.dst v)) : wpQuiet Tryz.prog ops (fun w' => ∃ p : Regrown, w' = Sort.grow (redrawn w p.d) p.os) Q (o :: rest) a := by
  unfold wpQuiet
  rw [if_pos hw]
  refine ⟨v, fun w' hw' => ?_, h⟩
  unfold Oper.quietAt
  have hc : w'.cell? p = some v := by obtain ⟨q, rfl⟩ := hw'; exact cell_regrown hr q.d q.os
  have : (execOp a.eval o).run Tryz.prog w' = .ok (.value v) w' := by
    unfold execOp
    simp only [ho, hx, Sem.run_bind, Sem.run_pure, Result.andThen_ok, run_load1 ty p v w' (ha w') hc]
  rw [this]
  exact ⟨rfl, rfl⟩
/-- The three structs of a node at work, and its numbers. -/
theorem wpQuiet_wm {ops : Array Oper} {Q : Act → Prop} {o : Oper} {rest : List Oper} {a : Act} {y : Operand} (hw : Region.wanted o (yielded ops a.tmps) = true) (ho : o.op = .load 23 y) (hx : a.eval y = .pointer (some ⟨g, 14, none⟩)) (hv : Wk w K base g x m l)
    (h : wpQuiet Tryz.prog ops (fun w' => ∃ p : Regrown, w' = Sort.grow (redrawn w p.d) p.os) Q rest (a.put o.dst (mv m))) : wpQuiet Tryz.prog ops (fun w' => ∃ p : Regrown, w' = Sort.grow (redrawn w p.d) p.os) Q (o :: rest) a :=
  wpQuiet_gld 23 (encm m) hw ho hx hv.md Tryz.underlying23 rfl (by rw [size23]; rfl) h
theorem wpQuiet_wo {ops : Array Oper} {Q : Act → Prop} {o : Oper} {rest : List Oper} {a : Act} {y : Operand} (hw : Region.wanted o (yielded ops a.tmps) = true) (ho : o.op = .load 26 y) (hx : a.eval y = .pointer (some ⟨g, 4, none⟩)) (hv : Wk w K base g x m l)
    (h : wpQuiet Tryz.prog ops (fun w' => ∃ p : Regrown, w' = Sort.grow (redrawn w p.d) p.os) Q rest (a.put o.dst (ov x.o))) : wpQuiet Tryz.prog ops (fun w' => ∃ p : Regrown, w' = Sort.grow (redrawn w p.d) p.os) Q (o :: rest) a :=
  wpQuiet_gld 26 (enco x.o) hw ho hx hv.osc Tryz.underlying26 rfl (by rw [size26]; rfl) h
theorem own_okm {y : Md} (k : Int) (w : World) (hm : M10.Ok y) (hk : 0 ≤ k) (hk2 : k ≤ 4294967296) : Calls Tryz.prog 25 #[mv y, .int .u64 k] w fun r w' => r = .returned (.tuple #[.int .i64 (k % y.n), .int .i64 0]) ∧ Below w.heap.size w w' := by
  obtain ⟨n, s, ll, f, d⟩ := y
  exact M10.own_ok n s ll f d k _ w hm hk hk2 rfl
end
set_option maxRecDepth 100000 in
theorem owner_w (K : Nat → Prop) (base g : Nat) (x : Nd) (m : Md) (l : List Ac) (w : World) (h : Wk w K base g x m l) (hm : M10.Ok m) (h0 : 0 ≤ x.sl) (h1 : x.sl ≤ 4294967296) :
    Calls Tryz.prog 39 #[.pointer (some ⟨g, 0, none⟩)] w fun e w' => e = .returned (.int .i64 (x.sl % m.n)) ∧ Below w.heap.size w w' := by
  have V := hid h
  have c2 : Hid (w.cell? ⟨g, 2, none⟩ = some (.int .u64 x.sl)) := hid (h.cell fun _ _ _ _ _ _ => rfl)
  have T0 := hid (fun (d : Nat) (os : Array Obj) => Calls.regrown_of (d := d) (os := os) (own_okm x.sl (Sort.grow (redrawn w d) os) hm h0 h1))
  generalize x.sl % m.n = O at *
  clear h hm h0 h1
  generalize hs : x.sl = s at *
  clear hs
  go_enter Tryz.func39, Tryz.ntmps39
  go_wp2_with fail
  refine wp_region_quiet_below (by kernel_rfl) (by kernel_rfl) ?_
  repeat (first | refine wpQuiet_wm rfl rfl rfl V.out ?_ | refine wpQuiet_gl1 24 rfl rfl rfl Tryz.isAgg24 c2.out ?_ | quiet_step (with_reducible exact T0.out _ _))
  refine wpQuiet_nil ?_
  intro _ hw'
  obtain ⟨⟨dq, osq⟩, hw''⟩ := hw'
  subst hw''
  go_wp2
  go_ret
  exact ⟨rfl, below_regrown _ dq osq⟩
set_option maxRecDepth 100000 in
theorem length_w (K : Nat → Prop) (base g : Nat) (x : Nd) (m : Md) (l : List Ac) (w : World) (h : Wk w K base g x m l) (T : Int) (hT : m.s + x.co = T) (T0 : -9223372036854775808 ≤ T) (T1 : T ≤ 9223372036854775807) :
    Calls Tryz.prog 78 #[.pointer (some ⟨g, 0, none⟩)] w fun e w' => e = .returned (.int .i64 T) ∧ Below w.heap.size w w' := by
  have c7 : Hid (w.cell? ⟨g, 7, none⟩ = some (.int .i64 x.co)) := hid (h.cell fun _ _ _ _ _ _ => rfl)
  have c15 : Hid (w.cell? ⟨g, 15, none⟩ = some (.int .i64 m.s)) := hid (h.cell fun _ _ _ _ _ _ => rfl)
  have hW : IntKind.i64.wrap (m.s + x.co) = T := by rw [hT, IntKind.wrap_i64]; omega
  clear h hT
  generalize m.s = s at *
  generalize x.co = c at *
  go_enter Tryz.func78, Tryz.ntmps78
  go_wp2_with fail
  refine wp_region_quiet_below (by kernel_rfl) (by kernel_rfl) ?_
  repeat (first | refine wpQuiet_gl1 2 rfl rfl rfl Tryz.isAgg2 c7.out ?_ | refine wpQuiet_gl1 2 rfl rfl rfl Tryz.isAgg2 c15.out ?_ | quiet_step (fail))
  refine wpQuiet_nil ?_
  intro _ hw'
  obtain ⟨⟨dq, osq⟩, hw''⟩ := hw'
  subst hw''
  go_wp2
  go_ret
  exact ⟨rfl, below_regrown _ dq osq⟩
end Go.Proofs.YtlgedfljmgedfaaGreat
namespace Go.Proofs.YtlgedfljmgedfaaGreat
open Go Go.RowKit
open M10 (hid Md encm mv mz Oth range_keep there_keep range_other there_other setCells_oth setCells_size there_set Ty enct tv tz Fr encf fv fz)
open O6 (Oc enco ov oz)
open T9 (sv)
theorem zero26 (w : World) : (zeroValue 26).run Tryz.prog w = .ok (ov oz) w := by kernel_rfl
theorem results_1o1 {w : World} {g : Nat} {fn : Func} {p q r : Tmp} {y : Oc} (h : fn.results = #[.tmp q, .cell p 26, .tmp r]) (tmps : Array Value) (hp : tmps.getD p undef = .pointer (some ⟨g, 0, none⟩)) (hx : w.rangeAt g 0 (enco y)) :
    (results fn tmps).run Tryz.prog w = .ok (.tuple #[tmps.getD q undef, ov y, tmps.getD r undef]) w := by
  have := run_loadVar_mid (P := Tryz.prog) w g 0 26 (enco y) _ hx Tryz.underlying26 rfl (by rw [size26]; rfl)
  have hp' : tmps[p]?.getD undef = .pointer (some ⟨g, 0, none⟩) := by simpa using hp
  simp only [results, h]
  simp [Result.andThen, hp', this, asAddr, ov]
set_option maxRecDepth 100000 in
set_option maxHeartbeats 1000000 in
theorem time_w (K : Nat → Prop) (base g : Nat) (x : Nd) (m : Md) (l : List Ac) (n ps T E p d r : Int) (w : World) (h : Wk w K base g x m l)
    (HR : ∀ w : World, Calls Tryz.prog 91 #[ov x.o, .int .i64 n] w fun e w' => e = .returned (.tuple #[.int .i64 ps, ov ⟨p, d, r⟩, .int .i64 0]) ∧ Below w.heap.size w w')
    (HA : ∀ w : World, Calls Tryz.prog 124 #[.int .i64 x.st, .int .i64 ps] w fun e w' => e = .returned (.tuple #[.int .i64 T, .int .i64 E]) ∧ Below w.heap.size w w') :
    Calls Tryz.prog 79 #[.pointer (some ⟨g, 0, none⟩), .int .i64 n] w fun e w' => e = .returned (.tuple #[.int .i64 T, ov ⟨p, d, r⟩, .int .i64 E]) ∧ Below w.heap.size w w' := by
  have V := hid h
  have HR := hid HR
  have HA := hid HA
  have hgl : g < w.heap.size := by obtain ⟨A, n, c, B, k, d, h1, _⟩ := h; exact h1.lt (by show 0 < 20; omega)
  clear h
  go_enter Tryz.func79, Tryz.ntmps79
  go_wp2_with (first
    | (go_at_call 124; (with_reducible refine (HA.out w4).mono ?_); rintro e w5 ⟨rfl, b5⟩)
    | (refine wpList_gst 26 (enco ⟨p, d, r⟩) rfl (.tmp 8) (.tmp 21) rfl rfl rfl v3 (by show 0 + 3 ≤ 3; omega) (by rw [size26]; rfl) (O6.enco_one _) ?_; intro w4 v4 b4 o4 s4; have c3 : w4.cell? ⟨g, 3, none⟩ = some (.int .i64 x.st) := Wk.cell (V.out.below (B3.out.trans (b4.mono B2.out.size))) fun _ _ _ _ _ _ => rfl)
    | (refine wpList_galloc 26 (enco oz) zero26 rfl rfl ?_; intro w3 v3 b3 s3; have B3 : Hid (Below w.heap.size w w3) := hid (B2.out.trans (b3.mono B2.out.size)))
    | (go_at_call 91; (with_reducible refine (HR.out w1).mono ?_); rintro e w2 ⟨rfl, b2⟩; have B2 : Hid (Below w.heap.size w w2) := hid (B1.out.trans (b2.mono B1.out.size)))
    | (refine wpList_lo (.tmp 16) rfl rfl (Wk.osc (V.out.below B1.out)) rfl ?_)
    | (refine wpList_galloc 26 (enco oz) zero26 rfl rfl ?_; intro w1 v1 b1 s1; have B1 : Hid (Below w.heap.size w w1) := hid b1))
  have v5 : Var w5 w2.heap.size (enco ⟨p, d, r⟩) := v4.below b5 (by have := v3.lt (by show 0 < 3; omega); rw [s4.out]; exact this)
  have u5 : Var w5 w.heap.size (enco oz) := (((v1.below b2 (v1.lt (by show 0 < 3; omega))).below b3 (by have := B2.out.size; have := b2.size; have := v1.lt (by show 0 < 3; omega); omega)).below b4 (by have := b2.size; have := v1.lt (by show 0 < 3; omega); omega)).below b5 (by have := b2.size; have := v1.lt (by show 0 < 3; omega); have := b3.size; rw [s4.out]; omega)
  have ne : w.heap.size ≠ w2.heap.size := by have := b2.size; have := v1.lt (by show 0 < 3; omega); omega
  have ne' : w2.heap.size ≠ w.heap.size := Ne.symm ne
  have B5 : Hid (Below w.heap.size w w5) := hid ((B3.out.trans (b4.mono B2.out.size)).trans (b5.mono (by rw [s4.out]; exact B3.out.size)))
  have l0 : w5.cell? ⟨w2.heap.size, 0, none⟩ = some (.int .i64 p) := v5.cell rfl
  have l1 : w5.cell? ⟨w2.heap.size, 1, none⟩ = some (.int .i64 d) := v5.cell rfl
  have l2 : w5.cell? ⟨w2.heap.size, 2, none⟩ = some (.int .i64 r) := v5.cell rfl
  have t0 : w5.cell? ⟨w.heap.size, 0, none⟩ = some (.int .i64 0) := u5.cell rfl
  have t1 : w5.cell? ⟨w.heap.size, 1, none⟩ = some (.int .i64 0) := u5.cell rfl
  have t2 : w5.cell? ⟨w.heap.size, 2, none⟩ = some (.int .i64 0) := u5.cell rfl
  have f0 := u5.frozen (k := 0) (by show 0 < 3; omega)
  have f1 := u5.frozen (k := 1) (by show 1 < 3; omega)
  have f2 := u5.frozen (k := 2) (by show 2 < 3; omega)
  have U5 := hid u5
  clear v5 u5 v1 b1 s1 B1 b2 B2 v3 b3 s3 B3 v4 b4 o4 s4 c3 b5 HR HA V hgl
  go_region_held3 (fun w' => w'.cell? ⟨w2.heap.size, 0, none⟩ = some (.int .i64 p) ∧ w'.cell? ⟨w2.heap.size, 1, none⟩ = some (.int .i64 d) ∧ w'.cell? ⟨w2.heap.size, 2, none⟩ = some (.int .i64 r)) (go_keep) (fail)
  go_wp2_with fail
  have hv := U5.out.set 0 (enco ⟨p, d, r⟩) (by show 0 + 3 ≤ 3; omega)
  refine bodyPost_ret (results_1o1 (y := ⟨p, d, r⟩) (g := w.heap.size) Tryz.results79 _ rfl ?_) rfl ⟨rfl, ?_⟩
  · exact hv.1
  · exact (B5.out.trans ((setCells_oth w.heap.size (enco ⟨p, d, r⟩) 0 w5).1)).drew
set_option maxRecDepth 100000 in
set_option maxHeartbeats 1000000 in
theorem timer_w (K : Nat → Prop) (base g : Nat) (x : Nd) (m : Md) (l : List Ac) (n T E : Int) (z : Oc) (w : World) (h : Wk w K base g x m l) (hl : l.length ≤ 1000)
    (HT : ∀ w : World, Wk w K base g x m l → Calls Tryz.prog 79 #[.pointer (some ⟨g, 0, none⟩), .int .i64 n] w fun e w' => e = .returned (.tuple #[.int .i64 T, ov z, .int .i64 E]) ∧ Below w.heap.size w w') :
    Calls Tryz.prog 73 #[.pointer (some ⟨g, 0, none⟩), .int .i64 n] w (RetW K base g x m (l ++ [timr T]) (.int .i64 E) w) := by
  have V := hid h
  have HT := hid (HT w h)
  clear h
  go_enter Tryz.func73, Tryz.ntmps73
  go_wp2_with (first
    | (refine wpList_gst1 37 (.slice B' (kk + 1) d') rfl (.tmp 25) (.tmp 23) rfl rfl rfl V5.out (by show 19 < 20; omega) (by kernel_rfl) rfl rfl ?_; intro w6 v6 b6 t6 s6)
    | (refine wpList_pushA rfl (.tmp 19) (.tmp 22) rfl rfl H3.out rfl (by omega) h9 ?_; intro B' d' w5 o5 g5 e5; have V5 : Hid (Var w5 g (encw x A n' c m B kk d)) := hid (H1.out.same (g5.block g hgs (fun e => (h7 g e.symm).2 rfl))); clear c19)
    | (refine wpList_bsA (x := timr T) (.tmp 21) rfl rfl rfl ?_)
    | (refine wpList_gst 26 (enco z) rfl (.tmp 6) (.tmp 13) rfl rfl rfl v3 (by show 0 + 3 ≤ 3; omega) size26 (O6.enco_one _) ?_; intro w4 v4 b4 o4 s4; have B4 : Hid (Below w.heap.size w w4) := hid ((b2.trans (b3.mono b2.size)).trans (b4.mono b2.size)); have W4 := hid (V.out.below B4.out); have KK := hid (V.out.keptb B4.out); obtain ⟨A, n', c, B, kk, d, h1, h2, h3, h4, h5, h6, h7, h8, h9⟩ := W4.out; have hk : kk ≤ 1000 := (by have := h3.len; rw [flat_len] at this; omega); have hgs := h1.lt (Nat.zero_lt_succ 19); have c19 : w4.cell? ⟨g, 19, none⟩ = some (.slice B kk d) := h1.cell rfl; have H1 := hid h1; have H3 := hid h3; clear h1 h3 v3 v4 b4 o4 s4 b2 b3 s3)
    | (refine wpList_galloc 26 (enco oz) zero26 rfl rfl ?_; intro w3 v3 b3 s3)
    | (go_at_call 79; (with_reducible refine (HT.out).mono ?_); rintro e w2 ⟨rfl, b2⟩))

  go_ret
  obtain ⟨r1, r2⟩ := pushed H1.out h2 h4 h5 h6 h7 h8 h9 o5 g5 e5 v6 b6 t6 s6.out
  exact ⟨rfl, r1, KK.out.trans r2⟩
end Go.Proofs.YtlgedfljmgedfaaGreat
namespace Go.Proofs.YtlgedfljmgedfaaGreat
open Go Go.RowKit
open M10 (hid Md encm mv mz Oth range_keep there_keep range_other there_other setCells_oth setCells_size there_set Ty enct tv tz Fr encf fv fz)
open O6 (Oc enco ov oz)
open T9 (sv)
/-- One more of the numbers by which frames were late, as far as there is room. -/
def lateL (m : Md) (dv : List Int) (t : Int) : List Int := if (dv.length : Int) < m.n then dv ++ [t] else dv
theorem devs_stored {K : Nat → Prop} {base g : Nat} {x : Nd} {m : Md} {l : List Ac} {A A' B : Option Addr} {n n' c c' k d : Nat} {dv : List Int} {w w2 w3 : World}
    (h : WkU w K base g x m l A n c B k d) (o2 : OwnR w2 base 2 1 A' n' c' (sv dv)) (g2 : w.grownBy w2 (ob A)) (e2 : ob A' = ob A ∨ ob A' = some (w.heap.size + 1))
    (v3 : Var w3 g (setv (encw x A n c m B k d) 11 [.slice A' n' c'])) (b3 : Below g w2 w3) (t3 : Oth g w2 w3) (s3 : w3.heap.size = w2.heap.size) : Wk w3 K base g { x with dv := dv } m l ∧ Kept K w w3 := by
  have hgs := h.var.lt (Nat.zero_lt_succ 19)
  have hA : ∀ b, ob A' = some b → ¬ K b ∧ b ≠ g ∧ ob B ≠ some b := fun b hb => by
    rcases e2 with e | e
    · exact h.sa b (e ▸ hb)
    · have : b = w.heap.size + 1 := by rw [e] at hb; injection hb with hb; exact hb.symm
      exact ⟨fun hk => by have := h.kl b hk; omega, by omega, fun e' => by have := (h.acts.lt e').2; omega⟩
  have hne : ∀ b, K b → some b ≠ ob A := fun b hb e => (h.sa b e.symm).1 hb
  refine ⟨⟨A', n', c', B, k, d, v3, o2.oth t3 (fun e => (hA g e).2.1 rfl), ?_, h.bg, h.kg, hA, h.sb, fun b hb => ?_, ?_⟩, ?_⟩
  · refine (h.acts.kept g2 ?_).oth t3 (fun e => (h.sb g e).2 rfl)
    cases hB : ob B with
    | none => exact .inl rfl
    | some b => exact .inr fun e => (h.sa b e.symm).2.2 hB
  · have := h.kl b hb; have := g2.size; omega
  · have := g2.size; have := h.bl; omega
  · exact (Kept.grown g2 h.kl hne).trans (Kept.oth b3 t3 h.kg)
set_option maxRecDepth 100000 in
set_option maxHeartbeats 1000000 in
theorem late_w (K : Nat → Prop) (base g : Nat) (x : Nd) (m : Md) (l : List Ac) (t : Int) (w : World) (h : Wk w K base g x m l) (hm : m.n ≤ 16) :
    Calls Tryz.prog 97 #[.pointer (some ⟨g, 0, none⟩), .int .i64 t] w (RetW K base g { x with dv := lateL m x.dv t } m l (.tuple #[]) w) := by
  obtain ⟨A, n, c, B, k, d, h⟩ := h
  have hn : x.dv.length = n := by have := h.devs.len; simpa [sv] using this
  have c11 : Hid (w.cell? ⟨g, 11, none⟩ = some (.slice A n c)) := hid (h.var.cell rfl)
  have c14 : Hid (w.cell? ⟨g, 14, none⟩ = some (.int .i64 m.n)) := hid (h.var.cell rfl)
  have hgs := h.var.lt (Nat.zero_lt_succ 19)
  by_cases hlt : (n : Int) < m.n
  · have hL : lateL m x.dv t = x.dv ++ [t] := if_pos (by rw [hn]; exact hlt)
    rw [hL]
    clear hL
    have HN : Hid (n ≤ 16) := hid (by omega)
    have H := hid h
    have hne : g ≠ w.heap.size := by omega
    clear h hm hn
    generalize m.n = mn at *
    go_enter Tryz.func97, Tryz.ntmps97
    go_wp2_with fail
    refine wp_region_quiet_below (by kernel_rfl) (by kernel_rfl) ?_
    repeat (first | refine wpQuiet_gl1 30 rfl rfl rfl Tryz.isAgg30 c11.out ?_ | refine wpQuiet_gl1 3 rfl rfl rfl Tryz.isAgg3 c14.out ?_ | quiet_step (fail))
    refine wpQuiet_nil ?_
    intro _ hw'
    obtain ⟨⟨dq, osq⟩, hw''⟩ := hw'
    subst hw''
    have W1 := hid (H.out.below (below_regrown w dq osq))
    have B1 := hid (below_regrown w dq osq)
    generalize Sort.grow (redrawn w dq) osq = w1 at *
    have d11 : w1.cell? ⟨g, 11, none⟩ = some (.slice A n c) := W1.out.var.cell rfl
    have hgs1 := W1.out.var.lt (Nat.zero_lt_succ 19)
    clear c11 c14
    go_wp2_with (first
      | (refine wpList_gst1 30 (.slice A' (n + 1) c') rfl (.tmp 27) (.tmp 24) rfl rfl rfl V2.out (Nat.lt_of_lt_of_le (by decide : 11 < 20) (Nat.le_refl 20)) (by kernel_rfl) rfl rfl ?_; intro w3 v3 b3 t3 s3)
      | (refine wpList_pushI rfl (.tmp 21) (.tmp 23) rfl rfl W1.out.devs rfl (by have := HN.out; omega) W1.out.bl ?_; intro A' c' w2 o2 g2 e2; have V2 : Hid (Var w2 g (encw x A n c m B k d)) := hid (W1.out.var.same (g2.block g hgs1 (fun e => (W1.out.sa g e.symm).2.1 rfl))); clear d11)
      | (refine wpList_bsI (v := t) (.tmp 22) rfl rfl rfl ?_))
    first | go_end0 | refine bodyPost_ret (results_none rfl _ _ _) rfl ?_
    obtain ⟨r1, r2⟩ := devs_stored W1.out o2 g2 e2 v3 b3 t3 s3.out
    exact ⟨rfl, r1, (Kept.of_below B1.out H.out.kl).trans r2⟩
  · have hL : lateL m x.dv t = x.dv := if_neg (by rw [hn]; exact hlt)
    rw [hL]
    clear hL
    have H := hid h
    clear h hm hn
    generalize m.n = mn at *
    go_enter Tryz.func97, Tryz.ntmps97
    go_wp2_with fail
    refine wp_region_quiet_below (by kernel_rfl) (by kernel_rfl) ?_
    repeat (first | refine wpQuiet_gl1 30 rfl rfl rfl Tryz.isAgg30 c11.out ?_ | refine wpQuiet_gl1 3 rfl rfl rfl Tryz.isAgg3 c14.out ?_ | quiet_step (fail))
    refine wpQuiet_nil ?_
    intro _ hw'
    obtain ⟨⟨dq, osq⟩, hw''⟩ := hw'
    subst hw''
    go_wp2_with fail
    first | go_end0 | refine bodyPost_ret (results_none rfl _ _ _) rfl ?_
    exact ⟨rfl, ⟨_, _, _, _, _, _, H.out.below (below_regrown w dq osq)⟩, Kept.of_below (below_regrown w dq osq) H.out.kl⟩
/-! ### A timer at any time -/
/-- Its time of so many ticks, and whether that goes over. -/
def timeT (x : Nd) (n : Int) : Int := if x.st + O6.psO x.o n ≤ 1152921504606846976 then x.st + O6.psO x.o n else 0
def timeE (x : Nd) (n : Int) : Int := if x.st + O6.psO x.o n ≤ 1152921504606846976 then 0 else 2
/-- What the clock and the beginning of a node at work may be. -/
def Run (x : Nd) : Prop := O6.Ok x.o ∧ 0 ≤ x.st ∧ x.st ≤ 1152921504606846976
theorem ps_in {o : Oc} (h : O6.Ok o) {n : Int} (n0 : 0 ≤ n) (n1 : n ≤ 67108864) : 0 ≤ O6.psO o n ∧ O6.psO o n ≤ 100000000000000000 := by
  obtain ⟨p, d, r⟩ := o
  obtain ⟨h1, h2, h3, h4, h5, h6⟩ := h
  simp only at h1 h2 h3 h4 h5 h6
  have hr := O6.rate_range h1 h2 h3 h4
  unfold O6.psO O6.tot
  simp only
  have a1 : 0 ≤ n * (p * (1000000000 + d)) := Int.mul_nonneg n0 (by omega)
  have a2 : n * (p * (1000000000 + d)) ≤ 67108864 * 1001000000000000000 := Int.mul_le_mul n1 hr.2 (by omega) (by omega)
  generalize n * (p * (1000000000 + d)) = Q at *
  omega
theorem time_any (K : Nat → Prop) (base g : Nat) (x : Nd) (m : Md) (l : List Ac) (n : Int) (w : World) (h : Wk w K base g x m l) (hx : Run x) (n0 : 0 ≤ n) (n1 : n ≤ 67108864) :
    Calls Tryz.prog 79 #[.pointer (some ⟨g, 0, none⟩), .int .i64 n] w fun e w' => e = .returned (.tuple #[.int .i64 (timeT x n), ov (O6.aft x.o n), .int .i64 (timeE x n)]) ∧ Below w.heap.size w w' := by
  obtain ⟨ho, s0, s1⟩ := hx
  obtain ⟨p0, p1⟩ := ps_in ho n0 n1
  have HR := fun w => O6.run_ok x.o n w ho n0 (by omega) (by omega)
  by_cases hT : x.st + O6.psO x.o n ≤ 1152921504606846976
  · rw [show timeT x n = _ from if_pos hT, show timeE x n = _ from if_pos hT]
    exact time_w K base g x m l n _ _ _ _ _ _ w h HR (fun w => O6.add_ok _ _ w (by omega) (by omega) (by omega) (by omega) (by omega) (by omega))
  · rw [show timeT x n = _ from if_neg hT, show timeE x n = _ from if_neg hT]
    exact time_w K base g x m l n _ _ _ _ _ _ w h HR (fun w => O6.add_over _ _ w (by omega) (by omega) (by omega) (by omega) (.inr (by omega)))
theorem timer_any (K : Nat → Prop) (base g : Nat) (x : Nd) (m : Md) (l : List Ac) (n : Int) (w : World) (h : Wk w K base g x m l) (hl : l.length ≤ 1000) (hx : Run x) (n0 : 0 ≤ n) (n1 : n ≤ 67108864) :
    Calls Tryz.prog 73 #[.pointer (some ⟨g, 0, none⟩), .int .i64 n] w (RetW K base g x m (l ++ [timr (timeT x n)]) (.int .i64 (timeE x n)) w) :=
  timer_w K base g x m l n _ _ (O6.aft x.o n) w h hl fun w h => time_any K base g x m l n w h hx n0 n1
end Go.Proofs.YtlgedfljmgedfaaGreat
namespace Go.Proofs.YtlgedfljmgedfaaGreat
open Go Go.RowKit
open M10 (hid Md encm mv mz Oth range_keep there_keep range_other there_other setCells_oth setCells_size there_set Ty enct tv tz Fr encf fv fz)
open O6 (Oc enco ov oz)
open T9 (sv)
/-- It listens. -/
def lisN (x : Nd) (now : Int) : Nd := { x with ph := 1, st := now }
def lisK (x : Nd) (m : Md) : Int := 2 * (m.n + x.id) * m.s
theorem lisK_in {x : Nd} {m : Md} (hm : M10.Ok m) (i0 : 0 ≤ x.id) (i1 : x.id < m.n) : 0 ≤ lisK x m ∧ lisK x m ≤ 67108864 := by
  obtain ⟨h1, h2, h3, h4, _⟩ := hm
  unfold lisK
  have a1 : 0 ≤ 2 * (m.n + x.id) * m.s := Int.mul_nonneg (by omega) (by omega)
  have a2 : 2 * (m.n + x.id) * m.s ≤ 64 * 1048576 := Int.mul_le_mul (by omega) (by omega) (by omega) (by omega)
  omega
set_option maxRecDepth 100000 in
set_option maxHeartbeats 1000000 in
theorem listen_w (K : Nat → Prop) (base g : Nat) (x : Nd) (m : Md) (l : List Ac) (now : Int) (w : World) (h : Wk w K base g x m l) (hl : l.length ≤ 100) (hm : M10.Ok m) (i0 : 0 ≤ x.id) (i1 : x.id < m.n) (ho : O6.Ok x.o) (n0 : 0 ≤ now) (n1 : now ≤ 1152921504606846976) :
    Calls Tryz.prog 32 #[.pointer (some ⟨g, 0, none⟩), .int .i64 now] w (RetW K base g (lisN x now) m (l ++ [note 1 0] ++ [timr (timeT (lisN x now) (lisK x m))]) (.int .i64 (timeE (lisN x now) (lisK x m))) w) := by
  obtain ⟨k0, k1⟩ := lisK_in hm i0 i1
  obtain ⟨q1, q2, q3, q4, _⟩ := id hm
  have H := hid h
  have HT := hid (fun w h => timer_any K base g (lisN x now) m (l ++ [note 1 0]) (lisK x m) w h (by simp; omega) ⟨ho, n0, n1⟩ k0 k1)
  have HN := hid (fun w h => note_any K base g (lisN x now) m l 1 0 w h (by omega))
  have e1 : Hid (IntKind.i64.wrap (m.n + x.id) = m.n + x.id) := hid (by rw [IntKind.wrap_i64]; omega)
  have e2 : Hid (IntKind.i64.wrap (2 * (m.n + x.id)) = 2 * (m.n + x.id)) := hid (by rw [IntKind.wrap_i64]; omega)
  have e3 : Hid (IntKind.i64.wrap (2 * (m.n + x.id) * m.s) = lisK x m) := hid (by rw [show 2 * (m.n + x.id) * m.s = lisK x m from rfl, IntKind.wrap_i64]; omega)
  clear h hl hm i0 i1 ho n0 n1 k0 k1 q1 q2 q3 q4
  generalize timeT (lisN x now) (lisK x m) = T at *
  generalize timeE (lisN x now) (lisK x m) = E at *
  generalize lisK x m = k at *
  go_enter Tryz.func32, Tryz.ntmps32
  go_wp2_with (first
    | (go_at_call 72; (with_reducible refine (HN.out w2 W2.out).mono ?_); rintro e w3 ⟨rfl, W3, k3⟩; have W3 := hid W3)
    | (refine wpList_ws1 (lisN x now) 3 (.int .i64 now) 2 rfl _ _ rfl rfl rfl W1.out (by kernel_rfl) rfl rfl rfl (fun _ _ _ _ _ _ => rfl) (by omega) ?_; intro w2 W2 k2; have W2 := hid W2)
    | (refine wpList_ws1 { x with ph := 1 } 1 (.int .i64 1) 3 rfl _ _ rfl rfl rfl H.out (by kernel_rfl) rfl rfl rfl (fun _ _ _ _ _ _ => rfl) (by omega) ?_; intro w1 W1 k1; have W1 := hid W1))
  have KK := hid ((k1.trans k2).trans k3)
  have c0 : w3.cell? ⟨g, 0, none⟩ = some (.int .i64 x.id) := W3.out.cell fun _ _ _ _ _ _ => rfl
  have c14 : w3.cell? ⟨g, 14, none⟩ = some (.int .i64 m.n) := W3.out.cell fun _ _ _ _ _ _ => rfl
  have c15 : w3.cell? ⟨g, 15, none⟩ = some (.int .i64 m.s) := W3.out.cell fun _ _ _ _ _ _ => rfl
  have e1 := e1.out
  have e2 := e2.out
  have e3 := e3.out
  clear k1 k2 k3 W1 W2 HN H
  go_region_held3 (fun w' => w'.cell? ⟨g, 0, none⟩ = some (.int .i64 x.id) ∧ w'.cell? ⟨g, 14, none⟩ = some (.int .i64 m.n) ∧ w'.cell? ⟨g, 15, none⟩ = some (.int .i64 m.s)) (go_keep)
    (first | (go_at_call 73; (with_reducible refine (HT.out w3.drew W3.out.drew).mono ?_); rintro e w4 ⟨rfl, W4, k4⟩; have W4 := hid W4; have K4 := hid k4; clear k4; have d0 : w4.cell? ⟨g, 0, none⟩ = some (.int .i64 x.id) := W4.out.cell fun _ _ _ _ _ _ => rfl; have d14 : w4.cell? ⟨g, 14, none⟩ = some (.int .i64 m.n) := W4.out.cell fun _ _ _ _ _ _ => rfl; have d15 : w4.cell? ⟨g, 15, none⟩ = some (.int .i64 m.s) := W4.out.cell fun _ _ _ _ _ _ => rfl))
  go_wp2_with fail
  go_ret
  exact ⟨rfl, W4.out, KK.out.drew.trans K4.out⟩
/-! ### start -/
theorem results_cs {w : World} {g : Nat} {cs : List Value} {ty : TypeId} {fn : Func} {p : Tmp} (h : fn.results = #[.cell p ty]) (tmps : Array Value) (hp : tmps.getD p undef = .pointer (some ⟨g, 0, none⟩)) (hx : w.rangeAt g 0 cs) {d : TypeDesc} (hu : Tryz.prog.underlying ty = some d) (hd : d.isRow = true) (hs : (Tryz.prog.info? ty).map (·.size) = some cs.length) :
    (results fn tmps).run Tryz.prog w = .ok (.agg cs.toArray) w := by
  have := run_loadVar_mid (P := Tryz.prog) w g 0 ty cs _ hx hu hd hs
  have hp' : tmps[p]?.getD undef = .pointer (some ⟨g, 0, none⟩) := by simpa using hp
  simp only [results, h]
  simp [hp', this, asAddr]
theorem zero29 (w : World) : (zeroValue 29).run Tryz.prog w = .ok (tv tz) w := by kernel_rfl
theorem one_any (w : World) : Calls Tryz.prog 76 #[] w fun e w' => e = .returned (tv ⟨1, 0⟩) ∧ Below w.heap.size w w' := by
  go_enter Tryz.func76, Tryz.ntmps76
  go_wp2_with (first
    | (refine wpList_gst 29 (enct ⟨1, 0⟩) rfl _ _ rfl rfl rfl v1 (by decide) size29 (M10.enct_one _) ?_; intro w2 v2 b2 o2 s2)
    | (refine wpList_galloc 29 (enct tz) zero29 rfl rfl ?_; intro w1 v1 b1 s1))
  refine bodyPost_ret (results_cs (cs := enct ⟨1, 0⟩) Tryz.results76 _ rfl v2.1 Tryz.underlying29 rfl size29) rfl ?_
  exact ⟨rfl, b1.trans b2⟩
theorem with_id (m : Nat) (i : Int) (w : World) (hm : m < 65536) (i0 : 0 ≤ i) (i1 : i ≤ 15) : Calls Tryz.prog 75 #[.int .u16 (m : Int), .int .i64 i] w fun e w' => e = .returned (.int .u16 (M10.addb m i.toNat : Nat)) ∧ w' = w := by
  have := M10.with_in m i.toNat w hm (by omega)
  rw [show ((i.toNat : Nat) : Int) = i by omega] at this
  exact this.mono fun e w' ⟨h1, h2⟩ => ⟨h1, h2.symm⟩
theorem without_id (m : Nat) (i : Int) (w : World) (hm : m < 65536) (i0 : 0 ≤ i) (i1 : i ≤ 15) : Calls Tryz.prog 92 #[.int .u16 (m : Int), .int .i64 i] w fun e w' => e = .returned (.int .u16 (M10.subb m i.toNat : Nat)) ∧ w' = w := by
  have := M10.without_in m i.toNat w hm (by omega)
  rw [show ((i.toNat : Nat) : Int) = i by omega] at this
  exact this.mono fun e w' ⟨h1, h2⟩ => ⟨h1, h2.symm⟩
theorem has_id (m : Nat) (i : Int) (w : World) (hm : m < 65536) (i0 : 0 ≤ i) (i1 : i ≤ 15) : Calls Tryz.prog 26 #[.int .u16 (m : Int), .int .i64 i] w fun e w' => e = .returned (.bool (M10.hs m i.toNat)) ∧ w' = w := by
  have := M10.has_in m i.toNat w hm (by omega)
  rw [show ((i.toNat : Nat) : Int) = i by omega] at this
  exact this.mono fun e w' ⟨h1, h2⟩ => ⟨h1, h2.symm⟩
/-- The node stored whole, with another list. -/
theorem WkU.setN {K : Nat → Prop} {base g : Nat} {x : Nd} {m : Md} {l : List Ac} {A A' B : Option Addr} {n n' c c' k d : Nat} {w : World} (h : WkU w K base g x m l A n c B k d) (y : Nd) (o : OwnR w base 2 1 A' n' c' (sv y.dv)) (hA : ∀ b, ob A' = some b → ¬ K b ∧ b ≠ g ∧ ob B ≠ some b) :
    Wk (w.setCells g 0 (encn y A' n' c')) K base g y m l ∧ Kept K w (w.setCells g 0 (encn y A' n' c')) := by
  have ho := setCells_oth g (encn y A' n' c') 0 w
  have hs := setCells_size g (encn y A' n' c') 0 w
  refine ⟨⟨A', n', c', B, k, d, ?_, o.oth ho.2 (fun e => (hA g e).2.1 rfl), h.acts.oth ho.2 (fun e => (h.sb g e).2 rfl), h.bg, h.kg, hA, h.sb, by rw [hs]; exact h.kl, by rw [hs]; exact h.bl⟩, Kept.oth ho.1 ho.2 h.kg⟩
  exact h.var.set 0 (encn y A' n' c') (by show 0 + 14 ≤ 20; omega)
theorem Wk.setN {K : Nat → Prop} {base g : Nat} {x : Nd} {m : Md} {l : List Ac} {w : World} (h : Wk w K base g x m l) (y : Nd) (hy : y.dv = []) :
    Wk (w.setCells g 0 (encn y none 0 0)) K base g y m l ∧ Kept K w (w.setCells g 0 (encn y none 0 0)) := by
  obtain ⟨A, n, c, B, k, d, h⟩ := h
  exact h.setN y (by rw [hy]; exact OwnR.nil w base 2 1) (fun b hb => by cases hb)
theorem WkU.fz {K : Nat → Prop} {base g : Nat} {x : Nd} {m : Md} {l : List Ac} {A B : Option Addr} {n c k d : Nat} {w : World} (h : WkU w K base g x m l A n c B k d) {j : Nat} (hj : j < 20) : w.frozen? ⟨g, j, none⟩ = false := h.var.frozen hj
theorem one_lit (w : World) : Calls Tryz.prog 76 #[] w fun e w' => e = .returned (.agg #[.int .i64 1, .int .i64 0]) ∧ Below w.heap.size w w' := one_any w
/-- It starts. -/
def staN (x : Nd) (now : Int) : Nd := ⟨x.id, 2, x.id, now, x.o, 0, M10.addb 0 x.id.toNat, ⟨1, 0⟩, [], false, 0⟩
set_option maxRecDepth 100000 in
set_option maxHeartbeats 2000000 in
theorem start_w (K : Nat → Prop) (base g : Nat) (x : Nd) (m : Md) (l : List Ac) (now : Int) (w : World) (h : Wk w K base g x m l) (hl : l.length ≤ 100) (hm : M10.Ok m) (i0 : 0 ≤ x.id) (i1 : x.id < m.n) (ho : O6.Ok x.o) (n0 : 0 ≤ now) (n1 : now ≤ 1152921504606846976) :
    Calls Tryz.prog 38 #[.pointer (some ⟨g, 0, none⟩), .int .i64 now] w (RetW K base g (staN x now) m (l ++ [note 2 0] ++ [timr (timeT (staN x now) m.l)]) (.int .i64 (timeE (staN x now) m.l)) w) := by
  obtain ⟨q1, q2, q3, q4, q5, q6, q7, q8, q9⟩ := id hm
  have H := hid h
  have HT := hid (fun w h => timer_any K base g (staN x now) m (l ++ [note 2 0]) m.l w h (by simp; omega) ⟨ho, n0, n1⟩ (by omega) (by omega))
  have HN := hid (fun w h => note_any K base g (staN x now) m l 2 0 w h (by omega))
  have HW : Hid (∀ w, Calls Tryz.prog 75 #[.int .u16 0, .int .i64 x.id] w fun e w' => e = .returned (.int .u16 (M10.addb 0 x.id.toNat : Nat)) ∧ w' = w) := hid (fun w => with_id 0 x.id w (by omega) i0 (by omega))
  have eu : IntKind.u64.wrap x.id = x.id := by rw [IntKind.wrap_u64]; omega
  have hgl : g < w.heap.size := by obtain ⟨A, n, c, B, k, d, h⟩ := h; exact h.var.lt (Nat.zero_lt_succ 19)
  have c0 : w.cell? ⟨g, 0, none⟩ = some (.int .i64 x.id) := h.cell fun _ _ _ _ _ _ => rfl
  have c4 : w.cell? ⟨g, 4, none⟩ = some (.int .i64 x.o.p) := h.cell fun _ _ _ _ _ _ => rfl
  have c5 : w.cell? ⟨g, 5, none⟩ = some (.int .i64 x.o.d) := h.cell fun _ _ _ _ _ _ => rfl
  have c6 : w.cell? ⟨g, 6, none⟩ = some (.int .i64 x.o.r) := h.cell fun _ _ _ _ _ _ => rfl
  clear h hl hm i0 i1 ho n0 n1 q1 q2 q3 q4 q5 q6 q7 q8 q9
  generalize timeT (staN x now) m.l = T at *
  generalize timeE (staN x now) m.l = E at *
  go_enter Tryz.func38, Tryz.ntmps38
  go_wp2_with fail
  go_region_held3 (fun w' => w'.cell? ⟨g, 0, none⟩ = some (.int .i64 x.id) ∧ w'.cell? ⟨g, 4, none⟩ = some (.int .i64 x.o.p) ∧ w'.cell? ⟨g, 5, none⟩ = some (.int .i64 x.o.d) ∧ w'.cell? ⟨g, 6, none⟩ = some (.int .i64 x.o.r)) (first | (go_keep; done) | exact ⟨(U2.out.setN (staN x now) (OwnR.nil _ _ _ _) (fun b hb => by cases hb)).1.cell fun _ _ _ _ _ _ => rfl, (U2.out.setN (staN x now) (OwnR.nil _ _ _ _) (fun b hb => by cases hb)).1.cell fun _ _ _ _ _ _ => rfl, (U2.out.setN (staN x now) (OwnR.nil _ _ _ _) (fun b hb => by cases hb)).1.cell fun _ _ _ _ _ _ => rfl, (U2.out.setN (staN x now) (OwnR.nil _ _ _ _) (fun b hb => by cases hb)).1.cell fun _ _ _ _ _ _ => rfl⟩)
    (first
      | (go_at_call 75; (with_reducible refine (HW.out w.drew).mono ?_); rintro e w1 ⟨rfl, rfl⟩)
      | (go_at_call 76; (with_reducible refine (one_lit w.drew).mono ?_); rintro e w2 ⟨rfl, b2⟩; obtain ⟨A, n, c, B, kk, dd, U2⟩ := H.out.drew.below b2; have K2 := hid (H.out.drew.keptb b2); have U2 := hid U2; have d0 : w2.cell? ⟨g, 0, none⟩ = some (.int .i64 x.id) := U2.out.var.cell rfl; have d1 : w2.cell? ⟨g, 1, none⟩ = some (.int .i64 x.ph) := U2.out.var.cell rfl; have d2 : w2.cell? ⟨g, 2, none⟩ = some (.int .u64 x.sl) := U2.out.var.cell rfl; have d3 : w2.cell? ⟨g, 3, none⟩ = some (.int .i64 x.st) := U2.out.var.cell rfl; have d4 : w2.cell? ⟨g, 4, none⟩ = some (.int .i64 x.o.p) := U2.out.var.cell rfl; have d5 : w2.cell? ⟨g, 5, none⟩ = some (.int .i64 x.o.d) := U2.out.var.cell rfl; have d6 : w2.cell? ⟨g, 6, none⟩ = some (.int .i64 x.o.r) := U2.out.var.cell rfl; have d7 : w2.cell? ⟨g, 7, none⟩ = some (.int .i64 x.co) := U2.out.var.cell rfl; have d8 : w2.cell? ⟨g, 8, none⟩ = some (.int .u16 (x.mb : Int)) := U2.out.var.cell rfl; have d9 : w2.cell? ⟨g, 9, none⟩ = some (.int .i64 x.t.g) := U2.out.var.cell rfl; have d10 : w2.cell? ⟨g, 10, none⟩ = some (.int .i64 x.t.b) := U2.out.var.cell rfl; have d11 : w2.cell? ⟨g, 11, none⟩ = some (.slice A n c) := U2.out.var.cell rfl; have d12 : w2.cell? ⟨g, 12, none⟩ = some (.bool x.se) := U2.out.var.cell rfl; have d13 : w2.cell? ⟨g, 13, none⟩ = some (.int .i64 x.vd) := U2.out.var.cell rfl; have f0 := U2.out.fz (j := 0) (by decide); have f1 := U2.out.fz (j := 1) (by decide); have f2 := U2.out.fz (j := 2) (by decide); have f3 := U2.out.fz (j := 3) (by decide); have f4 := U2.out.fz (j := 4) (by decide); have f5 := U2.out.fz (j := 5) (by decide); have f6 := U2.out.fz (j := 6) (by decide); have f7 := U2.out.fz (j := 7) (by decide); have f8 := U2.out.fz (j := 8) (by decide); have f9 := U2.out.fz (j := 9) (by decide); have f10 := U2.out.fz (j := 10) (by decide); have f11 := U2.out.fz (j := 11) (by decide); have f12 := U2.out.fz (j := 12) (by decide); have f13 := U2.out.fz (j := 13) (by decide); clear b2))
  generalize hw3 : World.setCell _ ⟨g, 13, none⟩ _ = w3
  have hw4 : w2.setCells g 0 (encn (staN x now) none 0 0) = w3 := hw3
  obtain ⟨W3, K3⟩ := U2.out.setN (staN x now) (OwnR.nil _ _ _ _) (fun b hb => by cases hb)
  rw [hw4] at W3 K3
  have W3 := hid W3
  have KK := hid ((H.out.keptb ((Below.refl _ w).drew)).trans (K2.out.trans K3))
  clear hw3 hw4 K3 U2 K2 H d0 d1 d2 d3 d4 d5 d6 d7 d8 d9 d10 d11 d12 d13 f0 f1 f2 f3 f4 f5 f6 f7 f8 f9 f10 f11 f12 f13 c0 c4 c5 c6
  have c16 : ∀ w, Wk w K base g (staN x now) m (l ++ [note 2 0]) → w.cell? ⟨g, 16, none⟩ = some (.int .i64 m.l) := fun w h => h.cell fun _ _ _ _ _ _ => rfl
  have C16 := hid c16
  clear c16
  go_wp2_with (first
    | (go_at_call 73; (with_reducible refine (HT.out w4 W4.out).mono ?_); rintro e w5 ⟨rfl, W5, k5⟩)
    | (go_at_call 72; (with_reducible refine (HN.out w3 W3.out).mono ?_); rintro e w4 ⟨rfl, W4, k4⟩; have W4 := hid W4; have d16 := C16.out w4 W4.out))
  go_ret
  exact ⟨rfl, W5, (KK.out.trans k4).trans k5⟩
end Go.Proofs.YtlgedfljmgedfaaGreat
namespace Go.Proofs.YtlgedfljmgedfaaGreat
open Go Go.RowKit
open M10 (hid Md encm mv mz Oth range_keep there_keep range_other there_other setCells_oth setCells_size there_set Ty enct tv tz Fr encf fv fz)
open O6 (Oc enco ov oz)
open T9 (sv)
section
variable {ops : Array Oper} {S : World → Prop} {o : Oper} {a : Act}
/-- The law of the library, what the operation writes into named. -/
theorem tk {Q : Exit → Act → World → Prop} (i : Nat) (d : Option Tmp) (v : Value) {fuel : Nat} {listed : Array Bool} {w : World} (hi : ops[i]? = some o) (hd : o.dst = d) (hs : Region.noSelect ops = true) (hf : Region.free .any ops listed i = true) (hr : (Region.ready .any ops listed).contains i = true)
    (hQ : ∀ c a w, Q (.panic c) (a.put d v) w → Q (.panic c) a w) (hy : YieldsIf Tryz.prog ops S o v a) (hS : S w)
    (h : wpAnyH Tryz.prog .any ops Q S fuel (listed.setIfInBounds i true) (a.put d v) w) : wpAnyH Tryz.prog .any ops Q S (fuel + 1) listed a w := by
  subst hd
  exact wpAnyH_take hi hs hf hr hQ hy hS h
theorem yl1 (ty : TypeId) {y : Operand} {p : Addr} {v : Value} (ho : o.op = .load ty y) (hx : a.eval y = .pointer (some p)) (ha : ∀ w, (isAgg ty).run Tryz.prog w = .ok false w) (hc : ∀ w, S w → w.cell? p = some v) (hw : Region.wanted o (yielded ops a.tmps) = true) : YieldsIf Tryz.prog ops S o v a :=
  .inl ⟨hw, fun w hS => by
    unfold execOp
    simp only [ho, hx, Sem.run_bind, Sem.run_pure, Result.andThen_ok, run_load1 ty p v w (ha w) (hc w hS)]⟩
theorem yls (ty : TypeId) (cs : List Value) {y : Operand} {b off : Nat} (ho : o.op = .load ty y) (hx : a.eval y = .pointer (some ⟨b, off, none⟩)) (hc : ∀ w, S w → w.rangeAt b off cs) {d : TypeDesc} (hu : Tryz.prog.underlying ty = some d) (hd : d.isRow = true) (hs : (Tryz.prog.info? ty).map (·.size) = some cs.length) (hw : Region.wanted o (yielded ops a.tmps) = true) : YieldsIf Tryz.prog ops S o (.agg cs.toArray) a :=
  .inl ⟨hw, fun w hS => by
    unfold execOp
    simp only [ho, hx, Sem.run_bind, Sem.run_pure, Result.andThen_ok, run_loadAt_mid w b off ty cs d (hc w hS) hu hd hs]⟩
theorem ylm {z : Md} {y : Operand} {b off : Nat} (ho : o.op = .load 23 y) (hx : a.eval y = .pointer (some ⟨b, off, none⟩)) (hc : ∀ w, S w → w.rangeAt b off (encm z)) (hw : Region.wanted o (yielded ops a.tmps) = true) : YieldsIf Tryz.prog ops S o (mv z) a := yls 23 (encm z) ho hx hc Tryz.underlying23 rfl size23 hw
theorem ylo {z : Oc} {y : Operand} {b off : Nat} (ho : o.op = .load 26 y) (hx : a.eval y = .pointer (some ⟨b, off, none⟩)) (hc : ∀ w, S w → w.rangeAt b off (enco z)) (hw : Region.wanted o (yielded ops a.tmps) = true) : YieldsIf Tryz.prog ops S o (ov z) a := yls 26 (enco z) ho hx hc Tryz.underlying26 rfl size26 hw
theorem ylf {z : Fr} {y : Operand} {b off : Nat} (ho : o.op = .load 54 y) (hx : a.eval y = .pointer (some ⟨b, off, none⟩)) (hc : ∀ w, S w → w.rangeAt b off (encf z)) (hw : Region.wanted o (yielded ops a.tmps) = true) : YieldsIf Tryz.prog ops S o (fv z) a := yls 54 (encf z) ho hx hc Tryz.underlying54 rfl size54 hw
variable {w : World} {K : Nat → Prop} {base g : Nat} {x : Nd} {m : Md} {l : List Ac} {K' : Act → World → Prop} {Q : Exit → Act → World → Prop}
/-- A load of one cell carried out. -/
theorem wp_l1 (ty : TypeId) {y : Operand} {p : Addr} {v : Value} (ho : o.op = .load ty y) (hx : a.eval y = .pointer (some p)) (ha : ∀ w, (isAgg ty).run Tryz.prog w = .ok false w) (hc : w.cell? p = some v) (h : K' (a.put o.dst v) w) : o.wp Tryz.prog a w K' Q := by
  unfold Oper.wp execOp
  simp only [ho, hx, Sem.run_bind, Sem.run_pure, Result.andThen_ok, run_load1 ty p v w (ha w) hc]
  exact h
theorem wp_ls (ty : TypeId) (cs : List Value) {y : Operand} {b off : Nat} (ho : o.op = .load ty y) (hx : a.eval y = .pointer (some ⟨b, off, none⟩)) (hc : w.rangeAt b off cs) {d : TypeDesc} (hu : Tryz.prog.underlying ty = some d) (hd : d.isRow = true) (hs : (Tryz.prog.info? ty).map (·.size) = some cs.length) (h : K' (a.put o.dst (.agg cs.toArray)) w) : o.wp Tryz.prog a w K' Q := wp_load_mid ty y ho b off hx cs d hc hu hd hs h
/-- Stores into a node at work carried out. -/
theorem wp_ws1 (y : Nd) (off : Nat) (v : Value) (ty : TypeId) {p z : Operand} (ho : o.op = .store ty p z) (hx : a.eval p = .pointer (some ⟨g, off, none⟩)) (hy : a.eval z = v) (hv : Wk w K base g x m l) (hs : (Tryz.prog.info? ty).map (·.size) = some 1) (hc : v.cells = #[v]) (h1 : v.oneCell' = true)
    (hd : y.dv = x.dv) (he : ∀ A n c B k d, encw y A n c m B k d = setv (encw x A n c m B k d) off [v]) (hn : off < 20)
    (h : ∀ w', Wk w' K base g y m l → Kept K w w' → K' (a.put o.dst undef) w') : o.wp Tryz.prog a w K' Q := by
  have ht : w.there g off 1 := by
    obtain ⟨A, n, c, B, k, d, h1, _⟩ := hv
    exact h1.there (by show off + 1 ≤ 20; omega)
  have := run_store1 ty g off v w hs hc h1 ht
  obtain ⟨r1, r2⟩ := hv.set y off [v] hd he (by simp; omega)
  unfold Oper.wp execOp
  simp only [ho, hx, hy, Sem.run_bind, Sem.run_pure, Result.andThen_ok, this]
  exact h _ r1 r2
theorem wp_wsn (y : Nd) (off : Nat) (vs : List Value) (ty : TypeId) {p z : Operand} (ho : o.op = .store ty p z) (hx : a.eval p = .pointer (some ⟨g, off, none⟩)) (hy : a.eval z = .agg vs.toArray) (hv : Wk w K base g x m l) (hs : (Tryz.prog.info? ty).map (·.size) = some vs.length) (h1 : ∀ u ∈ vs, u.oneCell' = true)
    (hd : y.dv = x.dv) (he : ∀ A n c B k d, encw y A n c m B k d = setv (encw x A n c m B k d) off vs) (hn : off + vs.length ≤ 20)
    (h : ∀ w', Wk w' K base g y m l → Kept K w w' → K' (a.put o.dst undef) w') : o.wp Tryz.prog a w K' Q := by
  have ht : w.there g off vs.toArray.size := by
    obtain ⟨A, n, c, B, k, d, h1, _⟩ := hv
    exact h1.there (by show off + vs.toArray.size ≤ 20; simpa using hn)
  obtain ⟨r1, r2⟩ := hv.set y off vs hd he hn
  exact wp_store_mid ty p z ho g off vs.toArray hx hy ht (by simpa using hs) (all_oneCell_toArray h1) (h _ r1 r2)
/-! ### One operation that may come up alone, carried out -/
variable {fuel : Nat} {listed : Array Bool}
theorem rd_l1 (i : Nat) (d : Option Tmp) (v : Value) (ty : TypeId) {y : Operand} {p : Addr} (hr : Region.ready .any ops listed = [i]) (hi : ops[i]? = some o) (hd : o.dst = d) (ho : o.op = .load ty y) (hx : a.eval y = .pointer (some p)) (ha : ∀ w, (isAgg ty).run Tryz.prog w = .ok false w) (hc : w.cell? p = some v) (hw : Region.wanted o (yielded ops a.tmps) = true) (hS : S w)
    (h : wpAnyH Tryz.prog .any ops Q S fuel (listed.setIfInBounds i true) (a.put d v) w) : wpAnyH Tryz.prog .any ops Q S (fuel + 1) listed a w := by
  subst hd
  refine wpAnyH_ready hr (by simp) (AllReadyH.cons hi (fun K hK => ?_) AllReadyH.nil)
  rw [if_pos hw]
  exact wp_l1 ty ho hx ha hc (hK.out _ _ hS fun _ => h)
theorem rd_ls (i : Nat) (d : Option Tmp) (ty : TypeId) (cs : List Value) {y : Operand} {b off : Nat} (hr : Region.ready .any ops listed = [i]) (hi : ops[i]? = some o) (hd : o.dst = d) (ho : o.op = .load ty y) (hx : a.eval y = .pointer (some ⟨b, off, none⟩)) (hc : w.rangeAt b off cs) {t : TypeDesc} (hu : Tryz.prog.underlying ty = some t) (ht : t.isRow = true) (hs : (Tryz.prog.info? ty).map (·.size) = some cs.length) (hw : Region.wanted o (yielded ops a.tmps) = true) (hS : S w)
    (h : wpAnyH Tryz.prog .any ops Q S fuel (listed.setIfInBounds i true) (a.put d (.agg cs.toArray)) w) : wpAnyH Tryz.prog .any ops Q S (fuel + 1) listed a w := by
  subst hd
  refine wpAnyH_ready hr (by simp) (AllReadyH.cons hi (fun K hK => ?_) AllReadyH.nil)
  rw [if_pos hw]
  exact wp_ls ty cs ho hx hc hu ht hs (hK.out _ _ hS fun _ => h)
theorem rd_cl (i : Nat) (d : Option Tmp) (f : FuncId) (args : Array Value) (v : Value) {R : World → Prop} (hr : Region.ready .any ops listed = [i]) (hi : ops[i]? = some o) (hd : o.dst = d) (he : (execOp a.eval o).run Tryz.prog w = .ok (.enter f args) w) (hc : Calls Tryz.prog f args w fun e w' => e = .returned v ∧ R w') (hw : Region.wanted o (yielded ops a.tmps) = true)
    (h : ∀ w', R w' → S w' ∧ wpAnyH Tryz.prog .any ops Q S fuel (listed.setIfInBounds i true) (a.put d v) w') : wpAnyH Tryz.prog .any ops Q S (fuel + 1) listed a w := by
  subst hd
  refine wpAnyH_ready hr (by simp) (AllReadyH.cons hi (fun K hK => ?_) AllReadyH.nil)
  rw [if_pos hw]
  unfold Oper.wp
  rw [he]
  refine hc.mono ?_
  rintro e w' ⟨rfl, h2⟩
  exact hK.out _ _ (h w' h2).1 fun _ => (h w' h2).2
theorem rd_ws1 (y : Nd) (i : Nat) (off : Nat) (v : Value) (ty : TypeId) {p z : Operand} (hr : Region.ready .any ops listed = [i]) (hi : ops[i]? = some o) (hd : o.dst = none) (ho : o.op = .store ty p z) (hx : a.eval p = .pointer (some ⟨g, off, none⟩)) (hy : a.eval z = v) (hv : Wk w K base g x m l) (hs : (Tryz.prog.info? ty).map (·.size) = some 1) (hc : v.cells = #[v]) (h1 : v.oneCell' = true)
    (hdv : y.dv = x.dv) (he : ∀ A n c B k d, encw y A n c m B k d = setv (encw x A n c m B k d) off [v]) (hn : off < 20) (hw : Region.wanted o (yielded ops a.tmps) = true)
    (h : ∀ w', Wk w' K base g y m l → Kept K w w' → S w' ∧ wpAnyH Tryz.prog .any ops Q S fuel (listed.setIfInBounds i true) a w') : wpAnyH Tryz.prog .any ops Q S (fuel + 1) listed a w := by
  refine wpAnyH_ready hr (by simp) (AllReadyH.cons hi (fun K hK => ?_) AllReadyH.nil)
  rw [if_pos hw]
  refine wp_ws1 y off v ty ho hx hy hv hs hc h1 hdv he hn fun w' r1 r2 => ?_
  rw [show a.put o.dst undef = a by rw [hd]; rfl]
  exact hK.out _ _ (h w' r1 r2).1 fun _ => (h w' r1 r2).2
theorem rd_wsn (y : Nd) (i : Nat) (off : Nat) (vs : List Value) (ty : TypeId) {p z : Operand} (hr : Region.ready .any ops listed = [i]) (hi : ops[i]? = some o) (hd : o.dst = none) (ho : o.op = .store ty p z) (hx : a.eval p = .pointer (some ⟨g, off, none⟩)) (hy : a.eval z = .agg vs.toArray) (hv : Wk w K base g x m l) (hs : (Tryz.prog.info? ty).map (·.size) = some vs.length) (h1 : ∀ u ∈ vs, u.oneCell' = true)
    (hdv : y.dv = x.dv) (he : ∀ A n c B k d, encw y A n c m B k d = setv (encw x A n c m B k d) off vs) (hn : off + vs.length ≤ 20) (hw : Region.wanted o (yielded ops a.tmps) = true)
    (h : ∀ w', Wk w' K base g y m l → Kept K w w' → S w' ∧ wpAnyH Tryz.prog .any ops Q S fuel (listed.setIfInBounds i true) a w') : wpAnyH Tryz.prog .any ops Q S (fuel + 1) listed a w := by
  refine wpAnyH_ready hr (by simp) (AllReadyH.cons hi (fun K hK => ?_) AllReadyH.nil)
  rw [if_pos hw]
  refine wp_wsn y off vs ty ho hx hy hv hs h1 hdv he hn fun w' r1 r2 => ?_
  rw [show a.put o.dst undef = a by rw [hd]; rfl]
  exact hK.out _ _ (h w' r1 r2).1 fun _ => (h w' r1 r2).2
end
end Go.Proofs.YtlgedfljmgedfaaGreat
