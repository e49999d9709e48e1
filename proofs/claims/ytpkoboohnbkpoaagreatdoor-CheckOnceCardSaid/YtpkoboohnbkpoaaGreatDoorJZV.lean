/-
  Contract of check.told: the world of which statements tell.
-/
import Derived.Test.YtpkoboohnbkpoaaGreatDoorJZU
import Derived.Test.YtpkoboohnbkpoaaGreatDoorK6
import Derived.Deep.RegionHeld3
namespace Go.Proofs.YtpkoboohnbkpoaaGreatDoor
open Go Go.RowKit Go.Maps

def cfS : Sv Tryz.prog (Cf × Cs) where
  enc := fun x => cfV x.1 x.2
  N := 11
  T := 45
  z := (cfZ, ⟨none, 0, 0, none, 0, 0, none, 0, 0⟩)
  d := _
  len := fun _ => rfl
  pos := by omega
  one := by intro x u hu; simp [cfV] at hu; rcases hu with rfl | rfl | rfl | rfl | rfl | rfl | rfl | rfl | rfl | rfl | rfl <;> rfl
  undT := Tryz.underlying45
  isRow := rfl
  size := by kernel_rfl
  zero := fun w => by kernel_rfl
def z16 : List Value := iv (List.replicate 16 0)
def n16 : List Value := List.replicate 16 (.slice none 0 0)
theorem mk_row (w : World) : (Instr.makeSlice 42 (.int .i64 16) (.int .i64 16)).run Tryz.prog w = .ok (.slice (some ⟨w.heap.size, 0, none⟩) 16 16) (w.alloc (.cells z16.toArray 2)) := by kernel_rfl
theorem mk_rows (w : World) : (Instr.makeSlice 43 (.int .i64 16) (.int .i64 16)).run Tryz.prog w = .ok (.slice (some ⟨w.heap.size, 0, none⟩) 16 16) (w.alloc (.cells n16.toArray 42)) := by kernel_rfl
theorem four_heap (w : World) (o0 o1 o2 o3 : Obj) : ((((w.alloc o0).alloc o1).alloc o2).alloc o3).drew.heap[w.heap.size]? = some o0 ∧ ((((w.alloc o0).alloc o1).alloc o2).alloc o3).drew.heap[w.heap.size + 1]? = some o1 ∧
    ((((w.alloc o0).alloc o1).alloc o2).alloc o3).drew.heap[w.heap.size + 1 + 1]? = some o2 ∧ ((((w.alloc o0).alloc o1).alloc o2).alloc o3).drew.heap[w.heap.size + 1 + 1 + 1]? = some o3 ∧ Below w.heap.size w ((((w.alloc o0).alloc o1).alloc o2).alloc o3).drew := by
  have e : ((((w.alloc o0).alloc o1).alloc o2).alloc o3).drew.heap = (((w.heap.push o0).push o1).push o2).push o3 := rfl
  rw [e]
  refine ⟨?_, ?_, ?_, ?_, ((((((Below.refl _ _).alloc (Nat.le_refl _) _).alloc (by simp) _).alloc (by simp; omega) _).alloc (by simp; omega) _)).drew⟩
  all_goals
    simp only [Array.getElem?_push, Array.size_push]
    repeat (first | rw [if_pos trivial] | rw [if_pos rfl] | rw [if_neg (by omega)])
theorem row_heap {w : World} {k : Nat} {vs : List Value} {t : TypeId} (h : w.heap[k]? = some (.cells vs.toArray t)) : w.rangeAt k 0 vs ∧ w.there k 0 vs.length := by
  have h1 : w.rangeAt k 0 vs := fun j u hu => by
    rw [Nat.zero_add, cell_of_row _ _ _ _ _ _ h]
    simpa using hu
  exact ⟨h1, fun j hj => ⟨by rw [h1 j _ (List.getElem?_eq_getElem hj)]; rfl, frozen_of_row _ _ _ _ _ h⟩⟩
def s16 (gd gp gl : Nat) : Cs := ⟨some ⟨gd, 0, none⟩, 16, 16, some ⟨gp, 0, none⟩, 16, 16, some ⟨gl, 0, none⟩, 16, 16⟩
/-- What is made at the beginning. -/
structure Mk (w1 w : World) (g gd gp gl : Nat) : Prop where
  c : w.heap[g]? = some (.cells (cfV cfZ (s16 gd gp gl)).toArray 45)
  d : w.heap[gd]? = some (.cells z16.toArray 2)
  p : w.heap[gp]? = some (.cells z16.toArray 2)
  l : w.heap[gl]? = some (.cells n16.toArray 42)
  b : Below w1.heap.size w1 w
  ne : [g, gd, gp, gl].Nodup
  ge : w1.heap.size ≤ g ∧ w1.heap.size ≤ gd ∧ w1.heap.size ≤ gp ∧ w1.heap.size ≤ gl
def slv (k : Nat) : Value := .slice (some ⟨k, 0, none⟩) 16 16
/-- While the lists of delays are made. -/
structure Mg (w0 w : World) (g gd gp gl : Nat) (gr : List Nat) : Prop where
  v : w.rangeAt g 0 (cfV cfZ (s16 gd gp gl))
  vt : w.there g 0 11
  d : w.rangeAt gd 0 z16
  dt : w.there gd 0 16
  p_ : w.rangeAt gp 0 z16
  pt : w.there gp 0 16
  l : w.rangeAt gl 0 (gr.map slv ++ List.replicate (16 - gr.length) (.slice none 0 0))
  lt : w.there gl 0 16
  r : ∀ k ∈ gr, w.rangeAt k 0 z16 ∧ w.there k 0 16
  ne : (g :: gd :: gp :: gl :: gr).Nodup
  ge : ∀ k ∈ (g :: gd :: gp :: gl :: gr), w0.heap.size ≤ k ∧ k < w.heap.size
  bel : Below w0.heap.size w0 w
theorem Mk.start {w0 w1 w : World} {g gd gp gl : Nat} (h : Mk w1 w g gd gp gl) (hb : Below w0.heap.size w0 w1) : Mg w0 w g gd gp gl [] := by
  have hc := row_heap h.c
  have hd := row_heap h.d
  have hp := row_heap h.p
  have hl := row_heap h.l
  have lt : ∀ {k : Nat} {o : Obj}, w.heap[k]? = some o → k < w.heap.size := fun h => (Array.getElem?_eq_some_iff.1 h).1
  refine ⟨hc.1, hc.2, hd.1, hd.2, hp.1, hp.2, by simpa [n16] using hl.1, hl.2, (fun k hk => by cases hk), h.ne, fun k hk => ?_, hb.trans (h.b.mono hb.size)⟩
  have := h.ge
  have := hb.size
  simp only [List.mem_cons, List.not_mem_nil, or_false] at hk
  rcases hk with rfl | rfl | rfl | rfl
  · exact ⟨by omega, lt h.c⟩
  · exact ⟨by omega, lt h.d⟩
  · exact ⟨by omega, lt h.p⟩
  · exact ⟨by omega, lt h.l⟩
theorem Mg.step {w0 w : World} {g gd gp gl : Nat} {gr : List Nat} (h : Mg w0 w g gd gp gl gr) (hi : gr.length < 16) : Mg w0 (((w.alloc (.cells z16.toArray 2)).setCell ⟨gl, gr.length, none⟩ (slv w.heap.size)).drew) g gd gp gl (gr ++ [w.heap.size]) := by
  have hb1 : Below w.heap.size w (w.alloc (.cells z16.toArray 2)) := (Below.refl _ _).alloc (Nat.le_refl _) _
  have hnew := row_heap (heap_alloc_new w (.cells z16.toArray 2))
  have hlt := fun k hk => (h.ge k hk).2
  generalize hw1 : w.alloc (.cells z16.toArray 2) = w1 at *
  have hs1 : w1.heap.size = w.heap.size + 1 := by rw [← hw1]; simp
  have ho := (set_oth (w := w1) (k := gl) (j := gr.length) (v := slv w.heap.size)).2
  have hb2 := (set_oth (w := w1) (k := gl) (j := gr.length) (v := slv w.heap.size)).1
  have hne := h.ne
  simp only [List.nodup_cons, List.mem_cons, not_or] at hne
  obtain ⟨⟨n1, n2, n3, n4⟩, ⟨n5, n6, n7⟩, ⟨n8, n9⟩, n10, n11⟩ := hne
  have hll : gl < w.heap.size := hlt gl (by simp)
  have keep : ∀ {k : Nat} {vs : List Value}, k ∈ (g :: gd :: gp :: gl :: gr) → k ≠ gl → w.rangeAt k 0 vs → ((w1.setCell ⟨gl, gr.length, none⟩ (slv w.heap.size)).drew).rangeAt k 0 vs := fun hk hkl hr => by
    have := range_other (range_keep hr (hlt _ hk) hb1) hkl ho
    simpa using this
  have keept : ∀ {k n : Nat}, k ∈ (g :: gd :: gp :: gl :: gr) → w.there k 0 n → ((w1.setCell ⟨gl, gr.length, none⟩ (slv w.heap.size)).drew).there k 0 n := fun hk hr => by
    have := there_put (k2 := gl) (j := gr.length) (v := slv w.heap.size) (there_keep hr (hlt _ hk) hb1)
    simpa using this
  have nr : ∀ k ∈ gr, k ≠ gl := fun k hk e => n10 (e ▸ hk)
  refine ⟨keep (by simp) n3 h.v, keept (by simp) h.vt, keep (by simp) n6 h.d, keept (by simp) h.dt, keep (by simp) n8 h.p_, keept (by simp) h.pt, ?_, keept (by simp) h.lt, fun k hk => ?_, ?_, fun k hk => ?_, h.bel.trans ((hb1.mono h.bel.size).trans ((hb2.mono (h.ge gl (by simp)).1)).drew)⟩
  · have h1 := range_put (range_keep h.l hll hb1) (by simp; rw [show gr.length + (16 - gr.length) = 16 by omega]; exact there_keep h.lt hll hb1) (j := gr.length) (v := slv w.heap.size) (by simp; omega)
    have e : (gr.map slv ++ List.replicate (16 - gr.length) (Value.slice none 0 0)).set gr.length (slv w.heap.size) = (gr ++ [w.heap.size]).map slv ++ List.replicate (16 - (gr ++ [w.heap.size]).length) (Value.slice none 0 0) := by
      rw [List.set_append_right _ _ (by simp)]
      simp only [List.length_map, Nat.sub_self, List.map_append, List.map_cons, List.map_nil, List.length_append, List.length_cons, List.length_nil, Nat.zero_add, List.append_assoc]
      congr 1
      obtain ⟨q, hq⟩ : ∃ q, 16 - gr.length = q + 1 := ⟨15 - gr.length, by omega⟩
      rw [hq, List.replicate_succ, List.set_cons_zero, show 16 - (gr.length + 1) = q by omega]
      rfl
    rw [e] at h1
    simpa using h1
  · rcases List.mem_append.1 hk with hk | hk
    · exact ⟨keep (by simp [hk]) (nr k hk) (h.r k hk).1, keept (by simp [hk]) (h.r k hk).2⟩
    · simp only [List.mem_singleton] at hk
      subst hk
      have a1 := range_other hnew.1 (by omega) ho
      have a2 := there_put (k2 := gl) (j := gr.length) (v := slv w.heap.size) hnew.2
      exact ⟨by simpa using a1, by simpa [z16, iv] using a2⟩
  · have hw : w.heap.size ∉ (g :: gd :: gp :: gl :: gr) := fun hm => Nat.lt_irrefl _ (hlt _ hm)
    have := h.ne
    show ((g :: gd :: gp :: gl :: gr) ++ [w.heap.size]).Nodup
    rw [List.nodup_append]
    refine ⟨this, by simp, fun a ha b hb => ?_⟩
    simp only [List.mem_singleton] at hb
    subst hb
    exact fun e => hw (e ▸ ha)
  · have : k ∈ (g :: gd :: gp :: gl :: gr) ∨ k = w.heap.size := by
      simp only [List.mem_cons, List.mem_append, List.not_mem_nil, or_false] at hk ⊢
      rcases hk with h | h | h | h | h | h <;> simp [h]
    have hsz : ((w1.setCell ⟨gl, gr.length, none⟩ (slv w.heap.size)).drew).heap.size = w.heap.size + 1 := by simp [hs1]
    rw [hsz]
    rcases this with h2 | h2
    · have := h.ge k h2; omega
    · subst h2; exact ⟨h.bel.size, by omega⟩
theorem Mg.tm {w0 w w' : World} {g gd gp gl B : Nat} {gr : List Nat} (h : Mg w0 w g gd gp gl gr) (hl : gr.length = 16) (hb : Below w.heap.size w w') (hm : Mp w' B (esL (clL w.heap.size)) 8) (hp : w'.cell? ⟨w.heap.size, 0, none⟩ = some (.pointer (some ⟨g, 0, none⟩))) (hB : w.heap.size < B) :
    Tm w0 w' g gd gp gl w.heap.size B gr cf0 (s16 gd gp gl) := by
  have hlt := fun k hk => (h.ge k hk).2
  have K : ∀ {k : Nat} {vs : List Value}, k ∈ (g :: gd :: gp :: gl :: gr) → w.rangeAt k 0 vs → w'.rangeAt k 0 vs := fun hk hr => range_keep hr (hlt _ hk) hb
  have T : ∀ {k n : Nat}, k ∈ (g :: gd :: gp :: gl :: gr) → w.there k 0 n → w'.there k 0 n := fun hk hr => there_keep hr (hlt _ hk) hb
  have hne := h.ne
  refine ⟨K (by simp) h.v, T (by simp) h.vt, K (by simp) h.d, rfl, T (by simp) h.dt, K (by simp) h.p_, rfl, T (by simp) h.pt, fun i k hk => ?_, hl, T (by simp) h.lt, fun i k row hk hr => ?_, fun k hk => T (by simp [hk]) (h.r k hk).2, rfl, hp, hm, ?_, fun k hk => ?_, h.bel.trans (hb.mono h.bel.size)⟩
  · have h1 := K (k := gl) (by simp) h.l i (slv k) (by
      rw [List.getElem?_append_left (by have := (List.getElem?_eq_some_iff.1 hk).1; simpa using this), List.getElem?_map, hk]; rfl)
    rwa [Nat.zero_add] at h1
  · have hr2 : row = List.replicate 16 0 := by
      have := List.mem_of_getElem? hr
      simp only [cf0, List.mem_replicate] at this
      exact this.2
    subst hr2
    have hkm := List.mem_of_getElem? hk
    exact ⟨K (by simp [hkm]) (h.r k hkm).1, rfl⟩
  · have a1 : w.heap.size ∉ (g :: gd :: gp :: gl :: gr) := fun hm => Nat.lt_irrefl _ (hlt _ hm)
    have a2 : B ∉ (g :: gd :: gp :: gl :: gr) := fun hm => by have := hlt _ hm; omega
    simp only [List.nodup_cons, List.mem_cons, not_or] at hne a1 a2 ⊢
    obtain ⟨⟨n1, n2, n3, n4⟩, ⟨n5, n6, n7⟩, ⟨n8, n9⟩, n10, n11⟩ := hne
    obtain ⟨c1, c2, c3, c4, c5⟩ := a1
    obtain ⟨d1, d2, d3, d4, d5⟩ := a2
    exact ⟨⟨n1, n2, n3, Ne.symm c1, Ne.symm d1, n4⟩, ⟨n5, n6, Ne.symm c2, Ne.symm d2, n7⟩, ⟨n8, Ne.symm c3, Ne.symm d3, n9⟩, ⟨Ne.symm c4, Ne.symm d4, n10⟩, ⟨Nat.ne_of_lt hB, c5⟩, d5, n11⟩
  · have hs := h.bel.size
    have : k ∈ (g :: gd :: gp :: gl :: gr) ∨ k = w.heap.size ∨ k = B := by
      simp only [List.mem_cons] at hk ⊢
      rcases hk with h | h | h | h | h | h | h <;> simp [h]
    rcases this with h2 | h2 | h2
    · exact (h.ge k h2).1
    · omega
    · omega
theorem RwI.mono {w : World} {P P' : Nat → Prop} {A : Option Addr} {n : Nat} {zs : List Int} (h : RwI w P A n zs) (hP : ∀ b, P b → P' b) : RwI w P' A n zs := ⟨h.1, fun hn => by
  obtain ⟨b, o, e, hb, hr⟩ := h.2 hn
  exact ⟨b, o, e, hP b hb, hr⟩⟩
theorem CfM.mono {w : World} {P P' : Nat → Prop} {c : Cf} {s : Cs} (h : CfM w P c s) (hP : ∀ b, P b → P' b) : CfM w P' c s := by
  refine ⟨h.d.mono hP, h.p.mono hP, ?_⟩
  obtain ⟨rs, h1, h2, h3, h4⟩ := h.l
  refine ⟨rs, h1, h2, fun hn => ?_, fun i r row hr hw => (h4 i r row hr hw).mono hP⟩
  obtain ⟨b, o, e, hb, hr⟩ := h3 hn
  exact ⟨b, o, e, hP b hb, hr⟩
theorem results_c {w : World} {g : Nat} {fn : Func} {p : Tmp} (h : fn.results = #[.cell p 45]) (tmps : Array Value) (hp : tmps.getD p undef = .pointer (some ⟨g, 0, none⟩)) {x : Cf × Cs} (hx : cfS.Var w g x) :
    (results fn tmps).run Tryz.prog w = .ok (cfS.val x) w := by
  have : (loadVar 45 ⟨g, 0, none⟩).run Tryz.prog w = .ok (cfS.val x) w := run_loadVar_mid w g 0 cfS.T (cfS.enc x) _ hx.1 cfS.undT cfS.isRow (by rw [cfS.size, cfS.len])
  have hp' : tmps[p]?.getD undef = .pointer (some ⟨g, 0, none⟩) := by simpa using hp
  simp only [results, h]
  simp [hp', this, asAddr]
theorem Tm.drew {w0 w : World} {g gd gp gl p B : Nat} {gr : List Nat} {c : Cf} {s : Cs} (h : Tm w0 w g gd gp gl p B gr c s) : Tm w0 w.drew g gd gp gl p B gr c s := h.below ((Below.refl _ _).drew)
theorem clL_none (p : Nat) {xw : List UInt8} (h : xw ∉ [wNodes, wTick, wSlot, wHorizon, wDrift, wDelay, wPower, wGuard]) : fndL (clL p) xw = none := by
  simp only [List.mem_cons, List.not_mem_nil, or_false, not_or] at h
  obtain ⟨h1, h2, h3, h4, h5, h6, h7, h8⟩ := h
  have e : ∀ {a b : List UInt8}, ¬ a = b → (b == a) = false := fun h => by rw [beq_eq_false_iff_ne]; exact Ne.symm h
  simp [fndL, clL, e h1, e h2, e h3, e h4, e h5, e h6, e h7, e h8]
set_option maxHeartbeats 4000000 in
set_option maxRecDepth 100000 in
theorem told_any (f : Fo) (w : World) (K : Nat → Prop) (A : Option Addr) (n c0 : Nat) (ht : TrS w K A n f) (hK : ∀ k, K k → k < w.heap.size) (h1 : ∀ x ∈ f.topL, oneE x = 0) (hn : n ≤ 1000000) :
    Calls Tryz.prog 57 #[.slice A n c0] w fun e w' => ∃ s, e = .returned (cfS.val (toldF f.topL, s)) ∧ CfM w' (fun k => w.heap.size ≤ k ∧ k < w'.heap.size) (toldF f.topL) s ∧ Below w.heap.size w w' := by
  go_enter Tryz.func57, Tryz.ntmps57
  go_wp2_with (first | (refine Sv.wp_al cfS rfl rfl ?_; intro w1 q1 b1 s1))
  have hmk := mk_row
  have hmk2 := mk_rows
  go_simp
  go_cut [3] (fun v3 wx => ∃ g gd gp gl, v3 = .pointer (some ⟨g, 0, none⟩) ∧ Hid (Mk w1 wx g gd gp gl))
  case first =>
    go_region
    all_goals
      go_wp2_with fail
      go_meet
      obtain ⟨x0, x1, x2, x3, xb⟩ := four_heap w1 _ _ _ _
      first
        | exact ⟨_, _, _, _, rfl, hid ⟨x0, x1, x2, x3, xb, by simp; try omega, by omega⟩⟩
        | exact ⟨_, _, _, _, rfl, hid ⟨x0, x1, x3, x2, xb, by simp; try omega, by omega⟩⟩
        | exact ⟨_, _, _, _, rfl, hid ⟨x0, x2, x1, x3, xb, by simp; try omega, by omega⟩⟩
        | exact ⟨_, _, _, _, rfl, hid ⟨x0, x2, x3, x1, xb, by simp; try omega, by omega⟩⟩
        | exact ⟨_, _, _, _, rfl, hid ⟨x0, x3, x1, x2, xb, by simp; try omega, by omega⟩⟩
        | exact ⟨_, _, _, _, rfl, hid ⟨x0, x3, x2, x1, xb, by simp; try omega, by omega⟩⟩
        | exact ⟨_, _, _, _, rfl, hid ⟨x1, x0, x2, x3, xb, by simp; try omega, by omega⟩⟩
        | exact ⟨_, _, _, _, rfl, hid ⟨x1, x0, x3, x2, xb, by simp; try omega, by omega⟩⟩
        | exact ⟨_, _, _, _, rfl, hid ⟨x1, x2, x0, x3, xb, by simp; try omega, by omega⟩⟩
        | exact ⟨_, _, _, _, rfl, hid ⟨x1, x2, x3, x0, xb, by simp; try omega, by omega⟩⟩
        | exact ⟨_, _, _, _, rfl, hid ⟨x1, x3, x0, x2, xb, by simp; try omega, by omega⟩⟩
        | exact ⟨_, _, _, _, rfl, hid ⟨x1, x3, x2, x0, xb, by simp; try omega, by omega⟩⟩
        | exact ⟨_, _, _, _, rfl, hid ⟨x2, x0, x1, x3, xb, by simp; try omega, by omega⟩⟩
        | exact ⟨_, _, _, _, rfl, hid ⟨x2, x0, x3, x1, xb, by simp; try omega, by omega⟩⟩
        | exact ⟨_, _, _, _, rfl, hid ⟨x2, x1, x0, x3, xb, by simp; try omega, by omega⟩⟩
        | exact ⟨_, _, _, _, rfl, hid ⟨x2, x1, x3, x0, xb, by simp; try omega, by omega⟩⟩
        | exact ⟨_, _, _, _, rfl, hid ⟨x2, x3, x0, x1, xb, by simp; try omega, by omega⟩⟩
        | exact ⟨_, _, _, _, rfl, hid ⟨x2, x3, x1, x0, xb, by simp; try omega, by omega⟩⟩
        | exact ⟨_, _, _, _, rfl, hid ⟨x3, x0, x1, x2, xb, by simp; try omega, by omega⟩⟩
        | exact ⟨_, _, _, _, rfl, hid ⟨x3, x0, x2, x1, xb, by simp; try omega, by omega⟩⟩
        | exact ⟨_, _, _, _, rfl, hid ⟨x3, x1, x0, x2, xb, by simp; try omega, by omega⟩⟩
        | exact ⟨_, _, _, _, rfl, hid ⟨x3, x1, x2, x0, xb, by simp; try omega, by omega⟩⟩
        | exact ⟨_, _, _, _, rfl, hid ⟨x3, x2, x0, x1, xb, by simp; try omega, by omega⟩⟩
        | exact ⟨_, _, _, _, rfl, hid ⟨x3, x2, x1, x0, xb, by simp; try omega, by omega⟩⟩
  case rest =>
    obtain ⟨g, gd, gp, gl, rfl, hmk0⟩ := hcut
    have M0 := hid (hmk0.out.start (Below.refl _ _))
    clear hmk0
    have c9 : wc.cell? ⟨g, 9, none⟩ = some (.slice (some ⟨gl, 0, none⟩) 16 16) := by have := M0.out.v 9 _ rfl; rwa [Nat.zero_add] at this
    go_wp2
    go_loopw [20] (fun v20 wr => ∃ gr : List Nat, v20 = .int .i64 (gr.length : Nat) ∧ gr.length ≤ 16 ∧ Mg w1 wr g gd gp gl gr) (fun v20 _ => 16 - (intOf v20).toNat)
    case atStart => exact ⟨[], rfl, by simp, M0.out⟩
    case round =>
      obtain ⟨gr, rfl, hgr, hmg⟩ := hrel
      have MG := hid hmg
      clear M0 c9 hmg
      by_cases hlt : gr.length < 16
      · have c9 : wr.cell? ⟨g, 9, none⟩ = some (.slice (some ⟨gl, 0, none⟩) 16 16) := by have := MG.out.v 9 _ rfl; rwa [Nat.zero_add] at this
        have hq := MG.out.lt gr.length hlt
        rw [Nat.zero_add] at hq
        obtain ⟨hq1, hq2⟩ := hq
        obtain ⟨u0, hq3⟩ := Option.isSome_iff_exists.1 hq1
        have gne : ¬ g = wr.heap.size := Nat.ne_of_lt (MG.out.ge g (by simp)).2
        have lne : ¬ gl = wr.heap.size := Nat.ne_of_lt (MG.out.ge gl (by simp)).2
        have hl16 : (gr.length : Int) < 16 := by omega
        have MS := hid (MG.out.step hlt)
        clear hq1
        have BA : Below wr.heap.size wr (wr.alloc (.cells z16.toArray 2)) := (Below.refl _ _).alloc (Nat.le_refl _) _
        have glt := (MG.out.ge gl (by simp)).2
        have a9 : (wr.alloc (.cells z16.toArray 2)).cell? ⟨g, 9, none⟩ = some (.slice (some ⟨gl, 0, none⟩) 16 16) := (BA.cell (p := ⟨g, 9, none⟩) (MG.out.ge g (by simp)).2).trans c9
        have a10 : (wr.alloc (.cells z16.toArray 2)).cell? ⟨gl, gr.length, none⟩ = some u0 := (BA.cell (p := ⟨gl, gr.length, none⟩) glt).trans hq3
        have a11 : (wr.alloc (.cells z16.toArray 2)).frozen? ⟨gl, gr.length, none⟩ = false := (BA.frozen (p := ⟨gl, gr.length, none⟩) glt).trans hq2
        clear BA glt
        generalize hgl : gr.length = i at *
        go_wp2
        go_region
        all_goals
          go_wp2
          go_roundw
          case rel => exact ⟨gr ++ [wr.heap.size], by simp [hgl], by simp; omega, MS.out⟩
          case measure => simp [intOf]; omega
      · have hl16 : gr.length = 16 := by omega
        have HT := hid (fun w' B (hb : Below wr.heap.size wr w') => MG.out.tm (w' := w') (B := B) hl16 hb)
        have HTC := hid (fun w' => tells_any g w')
        clear hmk hmk2 hgr hlt
        go_wp2_with (first
          | (go_at_call 105; refine (HTC.out wr).mono ?_; rintro e w2 ⟨B, rfl, m2, p2, h2, b2⟩; have T2 := hid (HT.out w2 B b2 m2 p2 h2); clear m2 p2 h2 b2))
        clear HT HTC MG
        generalize wr.heap.size = p at *
        obtain ⟨xs, hx, htr⟩ := ht
        have HX := hid hx
        have HK := hid hK
        have HL := hid (show f.len = n by rw [← htr.len, hx.1])
        have HTR := hid htr
        have H1 := hid h1
        obtain ⟨T, hT⟩ : ∃ T, f.topL.foldl tellS cf0 = T := ⟨_, rfl⟩
        have HTT := hid hT
        have hnn : (n : Int) ≤ 1000000 := by omega
        have RV := hid (show cfS.Var w1 w.heap.size cfS.z ∧ Below w.heap.size w w1 from ⟨q1, b1⟩)
        clear hx htr hK h1 hT hn q1 b1 s1
        go_loopw [32] (fun v32 wr => ∃ (i : Nat) (r : Fo) (c : Cf), v32 = .int .i64 (i : Nat) ∧ i ≤ n ∧ Tm w1 wr g gd gp gl p B gr c (s16 gd gp gl) ∧ r.topL.foldl tellS c = T ∧ Tr w K r (xs.drop i) ∧ (∀ x ∈ r.topL, oneE x = 0) ∧ 0 ≤ c.nodes ∧ c.nodes ≤ 16) (fun v32 _ => n - (intOf v32).toNat)
        case atStart => exact ⟨0, f, cf0, rfl, Nat.zero_le _, T2.out, HTT.out, by simpa using HTR.out, H1.out, by decide, by decide⟩
        case round =>
          obtain ⟨i, r, c, rfl, hi, htm, hfo, htr, hone, hc0, hc16⟩ := hrel
          have TM := hid htm
          have HFO := hid hfo
          have CN := hid (And.intro hc0 hc16)
          have BW := hid (RV.out.2.trans (htm.bel.mono RV.out.2.size))
          clear T2 htm hfo hc0 hc16
          by_cases hlt : i < n
          · obtain ⟨wd, ns, bl, y, nx, rfl, e1, e2, hns, hy, hnx⟩ := htr.step (by rw [HX.out.1]; exact hlt)
            obtain ⟨b, o, rfl, hb, hcell⟩ := (HX.out.size.below BW.out).at_ hlt
            generalize smS.nth xs i = x at *
            obtain ⟨xw, xA, xn, xc, xb, xB, xm, xk⟩ := x
            simp only at e1 e2 hns hy
            subst e1 e2
            have r1 : wr.rangeAt b (o + i * 4) (smS.enc ⟨xw, xA, xn, xc, xb, xB, xm, xk⟩) := hcell
            have HE : oneE ⟨xw, ns, xb⟩ = 0 := hone _ (by simp [Fo.topL])
            have HNX := hid (And.intro hnx (show ∀ z ∈ nx.topL, oneE z = 0 from fun z hz => hone z (by simp [Fo.topL, hz])))
            have HF2 := hid (show nx.topL.foldl tellS (tellS c ⟨xw, ns, xb⟩) = T from HFO.out)
            have HNS := hid hns
            clear hcell htr hone hy hnx hns hb HFO
            by_cases hno : xw ∉ [wNodes, wTick, wSlot, wHorizon, wDrift, wDelay, wPower, wGuard]
            · have HFN := hid (clL_none p hno)
              have HV : Hid (nx.topL.foldl tellS c = T) := hid (by rw [← HF2.out, tell_other (by
                cases hq : St.world ⟨xw, ns, xb⟩ with
                | false => rfl
                | true =>
                  refine absurd ?_ hno
                  have := word_world hq
                  simpa using this)])
              clear HF2 hno HE
              go_wp2_with (first
                | (refine wp_lk (r := .tuple #[.nilFunc, .bool false]) rfl (.tmp 37) (.tmp 39) rfl Tryz.underlying157 .nilFunc rfl rfl T3.out.mp (by kernel_rfl) (by rw [HFN.out]; rfl) ?_)
                | (refine Sh.wp_sv smS (x := ⟨xw, xA, xn, xc, xb, xB, xm, xk⟩) rfl (.tmp 7) (.tmp 35) rfl rfl (by rfl) q2 ?_; intro w3 q3 b3 o3 s3; have V3 := hid q3; have B13 := hid (B2.out.trans (b3.mono (Nat.le_refl _))); have T3 := hid (TM.out.below B13.out); have B3 := hid (RV.out.2.trans (T3.out.bel.mono RV.out.2.size)); have c0 : w3.cell? ⟨wr.heap.size, 0, none⟩ = some (.string (strB xw)) := V3.out.cell (j := 0) rfl; have c1 : w3.cell? ⟨wr.heap.size, 1, none⟩ = some (.slice xA xn xc) := V3.out.cell (j := 1) rfl; clear q2 q3 b3 o3 s3)
                | (refine Sh.wp_al smS rfl rfl ?_; intro w2 q2 b2 s2; have B2 := hid b2; clear b2 s2)
                | (refine Sh.wp_ld smS rfl (.tmp 34) rfl rfl r1 ?_))
              go_roundw
              case rel => exact ⟨i + 1, nx, c, by go_num, by omega, T3.out, HV.out, HNX.out.1, HNX.out.2, CN.out.1, CN.out.2⟩
              case measure => simp [intOf]; omega
            · simp only [List.mem_cons, List.not_mem_nil, or_false, Decidable.not_not] at hno
              rcases hno with rfl | rfl | rfl | rfl | rfl | rfl | rfl | rfl
              ·
                obtain ⟨z0, rfl, l0, u0, -⟩ := one1 HE four_nodes
                obtain ⟨b5, o5, rfl, hb5, hr3⟩ := HNS.out.2 (by have := HNS.out.1; simp at this; omega)
                have hxn : xn = 1 := by have := HNS.out.1; simpa using this.symm
                subst hxn
                have HB3 := hid (HK.out _ hb5)
                have E0 := hid (show w.cell? ⟨b5, o5, none⟩ = some (.int .i64 z0) from hr3 0 _ rfl)
                clear hr3 hb5 HE
                simp only at l0 u0
                have HFN := hid (show fndL (clL p) wNodes = some (0, clV 133 p) from rfl)
                go_wp2_with (first
                            | (go_at_call 133; refine (tl_nodes p g b5 o5 1 xc w3 T3.out.pc z0 _ ((B3.out.cell (p := ⟨b5, o5, none⟩) HB3.out).trans E0.out) (by omega) (by have := T3.out.v 0 _ rfl; rwa [Nat.zero_add] at this) (by have := (T3.out.vt 0 (by omega)).2; rwa [Nat.zero_add] at this)).mono ?_; rintro e w4 ⟨rfl, h4⟩; have T4 := hid (show Tm w1 w4 g gd gp gl p B gr (tellS c ⟨wNodes, [(z0, false)], xb⟩) (s16 gd gp gl) from by rw [h4]; exact (T3.out.set_v (j := 0) (v := .int .i64 z0) (c' := tellS c ⟨wNodes, [(z0, false)], xb⟩) (by omega) rfl rfl rfl rfl).drew); clear h4)
                            | (refine wp_lk (r := .tuple #[.func (.func 133) #[] #[.pointer (some ⟨p, 0, none⟩)], .bool true]) rfl (.tmp 37) (.tmp 39) rfl Tryz.underlying157 .nilFunc rfl rfl T3.out.mp (by kernel_rfl) (by rw [HFN.out]; rfl) ?_)
                            | (refine Sh.wp_sv smS (x := ⟨wNodes, some ⟨b5, o5, none⟩, 1, xc, xb, xB, xm, xk⟩) rfl (.tmp 7) (.tmp 35) rfl rfl (by rfl) q2 ?_; intro w3 q3 b3 o3 s3; have V3 := hid q3; have B13 := hid (B2.out.trans (b3.mono (Nat.le_refl _))); have T3 := hid (TM.out.below B13.out); have B3 := hid (RV.out.2.trans (T3.out.bel.mono RV.out.2.size)); have c0 : w3.cell? ⟨wr.heap.size, 0, none⟩ = some (.string (strB wNodes)) := V3.out.cell (j := 0) rfl; have c1 : w3.cell? ⟨wr.heap.size, 1, none⟩ = some (.slice (some ⟨b5, o5, none⟩) 1 xc) := V3.out.cell (j := 1) rfl; clear q2 q3 b3 o3 s3)
                            | (refine Sh.wp_al smS rfl rfl ?_; intro w2 q2 b2 s2; have B2 := hid b2; clear b2 s2)
                            | (refine Sh.wp_ld smS rfl (.tmp 34) rfl rfl r1 ?_))
                go_roundw
                case rel => exact ⟨i + 1, nx, _, by go_num, by omega, T4.out, HF2.out, HNX.out.1, HNX.out.2, (show (0 : Int) ≤ z0 by omega), (show z0 ≤ 16 by omega)⟩
                case measure => simp [intOf]; omega

              ·
                obtain ⟨z0, rfl, l0, u0, -⟩ := one1 HE four_tick
                obtain ⟨b5, o5, rfl, hb5, hr3⟩ := HNS.out.2 (by have := HNS.out.1; simp at this; omega)
                have hxn : xn = 1 := by have := HNS.out.1; simpa using this.symm
                subst hxn
                have HB3 := hid (HK.out _ hb5)
                have E0 := hid (show w.cell? ⟨b5, o5, none⟩ = some (.int .i64 z0) from hr3 0 _ rfl)
                clear hr3 hb5 HE
                have HFN := hid (show fndL (clL p) wTick = some (1, clV 134 p) from rfl)
                go_wp2_with (first
                            | (go_at_call 134; refine (tl_tick p g b5 o5 1 xc w3 T3.out.pc z0 _ ((B3.out.cell (p := ⟨b5, o5, none⟩) HB3.out).trans E0.out) (by omega) (by have := T3.out.v 5 _ rfl; rwa [Nat.zero_add] at this) (by have := (T3.out.vt 5 (by omega)).2; rwa [Nat.zero_add] at this)).mono ?_; rintro e w4 ⟨rfl, h4⟩; have T4 := hid (show Tm w1 w4 g gd gp gl p B gr (tellS c ⟨wTick, [(z0, true)], xb⟩) (s16 gd gp gl) from by rw [h4]; exact (T3.out.set_v (j := 5) (v := .int .i64 z0) (c' := tellS c ⟨wTick, [(z0, true)], xb⟩) (by omega) rfl rfl rfl rfl).drew); clear h4)
                            | (refine wp_lk (r := .tuple #[.func (.func 134) #[] #[.pointer (some ⟨p, 0, none⟩)], .bool true]) rfl (.tmp 37) (.tmp 39) rfl Tryz.underlying157 .nilFunc rfl rfl T3.out.mp (by kernel_rfl) (by rw [HFN.out]; rfl) ?_)
                            | (refine Sh.wp_sv smS (x := ⟨wTick, some ⟨b5, o5, none⟩, 1, xc, xb, xB, xm, xk⟩) rfl (.tmp 7) (.tmp 35) rfl rfl (by rfl) q2 ?_; intro w3 q3 b3 o3 s3; have V3 := hid q3; have B13 := hid (B2.out.trans (b3.mono (Nat.le_refl _))); have T3 := hid (TM.out.below B13.out); have B3 := hid (RV.out.2.trans (T3.out.bel.mono RV.out.2.size)); have c0 : w3.cell? ⟨wr.heap.size, 0, none⟩ = some (.string (strB wTick)) := V3.out.cell (j := 0) rfl; have c1 : w3.cell? ⟨wr.heap.size, 1, none⟩ = some (.slice (some ⟨b5, o5, none⟩) 1 xc) := V3.out.cell (j := 1) rfl; clear q2 q3 b3 o3 s3)
                            | (refine Sh.wp_al smS rfl rfl ?_; intro w2 q2 b2 s2; have B2 := hid b2; clear b2 s2)
                            | (refine Sh.wp_ld smS rfl (.tmp 34) rfl rfl r1 ?_))
                go_roundw
                case rel => exact ⟨i + 1, nx, _, by go_num, by omega, T4.out, HF2.out, HNX.out.1, HNX.out.2, CN.out.1, CN.out.2⟩
                case measure => simp [intOf]; omega

              ·
                obtain ⟨z0, z1, z2, z3, rfl, -⟩ := one4 HE four_slot
                obtain ⟨b5, o5, rfl, hb5, hr3⟩ := HNS.out.2 (by have := HNS.out.1; simp at this; omega)
                have hxn : xn = 4 := by have := HNS.out.1; simpa using this.symm
                subst hxn
                have HB3 := hid (HK.out _ hb5)
                have E0 := hid (show w.cell? ⟨b5, o5, none⟩ = some (.int .i64 z0) from hr3 0 _ rfl)
                have E1 := hid (show w.cell? ⟨b5, o5 + 2, none⟩ = some (.int .i64 z1) from hr3 2 _ rfl)
                have E2 := hid (show w.cell? ⟨b5, o5 + 4, none⟩ = some (.int .i64 z2) from hr3 4 _ rfl)
                have E3 := hid (show w.cell? ⟨b5, o5 + 6, none⟩ = some (.int .i64 z3) from hr3 6 _ rfl)
                clear hr3 hb5 HE
                have HFN := hid (show fndL (clL p) wSlot = some (2, clV 135 p) from rfl)
                go_wp2_with (first
                            | (go_at_call 135; refine (tl_slot p g b5 o5 4 xc w3 T3.out.pc z0 z1 z2 z3 _ _ _ _ ((B3.out.cell (p := ⟨b5, o5, none⟩) HB3.out).trans E0.out) ((B3.out.cell (p := ⟨b5, o5 + 2, none⟩) HB3.out).trans E1.out) ((B3.out.cell (p := ⟨b5, o5 + 4, none⟩) HB3.out).trans E2.out) ((B3.out.cell (p := ⟨b5, o5 + 6, none⟩) HB3.out).trans E3.out) (by omega) (by have := T3.out.v 1 _ rfl; rwa [Nat.zero_add] at this) (by have := T3.out.v 2 _ rfl; rwa [Nat.zero_add] at this) (by have := T3.out.v 3 _ rfl; rwa [Nat.zero_add] at this) (by have := T3.out.v 4 _ rfl; rwa [Nat.zero_add] at this) (by have := (T3.out.vt 1 (by omega)).2; rwa [Nat.zero_add] at this) (by have := (T3.out.vt 2 (by omega)).2; rwa [Nat.zero_add] at this) (by have := (T3.out.vt 3 (by omega)).2; rwa [Nat.zero_add] at this) (by have := (T3.out.vt 4 (by omega)).2; rwa [Nat.zero_add] at this)).mono ?_; rintro e w4 ⟨rfl, h4⟩; have T4 := hid (show Tm w1 w4 g gd gp gl p B gr (tellS c ⟨wSlot, [(z0, false), (z1, false), (z2, false), (z3, false)], xb⟩) (s16 gd gp gl) from by rw [h4]; exact ((((T3.out.set_v (j := 1) (v := .int .i64 z0) (c' := { c with slot := z0 }) (by omega) rfl rfl rfl rfl).set_v (j := 2) (v := .int .i64 z1) (c' := { c with slot := z0, lead := z1 }) (by omega) rfl rfl rfl rfl).set_v (j := 3) (v := .int .i64 z2) (c' := { c with slot := z0, lead := z1, frame := z2 }) (by omega) rfl rfl rfl rfl).set_v (j := 4) (v := .int .i64 z3) (c' := tellS c ⟨wSlot, [(z0, false), (z1, false), (z2, false), (z3, false)], xb⟩) (by omega) rfl rfl rfl rfl).drew); clear h4)
                            | (refine wp_lk (r := .tuple #[.func (.func 135) #[] #[.pointer (some ⟨p, 0, none⟩)], .bool true]) rfl (.tmp 37) (.tmp 39) rfl Tryz.underlying157 .nilFunc rfl rfl T3.out.mp (by kernel_rfl) (by rw [HFN.out]; rfl) ?_)
                            | (refine Sh.wp_sv smS (x := ⟨wSlot, some ⟨b5, o5, none⟩, 4, xc, xb, xB, xm, xk⟩) rfl (.tmp 7) (.tmp 35) rfl rfl (by rfl) q2 ?_; intro w3 q3 b3 o3 s3; have V3 := hid q3; have B13 := hid (B2.out.trans (b3.mono (Nat.le_refl _))); have T3 := hid (TM.out.below B13.out); have B3 := hid (RV.out.2.trans (T3.out.bel.mono RV.out.2.size)); have c0 : w3.cell? ⟨wr.heap.size, 0, none⟩ = some (.string (strB wSlot)) := V3.out.cell (j := 0) rfl; have c1 : w3.cell? ⟨wr.heap.size, 1, none⟩ = some (.slice (some ⟨b5, o5, none⟩) 4 xc) := V3.out.cell (j := 1) rfl; clear q2 q3 b3 o3 s3)
                            | (refine Sh.wp_al smS rfl rfl ?_; intro w2 q2 b2 s2; have B2 := hid b2; clear b2 s2)
                            | (refine Sh.wp_ld smS rfl (.tmp 34) rfl rfl r1 ?_))
                go_roundw
                case rel => exact ⟨i + 1, nx, _, by go_num, by omega, T4.out, HF2.out, HNX.out.1, HNX.out.2, CN.out.1, CN.out.2⟩
                case measure => simp [intOf]; omega

              ·
                obtain ⟨z0, rfl, l0, u0, -⟩ := one1 HE four_horizon
                obtain ⟨b5, o5, rfl, hb5, hr3⟩ := HNS.out.2 (by have := HNS.out.1; simp at this; omega)
                have hxn : xn = 1 := by have := HNS.out.1; simpa using this.symm
                subst hxn
                have HB3 := hid (HK.out _ hb5)
                have E0 := hid (show w.cell? ⟨b5, o5, none⟩ = some (.int .i64 z0) from hr3 0 _ rfl)
                clear hr3 hb5 HE
                have HFN := hid (show fndL (clL p) wHorizon = some (3, clV 136 p) from rfl)
                go_wp2_with (first
                            | (go_at_call 136; refine (tl_horizon p g b5 o5 1 xc w3 T3.out.pc z0 _ ((B3.out.cell (p := ⟨b5, o5, none⟩) HB3.out).trans E0.out) (by omega) (by have := T3.out.v 6 _ rfl; rwa [Nat.zero_add] at this) (by have := (T3.out.vt 6 (by omega)).2; rwa [Nat.zero_add] at this)).mono ?_; rintro e w4 ⟨rfl, h4⟩; have T4 := hid (show Tm w1 w4 g gd gp gl p B gr (tellS c ⟨wHorizon, [(z0, true)], xb⟩) (s16 gd gp gl) from by rw [h4]; exact (T3.out.set_v (j := 6) (v := .int .i64 z0) (c' := tellS c ⟨wHorizon, [(z0, true)], xb⟩) (by omega) rfl rfl rfl rfl).drew); clear h4)
                            | (refine wp_lk (r := .tuple #[.func (.func 136) #[] #[.pointer (some ⟨p, 0, none⟩)], .bool true]) rfl (.tmp 37) (.tmp 39) rfl Tryz.underlying157 .nilFunc rfl rfl T3.out.mp (by kernel_rfl) (by rw [HFN.out]; rfl) ?_)
                            | (refine Sh.wp_sv smS (x := ⟨wHorizon, some ⟨b5, o5, none⟩, 1, xc, xb, xB, xm, xk⟩) rfl (.tmp 7) (.tmp 35) rfl rfl (by rfl) q2 ?_; intro w3 q3 b3 o3 s3; have V3 := hid q3; have B13 := hid (B2.out.trans (b3.mono (Nat.le_refl _))); have T3 := hid (TM.out.below B13.out); have B3 := hid (RV.out.2.trans (T3.out.bel.mono RV.out.2.size)); have c0 : w3.cell? ⟨wr.heap.size, 0, none⟩ = some (.string (strB wHorizon)) := V3.out.cell (j := 0) rfl; have c1 : w3.cell? ⟨wr.heap.size, 1, none⟩ = some (.slice (some ⟨b5, o5, none⟩) 1 xc) := V3.out.cell (j := 1) rfl; clear q2 q3 b3 o3 s3)
                            | (refine Sh.wp_al smS rfl rfl ?_; intro w2 q2 b2 s2; have B2 := hid b2; clear b2 s2)
                            | (refine Sh.wp_ld smS rfl (.tmp 34) rfl rfl r1 ?_))
                go_roundw
                case rel => exact ⟨i + 1, nx, _, by go_num, by omega, T4.out, HF2.out, HNX.out.1, HNX.out.2, CN.out.1, CN.out.2⟩
                case measure => simp [intOf]; omega

              ·
                obtain ⟨z0, z1, rfl, l0, u0, -⟩ := one2 HE four_drift
                obtain ⟨b5, o5, rfl, hb5, hr3⟩ := HNS.out.2 (by have := HNS.out.1; simp at this; omega)
                have hxn : xn = 2 := by have := HNS.out.1; simpa using this.symm
                subst hxn
                have HB3 := hid (HK.out _ hb5)
                have E0 := hid (show w.cell? ⟨b5, o5, none⟩ = some (.int .i64 z0) from hr3 0 _ rfl)
                have E1 := hid (show w.cell? ⟨b5, o5 + 2, none⟩ = some (.int .i64 z1) from hr3 2 _ rfl)
                clear hr3 hb5 HE
                simp only [nNode] at l0 u0
                have HFN := hid (show fndL (clL p) wDrift = some (4, clV 137 p) from rfl)
                go_wp2_with (first
                            | (go_at_call 137; refine (tl_drift p g b5 o5 2 xc w3 T3.out.pc gd z0 z1 z0.toNat (by omega) (by omega) ((B3.out.cell (p := ⟨b5, o5, none⟩) HB3.out).trans E0.out) ((B3.out.cell (p := ⟨b5, o5 + 2, none⟩) HB3.out).trans E1.out) (by omega) (by have := T3.out.v 7 _ rfl; rwa [Nat.zero_add] at this) (by have := (T3.out.dt z0.toNat (by omega)).2; rwa [Nat.zero_add] at this) (by have := (T3.out.dt z0.toNat (by omega)).1; rwa [Nat.zero_add] at this)).mono ?_; rintro e w4 ⟨rfl, h4⟩; have T4 := hid (show Tm w1 w4 g gd gp gl p B gr (tellS c ⟨wDrift, [(z0, false), (z1, false)], xb⟩) (s16 gd gp gl) from by rw [h4]; exact (T3.out.set_d (j := z0.toNat) z1 (by omega)).drew); clear h4)
                            | (refine wp_lk (r := .tuple #[.func (.func 137) #[] #[.pointer (some ⟨p, 0, none⟩)], .bool true]) rfl (.tmp 37) (.tmp 39) rfl Tryz.underlying157 .nilFunc rfl rfl T3.out.mp (by kernel_rfl) (by rw [HFN.out]; rfl) ?_)
                            | (refine Sh.wp_sv smS (x := ⟨wDrift, some ⟨b5, o5, none⟩, 2, xc, xb, xB, xm, xk⟩) rfl (.tmp 7) (.tmp 35) rfl rfl (by rfl) q2 ?_; intro w3 q3 b3 o3 s3; have V3 := hid q3; have B13 := hid (B2.out.trans (b3.mono (Nat.le_refl _))); have T3 := hid (TM.out.below B13.out); have B3 := hid (RV.out.2.trans (T3.out.bel.mono RV.out.2.size)); have c0 : w3.cell? ⟨wr.heap.size, 0, none⟩ = some (.string (strB wDrift)) := V3.out.cell (j := 0) rfl; have c1 : w3.cell? ⟨wr.heap.size, 1, none⟩ = some (.slice (some ⟨b5, o5, none⟩) 2 xc) := V3.out.cell (j := 1) rfl; clear q2 q3 b3 o3 s3)
                            | (refine Sh.wp_al smS rfl rfl ?_; intro w2 q2 b2 s2; have B2 := hid b2; clear b2 s2)
                            | (refine Sh.wp_ld smS rfl (.tmp 34) rfl rfl r1 ?_))
                go_roundw
                case rel => exact ⟨i + 1, nx, _, by go_num, by omega, T4.out, HF2.out, HNX.out.1, HNX.out.2, CN.out.1, CN.out.2⟩
                case measure => simp [intOf]; omega

              ·
                obtain ⟨z0, z1, z2, rfl, ⟨l0, u0⟩, ⟨l1, u1⟩, -⟩ := one3 HE four_delay
                obtain ⟨b5, o5, rfl, hb5, hr3⟩ := HNS.out.2 (by have := HNS.out.1; simp at this; omega)
                have hxn : xn = 3 := by have := HNS.out.1; simpa using this.symm
                subst hxn
                have HB3 := hid (HK.out _ hb5)
                have E0 := hid (show w.cell? ⟨b5, o5, none⟩ = some (.int .i64 z0) from hr3 0 _ rfl)
                have E1 := hid (show w.cell? ⟨b5, o5 + 2, none⟩ = some (.int .i64 z1) from hr3 2 _ rfl)
                have E2 := hid (show w.cell? ⟨b5, o5 + 4, none⟩ = some (.int .i64 z2) from hr3 4 _ rfl)
                clear hr3 hb5 HE
                simp only [nNode] at l0 u0 l1 u1
                obtain ⟨gk, hgk⟩ : ∃ gk, gr[z0.toNat]? = some gk := ⟨_, List.getElem?_eq_getElem (by have := TM.out.ll; omega)⟩
                have HGK := hid hgk
                clear hgk
                have HFN := hid (show fndL (clL p) wDelay = some (5, clV 138 p) from rfl)
                go_wp2_with (first
                            | (go_at_call 138; refine (tl_delay p g b5 o5 3 xc w3 T3.out.pc gl gk z0 z1 z2 z0.toNat z1.toNat (by omega) (by omega) (by omega) (by omega) ((B3.out.cell (p := ⟨b5, o5, none⟩) HB3.out).trans E0.out) ((B3.out.cell (p := ⟨b5, o5 + 2, none⟩) HB3.out).trans E1.out) ((B3.out.cell (p := ⟨b5, o5 + 4, none⟩) HB3.out).trans E2.out) (by omega) (by have := T3.out.v 9 _ rfl; rwa [Nat.zero_add] at this) (T3.out.l _ _ HGK.out) (by have := (T3.out.rt gk (List.mem_of_getElem? HGK.out) z1.toNat (by omega)).2; rwa [Nat.zero_add] at this) (by have := (T3.out.rt gk (List.mem_of_getElem? HGK.out) z1.toNat (by omega)).1; rwa [Nat.zero_add] at this)).mono ?_; rintro e w4 ⟨rfl, h4⟩; have T4 := hid (show Tm w1 w4 g gd gp gl p B gr (tellS c ⟨wDelay, [(z0, false), (z1, false), (z2, true)], xb⟩) (s16 gd gp gl) from by rw [h4]; exact (T3.out.set_l (i := z0.toNat) (j := z1.toNat) z2 HGK.out (by omega)).drew); clear h4)
                            | (refine wp_lk (r := .tuple #[.func (.func 138) #[] #[.pointer (some ⟨p, 0, none⟩)], .bool true]) rfl (.tmp 37) (.tmp 39) rfl Tryz.underlying157 .nilFunc rfl rfl T3.out.mp (by kernel_rfl) (by rw [HFN.out]; rfl) ?_)
                            | (refine Sh.wp_sv smS (x := ⟨wDelay, some ⟨b5, o5, none⟩, 3, xc, xb, xB, xm, xk⟩) rfl (.tmp 7) (.tmp 35) rfl rfl (by rfl) q2 ?_; intro w3 q3 b3 o3 s3; have V3 := hid q3; have B13 := hid (B2.out.trans (b3.mono (Nat.le_refl _))); have T3 := hid (TM.out.below B13.out); have B3 := hid (RV.out.2.trans (T3.out.bel.mono RV.out.2.size)); have c0 : w3.cell? ⟨wr.heap.size, 0, none⟩ = some (.string (strB wDelay)) := V3.out.cell (j := 0) rfl; have c1 : w3.cell? ⟨wr.heap.size, 1, none⟩ = some (.slice (some ⟨b5, o5, none⟩) 3 xc) := V3.out.cell (j := 1) rfl; clear q2 q3 b3 o3 s3)
                            | (refine Sh.wp_al smS rfl rfl ?_; intro w2 q2 b2 s2; have B2 := hid b2; clear b2 s2)
                            | (refine Sh.wp_ld smS rfl (.tmp 34) rfl rfl r1 ?_))
                go_roundw
                case rel => exact ⟨i + 1, nx, _, by go_num, by omega, T4.out, HF2.out, HNX.out.1, HNX.out.2, CN.out.1, CN.out.2⟩
                case measure => simp [intOf]; omega

              ·
                obtain ⟨z0, z1, rfl, l0, u0, -⟩ := one2 HE four_power
                obtain ⟨b5, o5, rfl, hb5, hr3⟩ := HNS.out.2 (by have := HNS.out.1; simp at this; omega)
                have hxn : xn = 2 := by have := HNS.out.1; simpa using this.symm
                subst hxn
                have HB3 := hid (HK.out _ hb5)
                have E0 := hid (show w.cell? ⟨b5, o5, none⟩ = some (.int .i64 z0) from hr3 0 _ rfl)
                have E1 := hid (show w.cell? ⟨b5, o5 + 2, none⟩ = some (.int .i64 z1) from hr3 2 _ rfl)
                clear hr3 hb5 HE
                simp only [nNode] at l0 u0
                have HFN := hid (show fndL (clL p) wPower = some (6, clV 139 p) from rfl)
                go_wp2_with (first
                            | (go_at_call 139; refine (tl_power p g b5 o5 2 xc w3 T3.out.pc gp z0 z1 z0.toNat (by omega) (by omega) ((B3.out.cell (p := ⟨b5, o5, none⟩) HB3.out).trans E0.out) ((B3.out.cell (p := ⟨b5, o5 + 2, none⟩) HB3.out).trans E1.out) (by omega) (by have := T3.out.v 8 _ rfl; rwa [Nat.zero_add] at this) (by have := (T3.out.pt z0.toNat (by omega)).2; rwa [Nat.zero_add] at this) (by have := (T3.out.pt z0.toNat (by omega)).1; rwa [Nat.zero_add] at this)).mono ?_; rintro e w4 ⟨rfl, h4⟩; have T4 := hid (show Tm w1 w4 g gd gp gl p B gr (tellS c ⟨wPower, [(z0, false), (z1, true)], xb⟩) (s16 gd gp gl) from by rw [h4]; exact (T3.out.set_p (j := z0.toNat) z1 (by omega)).drew); clear h4)
                            | (refine wp_lk (r := .tuple #[.func (.func 139) #[] #[.pointer (some ⟨p, 0, none⟩)], .bool true]) rfl (.tmp 37) (.tmp 39) rfl Tryz.underlying157 .nilFunc rfl rfl T3.out.mp (by kernel_rfl) (by rw [HFN.out]; rfl) ?_)
                            | (refine Sh.wp_sv smS (x := ⟨wPower, some ⟨b5, o5, none⟩, 2, xc, xb, xB, xm, xk⟩) rfl (.tmp 7) (.tmp 35) rfl rfl (by rfl) q2 ?_; intro w3 q3 b3 o3 s3; have V3 := hid q3; have B13 := hid (B2.out.trans (b3.mono (Nat.le_refl _))); have T3 := hid (TM.out.below B13.out); have B3 := hid (RV.out.2.trans (T3.out.bel.mono RV.out.2.size)); have c0 : w3.cell? ⟨wr.heap.size, 0, none⟩ = some (.string (strB wPower)) := V3.out.cell (j := 0) rfl; have c1 : w3.cell? ⟨wr.heap.size, 1, none⟩ = some (.slice (some ⟨b5, o5, none⟩) 2 xc) := V3.out.cell (j := 1) rfl; clear q2 q3 b3 o3 s3)
                            | (refine Sh.wp_al smS rfl rfl ?_; intro w2 q2 b2 s2; have B2 := hid b2; clear b2 s2)
                            | (refine Sh.wp_ld smS rfl (.tmp 34) rfl rfl r1 ?_))
                go_roundw
                case rel => exact ⟨i + 1, nx, _, by go_num, by omega, T4.out, HF2.out, HNX.out.1, HNX.out.2, CN.out.1, CN.out.2⟩
                case measure => simp [intOf]; omega

              ·
                obtain ⟨z0, rfl, l0, u0, -⟩ := one1 HE four_guard
                obtain ⟨b5, o5, rfl, hb5, hr3⟩ := HNS.out.2 (by have := HNS.out.1; simp at this; omega)
                have hxn : xn = 1 := by have := HNS.out.1; simpa using this.symm
                subst hxn
                have HB3 := hid (HK.out _ hb5)
                have E0 := hid (show w.cell? ⟨b5, o5, none⟩ = some (.int .i64 z0) from hr3 0 _ rfl)
                clear hr3 hb5 HE
                have HFN := hid (show fndL (clL p) wGuard = some (7, clV 140 p) from rfl)
                go_wp2_with (first
                            | (go_at_call 140; refine (tl_guard p g b5 o5 1 xc w3 T3.out.pc z0 _ ((B3.out.cell (p := ⟨b5, o5, none⟩) HB3.out).trans E0.out) (by omega) (by have := T3.out.v 10 _ rfl; rwa [Nat.zero_add] at this) (by have := (T3.out.vt 10 (by omega)).2; rwa [Nat.zero_add] at this)).mono ?_; rintro e w4 ⟨rfl, h4⟩; have T4 := hid (show Tm w1 w4 g gd gp gl p B gr (tellS c ⟨wGuard, [(z0, false)], xb⟩) (s16 gd gp gl) from by rw [h4]; exact (T3.out.set_v (j := 10) (v := .bool (decide (z0 = 1))) (c' := tellS c ⟨wGuard, [(z0, false)], xb⟩) (by omega) rfl rfl rfl rfl).drew); clear h4)
                            | (refine wp_lk (r := .tuple #[.func (.func 140) #[] #[.pointer (some ⟨p, 0, none⟩)], .bool true]) rfl (.tmp 37) (.tmp 39) rfl Tryz.underlying157 .nilFunc rfl rfl T3.out.mp (by kernel_rfl) (by rw [HFN.out]; rfl) ?_)
                            | (refine Sh.wp_sv smS (x := ⟨wGuard, some ⟨b5, o5, none⟩, 1, xc, xb, xB, xm, xk⟩) rfl (.tmp 7) (.tmp 35) rfl rfl (by rfl) q2 ?_; intro w3 q3 b3 o3 s3; have V3 := hid q3; have B13 := hid (B2.out.trans (b3.mono (Nat.le_refl _))); have T3 := hid (TM.out.below B13.out); have B3 := hid (RV.out.2.trans (T3.out.bel.mono RV.out.2.size)); have c0 : w3.cell? ⟨wr.heap.size, 0, none⟩ = some (.string (strB wGuard)) := V3.out.cell (j := 0) rfl; have c1 : w3.cell? ⟨wr.heap.size, 1, none⟩ = some (.slice (some ⟨b5, o5, none⟩) 1 xc) := V3.out.cell (j := 1) rfl; clear q2 q3 b3 o3 s3)
                            | (refine Sh.wp_al smS rfl rfl ?_; intro w2 q2 b2 s2; have B2 := hid b2; clear b2 s2)
                            | (refine Sh.wp_ld smS rfl (.tmp 34) rfl rfl r1 ?_))
                go_roundw
                case rel => exact ⟨i + 1, nx, _, by go_num, by omega, T4.out, HF2.out, HNX.out.1, HNX.out.2, CN.out.1, CN.out.2⟩
                case measure => simp [intOf]; omega
          · obtain rfl : i = n := by omega
            have hr := htr.done (by rw [HX.out.1]; exact Nat.le_refl _)
            subst hr
            obtain rfl : c = T := HFO.out
            obtain ⟨m, hm⟩ : ∃ m : Nat, c.nodes = (m : Int) := ⟨c.nodes.toNat, by have := CN.out.1; omega⟩
            have hm16 : (m : Int) ≤ 16 := by have := CN.out.2; omega
            have hm16n : m ≤ 16 := by omega
            have HM := hid hm
            have d0 : wr.cell? ⟨g, 0, none⟩ = some (.int .i64 (m : Int)) := by have := TM.out.v 0 _ rfl; rwa [Nat.zero_add, hm] at this
            have d7 : wr.cell? ⟨g, 7, none⟩ = some (.slice (some ⟨gd, 0, none⟩) 16 16) := by have := TM.out.v 7 _ rfl; rwa [Nat.zero_add] at this
            have d8 : wr.cell? ⟨g, 8, none⟩ = some (.slice (some ⟨gp, 0, none⟩) 16 16) := by have := TM.out.v 8 _ rfl; rwa [Nat.zero_add] at this
            have d9 : wr.cell? ⟨g, 9, none⟩ = some (.slice (some ⟨gl, 0, none⟩) 16 16) := by have := TM.out.v 9 _ rfl; rwa [Nat.zero_add] at this
            have f7 : wr.frozen? ⟨g, 7, none⟩ = false := by have := (TM.out.vt 7 (by omega)).2; rwa [Nat.zero_add] at this
            have f8 : wr.frozen? ⟨g, 8, none⟩ = false := by have := (TM.out.vt 8 (by omega)).2; rwa [Nat.zero_add] at this
            have f9 : wr.frozen? ⟨g, 9, none⟩ = false := by have := (TM.out.vt 9 (by omega)).2; rwa [Nat.zero_add] at this
            have FZ0 := hid ((((TM.out.set_v (j := 7) (v := .slice (some ⟨gd, 0, none⟩) m 16) (c' := c) (s' := ⟨some ⟨gd, 0, none⟩, m, 16, some ⟨gp, 0, none⟩, 16, 16, some ⟨gl, 0, none⟩, 16, 16⟩) (by omega) rfl rfl rfl rfl).set_v (j := 8) (v := .slice (some ⟨gp, 0, none⟩) m 16) (c' := c) (s' := ⟨some ⟨gd, 0, none⟩, m, 16, some ⟨gp, 0, none⟩, m, 16, some ⟨gl, 0, none⟩, 16, 16⟩) (by omega) rfl rfl rfl rfl).set_v (j := 9) (v := .slice (some ⟨gl, 0, none⟩) m 16) (c' := c) (s' := ⟨some ⟨gd, 0, none⟩, m, 16, some ⟨gp, 0, none⟩, m, 16, some ⟨gl, 0, none⟩, m, 16⟩) (by omega) rfl rfl rfl rfl).drew.fz (m := m))
            have HTQ := hid (show toldF f.topL = c.cut from by unfold toldF; rw [HTT.out])
            clear htr hone HFO CN TM hm HTT HTR H1 HL HX HK
            go_wp2
            go_cut [3, 10] (fun v3 v10 wx => v3 = .pointer (some ⟨g, 0, none⟩) ∧ v10 = .int .i64 (m : Int) ∧ Hid (Fz w1 wx g gd gp gl gr c ⟨some ⟨gd, 0, none⟩, m, 16, some ⟨gp, 0, none⟩, m, 16, some ⟨gl, 0, none⟩, m, 16⟩ m 0))
            case first =>
              go_region
              all_goals
                go_wp2
                go_meet
                exact ⟨rfl, rfl, FZ0⟩
            case rest =>
              obtain ⟨rfl, rfl, FZ⟩ := hcut
              clear d0 d7 d8 d9 f7 f8 f9 FZ0
              have d9 : wc.cell? ⟨g, 9, none⟩ = some (.slice (some ⟨gl, 0, none⟩) m 16) := by have := FZ.out.v 9 _ rfl; rwa [Nat.zero_add] at this
              go_wp2
              go_loopw [70] (fun v70 wr => ∃ j : Nat, v70 = .int .i64 (j : Nat) ∧ j ≤ m ∧ Fz w1 wr g gd gp gl gr c ⟨some ⟨gd, 0, none⟩, m, 16, some ⟨gp, 0, none⟩, m, 16, some ⟨gl, 0, none⟩, m, 16⟩ m j) (fun v70 _ => m - (intOf v70).toNat)
              case atStart => exact ⟨0, rfl, Nat.zero_le _, FZ.out⟩
              case round =>
                obtain ⟨j, rfl, hj, hfz⟩ := hrel
                have FZ := hid hfz
                clear hfz d9
                by_cases hjm : j < m
                · obtain ⟨gk, hgk⟩ : ∃ gk, gr[j]? = some gk := ⟨_, List.getElem?_eq_getElem (by omega)⟩
                  have c1 : wr.cell? ⟨gl, j, none⟩ = some (.slice (some ⟨gk, 0, none⟩) 16 16) := by have := FZ.out.l j gk hgk; rwa [if_neg (by omega)] at this
                  have d9 : wr.cell? ⟨g, 9, none⟩ = some (.slice (some ⟨gl, 0, none⟩) m 16) := by have := FZ.out.v 9 _ rfl; rwa [Nat.zero_add] at this
                  have fl : wr.frozen? ⟨gl, j, none⟩ = false := by have := (FZ.out.lt j (by omega)).2; rwa [Nat.zero_add] at this
                  have FS := hid (FZ.out.step hgk)
                  have hjm2 : (j : Int) < (m : Int) := by omega
                  clear hgk
                  go_wp2
                  go_region
                  all_goals
                    go_wp2
                    go_roundw
                    case rel => exact ⟨j + 1, by go_num, by omega, FS.out⟩
                    case measure => simp [intOf]; omega
                · obtain rfl : j = m := by omega
                  have RW := hid (RV.out.1.keep FZ.out.bel)
                  have BZ := hid (RV.out.2.trans (FZ.out.bel.mono RV.out.2.size))
                  have CM := hid (FZ.out.done hm16n HM.out)
                  go_wp2_with (first
                    | (refine Sv.wp_sv cfS (x := (c, ⟨some ⟨gd, 0, none⟩, j, 16, some ⟨gp, 0, none⟩, j, 16, some ⟨gl, 0, none⟩, j, 16⟩)) rfl (.tmp 2) (.tmp 83) rfl rfl (by rfl) RW.out ?_; intro w9 q9 b9 o9 s9)
                    | (refine Sv.wp_ld cfS (x := (c, ⟨some ⟨gd, 0, none⟩, j, 16, some ⟨gp, 0, none⟩, j, 16, some ⟨gl, 0, none⟩, j, 16⟩)) rfl (.tmp 3) rfl rfl FZ.out.v ?_))
                  have hlow : ∀ b, w1.heap.size ≤ b ∧ b < wr.heap.size → w9.heap[b]? = wr.heap[b]? := fun b hb => o9 b (by have := RV.out.1.lt; omega)
                  have CM9 := (CM.out.keep hlow)
                  refine bodyPost_ret (results_c Tryz.results57 _ rfl q9) rfl ⟨_, by rw [HTQ.out]; rfl, ?_, BZ.out.trans b9⟩
                  rw [HTQ.out]
                  exact CM9.mono fun b hb => ⟨by have := RV.out.2.size; omega, by rw [s9.out]; exact hb.2⟩
end Go.Proofs.YtpkoboohnbkpoaaGreatDoor
