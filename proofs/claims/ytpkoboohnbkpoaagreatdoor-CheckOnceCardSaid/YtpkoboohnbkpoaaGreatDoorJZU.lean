/-
  A world of statements in memory (Cm): its variable, the lists of its drifts and powers, the lists of its delays; what setting one number of it does; and worlds that are told (CfM). No condition but what each head says.
-/
import Derived.Test.YtpkoboohnbkpoaaGreatDoorJZT
namespace Go.Proofs.YtpkoboohnbkpoaaGreatDoor
open Go Go.RowKit Go.Maps

def iv (l : List Int) : List Value := l.map (Value.int .i64)
theorem iv_len (l : List Int) : (iv l).length = l.length := List.length_map _
theorem iv_set (l : List Int) (j : Nat) (z : Int) : (iv l).set j (.int .i64 z) = iv (l.set j z) := by unfold iv; rw [List.map_set]
/-- Where the three lists of a world lie. -/
structure Cs where
  dA : Option Addr
  dn : Nat
  dc : Nat
  pA : Option Addr
  pn : Nat
  pc : Nat
  lA : Option Addr
  ln : Nat
  lc : Nat
def cfV (c : Cf) (s : Cs) : List Value := [.int .i64 c.nodes, .int .i64 c.slot, .int .i64 c.lead, .int .i64 c.frame, .int .i64 c.window, .int .i64 c.tick, .int .i64 c.horizon, .slice s.dA s.dn s.dc, .slice s.pA s.pn s.pc, .slice s.lA s.ln s.lc, .bool c.guard]
theorem range_put {w : World} {k j : Nat} {vs : List Value} {v : Value} (h : w.rangeAt k 0 vs) (ht : w.there k 0 vs.length) (hj : j < vs.length) : (w.setCell ⟨k, j, none⟩ v).rangeAt k 0 (vs.set j v) := fun i u hi => by
  by_cases hij : i = j
  · subst hij
    rw [List.getElem?_set_self hj] at hi
    cases hi
    have := World.rangeAt_setCells_same w k i [v] (fun q hq => by
      obtain rfl : q = 0 := by simp at hq; exact hq
      have := ht i hj
      rwa [Nat.zero_add] at this) 0 v rfl
    rwa [Nat.zero_add]
  · rw [List.getElem?_set_ne (fun e => hij e.symm)] at hi
    have h0 : w.rangeAt k i [u] := fun q y hq => by
      obtain rfl : q = 0 := by have := (List.getElem?_eq_some_iff.1 hq).1; simp at this; exact this
      have h2 := h i u hi
      rw [Nat.zero_add] at h2
      simp at hq
      rw [← hq]
      exact h2
    have := World.rangeAt_setCells_apart h0 k j [v] (by simp only [List.length_singleton]; omega) 0 u rfl
    rwa [Nat.zero_add]
theorem there_put {w : World} {k k2 n j : Nat} {v : Value} (h : w.there k 0 n) : (w.setCell ⟨k2, j, none⟩ v).there k 0 n := World.there_setCells h k2 j [v]
theorem set_oth {w : World} {k j : Nat} {v : Value} : Below k w (w.setCell ⟨k, j, none⟩ v) ∧ Oth k w (w.setCell ⟨k, j, none⟩ v) := setCells_oth k [v] j w

/-- While it is told: block g is its variable, gd and gp its drifts and powers, gl its delays' lists, gr these; p holds g, and B is the map of what tells; all from w0's end on. -/
structure Tm (w0 w : World) (g gd gp gl p B : Nat) (gr : List Nat) (c : Cf) (s : Cs) : Prop where
  v : w.rangeAt g 0 (cfV c s)
  vt : w.there g 0 11
  d : w.rangeAt gd 0 (iv c.drift)
  dl : c.drift.length = 16
  dt : w.there gd 0 16
  p_ : w.rangeAt gp 0 (iv c.power)
  pl : c.power.length = 16
  pt : w.there gp 0 16
  l : ∀ (i k : Nat), gr[i]? = some k → w.cell? ⟨gl, i, none⟩ = some (.slice (some ⟨k, 0, none⟩) 16 16)
  ll : gr.length = 16
  lt : w.there gl 0 16
  r : ∀ (i k : Nat) (row : List Int), gr[i]? = some k → c.delay[i]? = some row → w.rangeAt k 0 (iv row) ∧ row.length = 16
  rt : ∀ k ∈ gr, w.there k 0 16
  rl : c.delay.length = 16
  pc : w.cell? ⟨p, 0, none⟩ = some (.pointer (some ⟨g, 0, none⟩))
  mp : Mp w B (esL (clL p)) 8
  ne : (g :: gd :: gp :: gl :: p :: B :: gr).Nodup
  ge : ∀ k ∈ (g :: gd :: gp :: gl :: p :: B :: gr), w0.heap.size ≤ k
  bel : Below w0.heap.size w0 w
section
variable {w0 w w' : World} {g gd gp gl p B : Nat} {gr : List Nat} {c : Cf} {s : Cs}
theorem Tm.lts (h : Tm w0 w g gd gp gl p B gr c s) : g < w.heap.size ∧ gd < w.heap.size ∧ gp < w.heap.size ∧ gl < w.heap.size ∧ p < w.heap.size ∧ B < w.heap.size ∧ ∀ k ∈ gr, k < w.heap.size := by
  have hth : ∀ {k n}, w.there k 0 (n + 1) → k < w.heap.size := fun {k n} h => by
    obtain ⟨u, hu⟩ := Option.isSome_iff_exists.1 (h 0 (by omega)).1
    exact World.block_lt_of_cell? w _ hu
  exact ⟨hth h.vt, hth h.dt, hth h.pt, hth h.lt, World.block_lt_of_cell? w _ h.pc, h.mp.lt, fun k hk => hth (h.rt k hk)⟩
theorem Tm.below (h : Tm w0 w g gd gp gl p B gr c s) (hb : Below w.heap.size w w') : Tm w0 w' g gd gp gl p B gr c s := by
  obtain ⟨h1, h2, h3, h4, h5, h6, h7⟩ := h.lts
  exact ⟨range_keep h.v h1 hb, there_keep h.vt h1 hb, range_keep h.d h2 hb, h.dl, there_keep h.dt h2 hb, range_keep h.p_ h3 hb, h.pl, there_keep h.pt h3 hb,
    fun i k hk => (hb.cell (p := ⟨gl, i, none⟩) h4).trans (h.l i k hk), h.ll, there_keep h.lt h4 hb, fun i k row hk hr => ⟨range_keep (h.r i k row hk hr).1 (h7 k (List.mem_of_getElem? hk)) hb, (h.r i k row hk hr).2⟩, fun k hk => there_keep (h.rt k hk) (h7 k hk) hb, h.rl,
    (hb.cell (p := ⟨p, 0, none⟩) h5).trans h.pc, h.mp.keep hb, h.ne, h.ge, h.bel.trans (hb.mono h.bel.size)⟩
/-- A number of the world's own variable is set. -/
theorem Tm.set_v (h : Tm w0 w g gd gp gl p B gr c s) {j : Nat} {v : Value} {c' : Cf} {s' : Cs} (hj : j < 11) (he : (cfV c s).set j v = cfV c' s') (h1 : c'.drift = c.drift) (h2 : c'.power = c.power) (h3 : c'.delay = c.delay) : Tm w0 (w.setCell ⟨g, j, none⟩ v) g gd gp gl p B gr c' s' := by
  have ho := (set_oth (w := w) (k := g) (j := j) (v := v)).2
  have hb := (set_oth (w := w) (k := g) (j := j) (v := v)).1
  have hne := h.ne
  simp only [List.nodup_cons, List.mem_cons, not_or] at hne
  obtain ⟨⟨n1, n2, n3, n4, n5, n6⟩, _⟩ := hne
  have ngr : ∀ k ∈ gr, k ≠ g := fun k hk e => n6 (e ▸ hk)
  exact ⟨by rw [← he]; exact range_put h.v h.vt hj, there_put h.vt, by rw [h1]; exact range_other h.d (Ne.symm n1) ho, by rw [h1]; exact h.dl, there_put h.dt, by rw [h2]; exact range_other h.p_ (Ne.symm n2) ho, by rw [h2]; exact h.pl, there_put h.pt,
    fun i k hk => (World.cell?_of_block (a := ⟨gl, i, none⟩) (ho gl (Ne.symm n3))).trans (h.l i k hk), h.ll, there_put h.lt, fun i k row hk hr => by rw [h3] at hr; exact ⟨range_other (h.r i k row hk hr).1 (ngr k (List.mem_of_getElem? hk)) ho, (h.r i k row hk hr).2⟩, fun k hk => there_put (h.rt k hk), by rw [h3]; exact h.rl,
    (World.cell?_of_block (a := ⟨p, 0, none⟩) (ho p (Ne.symm n4))).trans h.pc, (ho B (Ne.symm n5)).trans h.mp, h.ne, h.ge, h.bel.trans (hb.mono (h.ge g (by simp)))⟩
/-- A drift is set. -/
theorem Tm.set_d (h : Tm w0 w g gd gp gl p B gr c s) {j : Nat} (z : Int) (hj : j < 16) : Tm w0 (w.setCell ⟨gd, j, none⟩ (.int .i64 z)) g gd gp gl p B gr { c with drift := c.drift.set j z } s := by
  have ho := (set_oth (w := w) (k := gd) (j := j) (v := .int .i64 z)).2
  have hb := (set_oth (w := w) (k := gd) (j := j) (v := .int .i64 z)).1
  have hne := h.ne
  simp only [List.nodup_cons, List.mem_cons, not_or] at hne
  obtain ⟨⟨m1, _⟩, ⟨n2, n3, n4, n5, n6⟩, _⟩ := hne
  have ngr : ∀ k ∈ gr, k ≠ gd := fun k hk e => n6 (e ▸ hk)
  exact ⟨range_other h.v m1 ho, there_put h.vt, by rw [← iv_set]; exact range_put h.d (by rw [iv_len, h.dl]; exact h.dt) (by rw [iv_len, h.dl]; exact hj), by simpa using h.dl, there_put h.dt, range_other h.p_ (Ne.symm n2) ho, h.pl, there_put h.pt,
    fun i k hk => (World.cell?_of_block (a := ⟨gl, i, none⟩) (ho gl (Ne.symm n3))).trans (h.l i k hk), h.ll, there_put h.lt, fun i k row hk hr => ⟨range_other (h.r i k row hk hr).1 (ngr k (List.mem_of_getElem? hk)) ho, (h.r i k row hk hr).2⟩, fun k hk => there_put (h.rt k hk), h.rl,
    (World.cell?_of_block (a := ⟨p, 0, none⟩) (ho p (Ne.symm n4))).trans h.pc, (ho B (Ne.symm n5)).trans h.mp, h.ne, h.ge, h.bel.trans (hb.mono (h.ge gd (by simp)))⟩
/-- A power is set. -/
theorem Tm.set_p (h : Tm w0 w g gd gp gl p B gr c s) {j : Nat} (z : Int) (hj : j < 16) : Tm w0 (w.setCell ⟨gp, j, none⟩ (.int .i64 z)) g gd gp gl p B gr { c with power := c.power.set j z } s := by
  have ho := (set_oth (w := w) (k := gp) (j := j) (v := .int .i64 z)).2
  have hb := (set_oth (w := w) (k := gp) (j := j) (v := .int .i64 z)).1
  have hne := h.ne
  simp only [List.nodup_cons, List.mem_cons, not_or] at hne
  obtain ⟨⟨_, m1, _⟩, ⟨m2, _⟩, ⟨n3, n4, n5, n6⟩, _⟩ := hne
  have ngr : ∀ k ∈ gr, k ≠ gp := fun k hk e => n6 (e ▸ hk)
  exact ⟨range_other h.v m1 ho, there_put h.vt, range_other h.d m2 ho, h.dl, there_put h.dt, by rw [← iv_set]; exact range_put h.p_ (by rw [iv_len, h.pl]; exact h.pt) (by rw [iv_len, h.pl]; exact hj), by simpa using h.pl, there_put h.pt,
    fun i k hk => (World.cell?_of_block (a := ⟨gl, i, none⟩) (ho gl (Ne.symm n3))).trans (h.l i k hk), h.ll, there_put h.lt, fun i k row hk hr => ⟨range_other (h.r i k row hk hr).1 (ngr k (List.mem_of_getElem? hk)) ho, (h.r i k row hk hr).2⟩, fun k hk => there_put (h.rt k hk), h.rl,
    (World.cell?_of_block (a := ⟨p, 0, none⟩) (ho p (Ne.symm n4))).trans h.pc, (ho B (Ne.symm n5)).trans h.mp, h.ne, h.ge, h.bel.trans (hb.mono (h.ge gp (by simp)))⟩
/-- A delay is set. -/
theorem Tm.set_l (h : Tm w0 w g gd gp gl p B gr c s) {i j k : Nat} (z : Int) (hi : gr[i]? = some k) (hj : j < 16) : Tm w0 (w.setCell ⟨k, j, none⟩ (.int .i64 z)) g gd gp gl p B gr { c with delay := c.delay.modify i (fun r => r.set j z) } s := by
  have ho := (set_oth (w := w) (k := k) (j := j) (v := .int .i64 z)).2
  have hb := (set_oth (w := w) (k := k) (j := j) (v := .int .i64 z)).1
  have hk := List.mem_of_getElem? hi
  have hne := h.ne
  simp only [List.nodup_cons, List.mem_cons, not_or] at hne
  obtain ⟨⟨_, _, _, _, _, m1⟩, ⟨_, _, _, _, m2⟩, ⟨_, _, _, m3⟩, ⟨_, _, m4⟩, ⟨_, m5⟩, m6, hnd⟩ := hne
  have hx : ∀ {q : Nat}, q ∉ gr → q ≠ k := fun hq e => hq (e ▸ hk)
  refine ⟨range_other h.v (hx m1) ho, there_put h.vt, range_other h.d (hx m2) ho, h.dl, there_put h.dt, range_other h.p_ (hx m3) ho, h.pl, there_put h.pt,
    fun i k hk => (World.cell?_of_block (a := ⟨gl, i, none⟩) (ho gl (hx m4))).trans (h.l i k hk), h.ll, there_put h.lt, fun a q row hq hr => ?_, fun q hq => there_put (h.rt q hq), by simpa using h.rl,
    (World.cell?_of_block (a := ⟨p, 0, none⟩) (ho p (hx m5))).trans h.pc, (ho B (hx m6)).trans h.mp, h.ne, h.ge, h.bel.trans (hb.mono (h.ge k (by simp [hk])))⟩
  simp only [List.getElem?_modify] at hr
  obtain ⟨row0, h0, rfl⟩ : ∃ r0, c.delay[a]? = some r0 ∧ (if i = a then r0.set j z else r0) = row := by
    cases hd : c.delay[a]? with
    | none => rw [hd] at hr; cases hr
    | some r0 => rw [hd] at hr; exact ⟨r0, rfl, Option.some.inj hr⟩
  obtain ⟨h1, h2⟩ := h.r a q row0 hq h0
  by_cases e : i = a
  · subst e
    rw [hi] at hq
    cases hq
    rw [if_pos rfl]
    exact ⟨by rw [← iv_set]; exact range_put h1 (by rw [iv_len, h2]; exact h.rt _ hk) (by rw [iv_len, h2]; exact hj), by simpa using h2⟩
  · rw [if_neg e]
    refine ⟨range_other h1 (fun e2 => ?_) ho, h2⟩
    subst e2
    exact e ((List.getElem?_inj (List.getElem?_eq_some_iff.1 hi).1 hnd).1 (hi.trans hq.symm))
end

/-! ### Worlds that are told -/
/-- A slice of n numbers at A reads as zs, and lies in a block of which P holds. -/
def RwI (w : World) (P : Nat → Prop) (A : Option Addr) (n : Nat) (zs : List Int) : Prop := zs.length = n ∧ (0 < n → ∃ b o, A = some ⟨b, o, none⟩ ∧ P b ∧ w.rangeAt b o (iv zs))
def rsV (r : Option Addr × Nat × Nat) : Value := .slice r.1 r.2.1 r.2.2
/-- A slice of n slices of numbers. -/
def RwL (w : World) (P : Nat → Prop) (A : Option Addr) (n : Nat) (rows : List (List Int)) : Prop := ∃ rs : List (Option Addr × Nat × Nat), rs.length = n ∧ rows.length = n ∧ (0 < n → ∃ b o, A = some ⟨b, o, none⟩ ∧ P b ∧ w.rangeAt b o (rs.map rsV)) ∧ ∀ (i : Nat) r row, rs[i]? = some r → rows[i]? = some row → RwI w P r.1 r.2.1 row
structure CfM (w : World) (P : Nat → Prop) (c : Cf) (s : Cs) : Prop where
  d : RwI w P s.dA s.dn c.drift
  p : RwI w P s.pA s.pn c.power
  l : RwL w P s.lA s.ln c.delay
section
variable {w w' : World} {P : Nat → Prop} {A : Option Addr} {n : Nat} {zs : List Int} {rows : List (List Int)} {c : Cf} {s : Cs}
theorem RwI.keep (h : RwI w P A n zs) (hk : ∀ b, P b → w'.heap[b]? = w.heap[b]?) : RwI w' P A n zs := ⟨h.1, fun hn => by
  obtain ⟨b, o, e, hb, hr⟩ := h.2 hn
  exact ⟨b, o, e, hb, fun j u hu => (World.cell?_of_block (a := ⟨b, o + j, none⟩) (hk b hb)).trans (hr j u hu)⟩⟩
theorem RwL.keep (h : RwL w P A n rows) (hk : ∀ b, P b → w'.heap[b]? = w.heap[b]?) : RwL w' P A n rows := by
  obtain ⟨rs, h1, h2, h3, h4⟩ := h
  refine ⟨rs, h1, h2, fun hn => ?_, fun i r row hr hw => (h4 i r row hr hw).keep hk⟩
  obtain ⟨b, o, e, hb, hr⟩ := h3 hn
  exact ⟨b, o, e, hb, fun j u hu => (World.cell?_of_block (a := ⟨b, o + j, none⟩) (hk b hb)).trans (hr j u hu)⟩
theorem CfM.keep (h : CfM w P c s) (hk : ∀ b, P b → w'.heap[b]? = w.heap[b]?) : CfM w' P c s := ⟨h.d.keep hk, h.p.keep hk, h.l.keep hk⟩
theorem CfM.below (h : CfM w P c s) (hb : Below w.heap.size w w') (hP : ∀ b, P b → b < w.heap.size) : CfM w' P c s := h.keep fun b hp => hb.block b (hP b hp)
end
/-- While the lists of delays are cut. -/
structure Fz (w0 w : World) (g gd gp gl : Nat) (gr : List Nat) (c : Cf) (s : Cs) (m j : Nat) : Prop where
  v : w.rangeAt g 0 (cfV c s)
  d : w.rangeAt gd 0 (iv c.drift)
  dl : c.drift.length = 16
  p_ : w.rangeAt gp 0 (iv c.power)
  pl : c.power.length = 16
  l : ∀ (i k : Nat), gr[i]? = some k → w.cell? ⟨gl, i, none⟩ = some (.slice (some ⟨k, 0, none⟩) (if i < j then m else 16) 16)
  ll : gr.length = 16
  lt : w.there gl 0 16
  r : ∀ (i k : Nat) (row : List Int), gr[i]? = some k → c.delay[i]? = some row → w.rangeAt k 0 (iv row) ∧ row.length = 16
  rl : c.delay.length = 16
  ne : gl ≠ g ∧ gl ≠ gd ∧ gl ≠ gp ∧ gl ∉ gr
  ge : ∀ k ∈ (g :: gd :: gp :: gl :: gr), w0.heap.size ≤ k ∧ k < w.heap.size
  bel : Below w0.heap.size w0 w
theorem Tm.fz {w0 w : World} {g gd gp gl p B m : Nat} {gr : List Nat} {c : Cf} {s : Cs} (h : Tm w0 w g gd gp gl p B gr c s) : Fz w0 w g gd gp gl gr c s m 0 := by
  have hne := h.ne
  simp only [List.nodup_cons, List.mem_cons, not_or] at hne
  obtain ⟨⟨_, _, n3, _⟩, ⟨_, n6, _⟩, ⟨n9, _⟩, ⟨_, _, n10⟩, _⟩ := hne
  obtain ⟨l1, l2, l3, l4, _, _, l7⟩ := h.lts
  refine ⟨h.v, h.d, h.dl, h.p_, h.pl, fun i k hk => by simpa using h.l i k hk, h.ll, h.lt, h.r, h.rl, ⟨Ne.symm n3, Ne.symm n6, Ne.symm n9, n10⟩, fun k hk => ⟨h.ge k ?_, ?_⟩, h.bel⟩
  · simp only [List.mem_cons] at hk ⊢
    rcases hk with h | h | h | h | h <;> simp [h]
  · simp only [List.mem_cons] at hk
    rcases hk with rfl | rfl | rfl | rfl | h
    · exact l1
    · exact l2
    · exact l3
    · exact l4
    · exact l7 _ h
theorem Fz.step {w0 w : World} {g gd gp gl m j k : Nat} {gr : List Nat} {c : Cf} {s : Cs} (h : Fz w0 w g gd gp gl gr c s m j) (hk : gr[j]? = some k) : Fz w0 (w.setCell ⟨gl, j, none⟩ (.slice (some ⟨k, 0, none⟩) m 16)).drew g gd gp gl gr c s m (j + 1) := by
  have ho := (set_oth (w := w) (k := gl) (j := j) (v := .slice (some ⟨k, 0, none⟩) m 16)).2
  have hb := (set_oth (w := w) (k := gl) (j := j) (v := .slice (some ⟨k, 0, none⟩) m 16)).1
  obtain ⟨n1, n2, n3, n4⟩ := h.ne
  have hj : j < 16 := by have := (List.getElem?_eq_some_iff.1 hk).1; have := h.ll; omega
  have R : ∀ {q : Nat} {vs : List Value}, gl ≠ q → w.rangeAt q 0 vs → ((w.setCell ⟨gl, j, none⟩ (.slice (some ⟨k, 0, none⟩) m 16)).drew).rangeAt q 0 vs := fun hq hr => by
    have := range_other hr (Ne.symm hq) ho
    simpa using this
  have hj2 := h.lt j hj
  rw [Nat.zero_add] at hj2
  refine ⟨R n1 h.v, R n2 h.d, h.dl, R n3 h.p_, h.pl, fun i q hq => ?_, h.ll, by have := there_put (k2 := gl) (j := j) (v := .slice (some ⟨k, 0, none⟩) m 16) h.lt; simpa using this, fun i q row hq hr => ⟨R (fun e => n4 (e ▸ List.mem_of_getElem? hq)) (h.r i q row hq hr).1, (h.r i q row hq hr).2⟩, h.rl, h.ne, fun q hq => ?_, h.bel.trans ((hb.mono (h.ge gl (by simp)).1)).drew⟩
  · show (w.setCell ⟨gl, j, none⟩ (.slice (some ⟨k, 0, none⟩) m 16)).cell? ⟨gl, i, none⟩ = _
    by_cases e : i = j
    · subst e
      rw [hk] at hq
      cases hq
      have := World.rangeAt_setCells_same w gl i [.slice (some ⟨k, 0, none⟩) m 16] (fun a ha => by
        obtain rfl : a = 0 := by simp at ha; exact ha
        exact hj2) 0 _ rfl
      rw [if_pos (by omega)]
      exact this
    · have h0 : w.rangeAt gl i [.slice (some ⟨q, 0, none⟩) (if i < j then m else 16) 16] := fun a y ha => by
        obtain rfl : a = 0 := by have := (List.getElem?_eq_some_iff.1 ha).1; simp at this; exact this
        simp at ha
        rw [← ha]
        exact h.l i q hq
      have := World.rangeAt_setCells_apart h0 gl j [.slice (some ⟨k, 0, none⟩) m 16] (by simp only [List.length_singleton]; omega) 0 _ rfl
      have e2 : (if i < j + 1 then m else 16) = (if i < j then m else 16) := by
        by_cases h1 : i < j
        · rw [if_pos h1, if_pos (by omega)]
        · rw [if_neg h1, if_neg (by omega)]
      rw [e2]
      exact this
  · have := h.ge q hq
    have hsz : ((w.setCell ⟨gl, j, none⟩ (.slice (some ⟨k, 0, none⟩) m 16)).drew).heap.size = w.heap.size := by simp
    rw [hsz]
    exact this
theorem iv_take {w : World} {k m : Nat} {zs : List Int} (h : w.rangeAt k 0 (iv zs)) : w.rangeAt k 0 (iv (zs.take m)) := fun j u hu => by
  refine h j u ?_
  unfold iv at hu ⊢
  rw [List.getElem?_map] at hu ⊢
  rw [List.getElem?_take] at hu
  split at hu
  · exact hu
  · cases hu
/-- The world is cut. -/
theorem Fz.done {w0 w : World} {g gd gp gl m : Nat} {gr : List Nat} {c : Cf} {s : Cs} (h : Fz w0 w g gd gp gl gr c s m m) (hm : m ≤ 16) (hc : c.nodes = (m : Int)) : CfM w (fun k => w0.heap.size ≤ k ∧ k < w.heap.size) c.cut ⟨some ⟨gd, 0, none⟩, m, 16, some ⟨gp, 0, none⟩, m, 16, some ⟨gl, 0, none⟩, m, 16⟩ := by
  have hcm : c.nodes.toNat = m := by omega
  have hG : ∀ k ∈ (g :: gd :: gp :: gl :: gr), w0.heap.size ≤ k ∧ k < w.heap.size := h.ge
  refine ⟨⟨?_, fun _ => ⟨gd, 0, rfl, hG gd (by simp), ?_⟩⟩, ⟨?_, fun _ => ⟨gp, 0, rfl, hG gp (by simp), ?_⟩⟩, ⟨(gr.take m).map (fun k => (some ⟨k, 0, none⟩, m, 16)), ?_, ?_, fun _ => ⟨gl, 0, rfl, hG gl (by simp), ?_⟩, ?_⟩⟩
  · simp only [Cf.cut, hcm, List.length_take, h.dl]; omega
  · simp only [Cf.cut, hcm]; exact iv_take h.d
  · simp only [Cf.cut, hcm, List.length_take, h.pl]; omega
  · simp only [Cf.cut, hcm]; exact iv_take h.p_
  · simp only [List.length_map, List.length_take, h.ll]; omega
  · simp only [Cf.cut, hcm, List.length_map, List.length_take, h.rl]; omega
  · intro j u hu
    rw [List.getElem?_map, List.getElem?_map, List.getElem?_take] at hu
    split at hu
    · rename_i hjm
      cases hq : gr[j]? with
      | none => rw [hq] at hu; cases hu
      | some k =>
        rw [hq] at hu
        have := h.l j k hq
        rw [if_pos hjm] at this
        rw [Nat.zero_add, this, ← hu]
        rfl
    · cases hu
  · intro i r row hr hw
    rw [List.getElem?_map, List.getElem?_take] at hr
    simp only [Cf.cut, hcm] at hw
    rw [List.getElem?_map, List.getElem?_take] at hw
    split at hr
    · rename_i him
      rw [if_pos him] at hw
      cases hq : gr[i]? with
      | none => rw [hq] at hr; cases hr
      | some k =>
        cases hq2 : c.delay[i]? with
        | none => rw [hq2] at hw; cases hw
        | some row0 =>
          rw [hq] at hr
          rw [hq2] at hw
          cases hr
          cases hw
          obtain ⟨h1, h2⟩ := h.r i k row0 hq hq2
          exact ⟨by simp only [List.length_take, h2]; omega, fun _ => ⟨k, 0, rfl, hG k (by simp [List.mem_of_getElem? hq]), iv_take h1⟩⟩
    · cases hr
end Go.Proofs.YtpkoboohnbkpoaaGreatDoor
