/-
  Words for memory: what parse.Flat made, while numbers of it are written to.
-/
import Derived.Test.YtkfnkieljcipnaaGreatDoorZXJ
import Derived.Test.YtkfnkieljcipnaaGreatDoorK7
namespace Go.Proofs.YtkfnkieljcipnaaGreatDoor
open Go Go.RowKit Go.Joins

/-- A slice of n numbers in a block of its own between lo and hi, which may be written to. -/
def NF2 (w : World) (lo hi : Nat) (rb : Option Nat) (A : Option Addr) (n : Nat) : Prop := 0 < n → ∃ b, A = some ⟨b, 0, none⟩ ∧ lo ≤ b ∧ b < hi ∧ some b ≠ rb ∧ (∀ o, w.frozen? ⟨b, o, none⟩ = false) ∧ ∀ i, i < n → ∃ z, w.cell? ⟨b, i * 2, none⟩ = some (.int .i64 z)
theorem NF2.keep {w w' : World} {lo hi n : Nat} {rb : Option Nat} {A : Option Addr} (h : NF2 w lo hi rb A n) (hk : ∀ k, lo ≤ k → k < hi → w'.heap[k]? = w.heap[k]?) : NF2 w' lo hi rb A n := fun hn => by
  obtain ⟨b, e, h1, h2, h3, h4, h5⟩ := h hn
  refine ⟨b, e, h1, h2, h3, fun o => ?_, fun i hi => ?_⟩
  · rw [World.frozen?_of_block (a := ⟨b, o, none⟩) (hk b h1 h2)]; exact h4 o
  · obtain ⟨z, hz⟩ := h5 i hi
    exact ⟨z, (World.cell?_of_block (a := ⟨b, i * 2, none⟩) (hk b h1 h2)).trans hz⟩
theorem NF2.put {w : World} {lo hi n : Nat} {rb : Option Nat} {A : Option Addr} (h : NF2 w lo hi rb A n) (b o : Nat) (z : Int) : NF2 (w.setCell ⟨b, o, none⟩ (.int .i64 z)) lo hi rb A n := fun hn => by
  obtain ⟨b', e, h1, h2, h3, h4, h5⟩ := h hn
  refine ⟨b', e, h1, h2, h3, fun o => by rw [World.frozen?_setCell]; exact h4 o, fun i hi => ?_⟩
  obtain ⟨z', hz⟩ := h5 i hi
  by_cases he : (⟨b', i * 2, none⟩ : Addr) = ⟨b, o, none⟩
  · rw [he] at hz ⊢
    exact ⟨z, World.cell?_setCell_same _ _ _ hz⟩
  · exact ⟨z', by rw [World.cell?_setCell_other _ _ _ _ (fun e => he e.symm)]; exact hz⟩
/-- The numbers of each statement of what a call told. -/
theorem tr_nf {w : World} {lo hi : Nat} {rb : Option Nat} (hh : w.heap.size = hi) : ∀ (f : Fo) (xs : List Sm), Tr w (fun k => lo ≤ k ∧ k < w.heap.size ∧ some k ≠ rb) f xs → AllFr w lo xs → f.okN → ∀ x ∈ xs, NF2 w lo hi rb x.nA x.nn ∧ x.nn ≤ 4611686018427387904
  | .nil, _, rfl, _, _, x, hx => by cases hx
  | .cons _ ns _ _ nx, _, ⟨x0, xs', rfl, _, _, h3, _, h6⟩, hf, hok, x, hx => by
    rcases List.mem_cons.1 hx with rfl | hx
    · refine ⟨fun hn => ?_, by have := h3.1; have := hok.1; omega⟩
      obtain ⟨b, cur, e, h1, h2, _⟩ := hf x (List.mem_cons_self ..) hn
      obtain ⟨b', o, e', hp, hc⟩ := h3.2 hn
      rw [e] at e'
      injection e' with e'
      injection e' with e1 e2
      subst e1 e2
      refine ⟨b, e, h1, by rw [← hh]; exact hp.2.1, hp.2.2, fun o => by simp [World.frozen?, h2], fun i hi => ?_⟩
      have hl : i < ns.length := by rw [h3.1]; exact hi
      have hu := Sh.flat_at nmS ns i 0 hl (by show 0 < 2; omega)
      exact ⟨_, by have := hc (i * nmS.N + 0) _ hu; rwa [Nat.zero_add] at this⟩
    · exact tr_nf hh nx xs' h6 (fun y hy => hf y (List.mem_cons_of_mem _ hy)) hok.2.2 x hx
/-- Numbers between lo and hi have been written to, what lies below lo and from hi on stands. -/
structure Mv (lo hi : Nat) (A : Option Addr) (n c : Nat) (xs : List Sm) (w wr : World) : Prop where
  lh : lo ≤ hi
  hs : hi ≤ w.heap.size
  bel : Below lo w wr
  far : ∀ k, hi ≤ k → k < w.heap.size → wr.heap[k]? = w.heap[k]?
  ow : smS.Ow wr lo A n c xs
  nf : ∀ x ∈ xs, NF2 wr lo hi (Value.ownBlock (.slice A n c)) x.nA x.nn
section
variable {lo hi n c : Nat} {A : Option Addr} {xs : List Sm} {w wr w2 : World}
theorem Mv.below (h : Mv lo hi A n c xs w wr) (hb : Below wr.heap.size wr w2) : Mv lo hi A n c xs w w2 := by
  have h1 := h.lh; have h2 := h.hs; have h3 := h.bel.size
  exact ⟨h.lh, h.hs, h.bel.trans (hb.mono (by omega)), fun k hk hk2 => (hb.block k (by omega)).trans (h.far k hk hk2), h.ow.below hb, fun x hx => (h.nf x hx).keep fun k _ hk => hb.block k (by omega)⟩
theorem Mv.same (h : Mv lo hi A n c xs w wr) : Mv lo hi A n c xs wr wr := ⟨h.lh, Nat.le_trans h.hs h.bel.size, Below.refl _ _, fun _ _ _ => rfl, h.ow, h.nf⟩
theorem Mv.trans (h : Mv lo hi A n c xs w wr) (h2 : Mv lo hi A n c xs wr w2) : Mv lo hi A n c xs w w2 :=
  ⟨h.lh, h.hs, h.bel.trans h2.bel, fun k hk hk2 => (h2.far k hk (Nat.lt_of_lt_of_le hk2 h.bel.size)).trans (h.far k hk hk2), h2.ow, h2.nf⟩
theorem Mv.put (h : Mv lo hi A n c xs w wr) {b : Nat} (h1 : lo ≤ b) (h2 : b < hi) (h3 : some b ≠ Value.ownBlock (.slice A n c)) (o : Nat) (z : Int) : Mv lo hi A n c xs w (wr.setCell ⟨b, o, none⟩ (.int .i64 z)) := by
  refine ⟨h.lh, h.hs, h.bel.setCell (p := ⟨b, o, none⟩) h1 _, fun k hk hk2 => (Below.heap_setCell _ _ _ _ (by show k ≠ b; omega)).trans (h.far k hk hk2), ⟨h.ow.1, ?_⟩, fun x hx => (h.nf x hx).put b o z⟩
  rcases h.ow.2 with h0 | ⟨g, cap, cur, hv, hg, hh, r⟩
  · exact .inl h0
  · refine .inr ⟨g, cap, cur, hv, hg, (Below.heap_setCell _ _ _ _ ?_).trans hh, r⟩
    intro e
    rw [hv] at h3
    exact h3 (by subst e; rfl)
end
end Go.Proofs.YtkfnkieljcipnaaGreatDoor
