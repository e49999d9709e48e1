/-
  Words for memory: a slice appended whole to one of the call's own; two forests put together so. No condition but what each head says.
-/
import Derived.Test.YtinjhnflnfpoeaaGreatDoorQB
namespace Go.Proofs.YtinjhnflnfpoeaaGreatDoor
open Go Go.RowKit Go.Joins

theorem run_append_none {P : Program} {w : World} (base : Nat) (t ty e : TypeId) (i : TypeInfo) (size : Nat) (ht : P.underlying t = some (.slice e)) (hi : P.info? e = some i)
    (v : Value) (n : Nat) (xs : List Value) (hown : w.ownsRow base e size v n xs) (c : Nat) :
    (Builtin.append_ #[t, t] ty #[v, .slice none 0 c]).run P w = .ok v w := by
  rcases hown.2 with ⟨rfl, rfl⟩ | ⟨g, cap, cur, rfl, _, _, hnc, _⟩
  · simp [Builtin.append_, run_underlying ht, sizeOf, typeInfo, hi, Builtin.lenOf, Builtin.firstCells]
  · simp [Builtin.append_, run_underlying ht, sizeOf, typeInfo, hi, Builtin.lenOf, Builtin.firstCells, hnc, storeCells]
section
variable {P : Program} {α : Type} (σ : Sh P α) {w : World} {ops : Array Oper} {rest : List Oper} {o : Oper} {a : Act} {Q : Exit → Act → World → Prop}
theorem Sh.run_app {base n c m c2 : Nat} {A A2 : Option Addr} {l ys : List α} (ty : TypeId) (hown : σ.Ow w base A n c l) (hr : σ.Rw w w.heap.size A2 m ys) (hn : n + m ≤ 1000000) (hbase : base ≤ w.heap.size) :
    ∃ A' c' w', (Builtin.append_ #[σ.S, σ.S] ty #[.slice A n c, .slice A2 m c2]).run P w = .ok (.slice A' (n + m) c') w' ∧ σ.Ow w' base A' (n + m) c' (l ++ ys) ∧ w.grownBy w' (Value.ownBlock (.slice A n c)) ∧
      (Value.ownBlock (.slice A' (n + m) c') = Value.ownBlock (.slice A n c) ∨ Value.ownBlock (.slice A' (n + m) c') = some w.heap.size) := by
  obtain ⟨i, hi0, hi1, hi2, hi3⟩ := info_parts σ.info
  have hsm := σ.small
  have hmul : (n + m) * σ.by_ ≤ (n + m) * 10000 := Nat.mul_le_mul_left _ hsm
  cases A2 with
  | none =>
    obtain rfl : m = 0 := by
      rcases Nat.eq_zero_or_pos m with h | h
      · exact h
      · obtain ⟨b, o, e, _⟩ := hr.2 h; cases e
    obtain rfl : ys = [] := List.eq_nil_of_length_eq_zero hr.1
    refine ⟨A, c, w, run_append_none base σ.S ty σ.T i σ.N σ.undS hi0 _ n _ hown c2, by simpa using hown, ⟨rfl, rfl, rfl, Nat.le_refl _, fun _ _ _ => rfl⟩, .inl rfl⟩
  | some ad =>
    have hcells : ∀ j u, (σ.flat ys)[j]? = some u → w.cell? (ad.add j) = some u := by
      intro j u hu
      rcases Nat.eq_zero_or_pos m with h | h
      · obtain rfl : ys = [] := List.eq_nil_of_length_eq_zero (by rw [hr.1, h])
        cases hu
      · obtain ⟨b, o, e, _, hc⟩ := hr.2 h
        cases e
        rw [plain_add]
        exact hc j u hu
    obtain ⟨v', w', hrun, h2, h3, h4, h5⟩ := run_append_own_at (P := P) w base σ.S ty σ.T i (.agg (σ.enc σ.z).toArray) σ.N σ.by_ σ.undS hi0 hi1 hi2 hi3 (by simp [Value.cells, σ.len]) σ.pos (.slice A n c) n (σ.flat l) hown ad m c2 (σ.flat ys) (by rw [Sh.flat_len, hr.1])
      hcells (σ.flat_one ys) (by unfold maxLen; omega) (by omega) hbase
    have e1 : σ.flat l ++ σ.flat ys = σ.flat (l ++ ys) := (Sh.flat_app σ l ys).symm
    rw [e1] at h2
    have h6 := h2.2
    rcases h6 with ⟨rfl, h0⟩ | ⟨g, cap, cur, rfl, r⟩
    · exact ⟨none, 0, w', by rw [hrun, h0], by rw [h0] at h2 ⊢; exact h2, h3, by rw [h0]; exact h5⟩
    · exact ⟨_, _, w', hrun, h2, h3, h5⟩
theorem Sh.wp_app {base n c m c2 : Nat} {A A2 : Option Addr} {l ys : List α} (hw : Region.wanted o (yielded ops a.tmps) = true) (s e : Operand) (ho : o.op = .call { callee := .builtin .append, args := #[s, e], argTypes := #[σ.S, σ.S] })
    (hs : a.eval s = .slice A n c) (hown : σ.Ow w base A n c l) (hx : a.eval e = .slice A2 m c2) (hr : σ.Rw w w.heap.size A2 m ys) (hn : n + m ≤ 1000000) (hbase : base ≤ w.heap.size)
    (h : ∀ A' c' w', σ.Ow w' base A' (n + m) c' (l ++ ys) → w.grownBy w' (Value.ownBlock (.slice A n c)) → (Value.ownBlock (.slice A' (n + m) c') = Value.ownBlock (.slice A n c) ∨ Value.ownBlock (.slice A' (n + m) c') = some w.heap.size) → wpList P ops Q rest (a.put o.dst (.slice A' (n + m) c')) w') : wpList P ops Q (o :: rest) a w :=
  wpList_step fun K hK => by
    rw [if_pos hw]
    obtain ⟨A', c', w', hrun, h2, h3, h4⟩ := σ.run_app o.type hown hr hn hbase
    unfold Oper.wp execOp
    simp only [ho, resolve, invoke, builtin, Sem.run_bind, Sem.run_pure, Result.andThen_ok, List.map_toArray, List.map_cons, List.map_nil, hs, hx]
    rw [hrun]
    exact hK _ _ (h A' c' w' h2 h3 h4)
end
/-- Two forests put together in a new slice: the second append. -/
theorem two_app {w0 w1 w2 : World} {K K2 : Nat → Prop} {A' : Option Addr} {n1 c1 n' c' : Nat} {f g : Fo} {xs ys : List Sm} {B : Option Addr}
    (hx : Tr w0 K f xs) (hy : Tr w0 K2 g ys) (g1 : w0.grownBy w1 none) (o1 : smS.Ow w1 w0.heap.size B n1 c1 xs) (g2 : w1.grownBy w2 (Value.ownBlock (.slice B n1 c1))) (o2 : smS.Ow w2 w0.heap.size A' n' c' (xs ++ ys)) :
    TrS w2 (fun k => k < w2.heap.size) A' n' (f.app g) ∧ Below w0.heap.size w0 w2 := by
  have hb1 : Below w0.heap.size w0 w1 := (Below.refl _ _).grown g1 (Nat.le_refl _) (fun k hk => by cases hk)
  have hb : Below w0.heap.size w0 w2 := hb1.trans (Sh.grown_below smS o1 hb1.size g2)
  exact ⟨⟨xs ++ ys, o2.rowP.mono fun _ h _ => h.2.1, (((hx.keep fun b _ hs => hb.block b hs).mono (P' := fun k => k < w2.heap.size) fun _ _ h => h).app ((hy.keep fun b _ hs => hb.block b hs).mono fun _ _ h => h))⟩, hb⟩
end Go.Proofs.YtinjhnflnfpoeaaGreatDoor
