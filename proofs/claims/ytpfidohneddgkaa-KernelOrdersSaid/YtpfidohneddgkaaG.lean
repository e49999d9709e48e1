/-
  make, copy and append of slices of things: what they do to slices of the call's own. No condition but what each head says.
-/
import Derived.Test.YtpfidohneddgkaaD
import Derived.Laws.IdiomCopy
namespace Go.Proofs.Ytpfidohneddgkaa
open Go Go.RowKit

def zr : It := (0, 0, 0, 0, 0, 0)
theorem flat_rep (n : Nat) : flat (List.replicate n zr) = (madeCells (itv zr).cells (n * 6)).toList := by
  have e : (itv zr).cells = (enc zr).toArray := rfl
  rw [e]
  refine List.ext_getElem? fun j => ?_
  by_cases hj : j < n * 6
  · have h1 := flat_at (List.replicate n zr) (j / 6) (j % 6) (by simp; omega) (by omega)
    rw [show j / 6 * 6 + j % 6 = j by omega] at h1
    rw [h1]
    have h2 : nth (List.replicate n zr) (j / 6) = zr := nth_of (by rw [List.getElem?_replicate, if_pos (by omega)])
    rw [h2]
    have h3 : j % 6 < (enc zr).length := by rw [enc_len]; omega
    rw [List.getElem?_eq_getElem h3]
    simp only [madeCells, Array.toList_map, Array.toList_range, List.getElem?_map, List.getElem?_range hj, Option.map_some]
    have h4 : (enc zr).toArray.size = 6 := rfl
    rw [h4, getElem!_pos (enc zr).toArray (j % 6) (by rw [h4]; omega)]
    simp
  · rw [List.getElem?_eq_none (by rw [flat_len]; simp; omega), List.getElem?_eq_none (by simp [madeCells]; omega)]

section
variable {w : World} {base n : Nat}
/-- 'make([]api.Item, n)'. -/
theorem wpList_mk {ops : Array Oper} {rest : List Oper} {o : Oper} {a : Act} {Q : Exit → Act → World → Prop} (hg : o.guard = none) (l c : Operand) (hop : o.op = Op.makeSlice 22 l c)
    (L : Int) (n : Nat) (hl : a.eval l = .int .i64 L) (hc : a.eval c = .int .i64 L) (hL : L = (n : Int)) (hn : n ≤ 100000) (base : Nat) (hb : base ≤ w.heap.size)
    (hK : ∀ w', Own w' base (some ⟨w.heap.size, 0, none⟩) n n (List.replicate n zr) → Below w.heap.size w w' → wpList Try.prog ops Q rest (a.put o.dst (.slice (some ⟨w.heap.size, 0, none⟩) n n)) w') :
    wpList Try.prog ops Q (o :: rest) a w := by
  obtain ⟨i, hi0, hi1, hi2, hi3⟩ := info_parts info24
  refine wpList_make_full (P := Try.prog) w hg l c 22 hop base 36 i (itv zr) 6 Try.underlying22 hi0 hi1 hi2 .i64 .i64 L L n hl hc hL hL (by rw [hi3]; omega) (by unfold maxLen; omega) hb fun w' h1 h2 => hK w' ?_ ?_
  · unfold Own; rw [flat_rep]; exact h1
  · exact (Below.refl _ _).grown h2 (Nat.le_refl _) (fun k hk => by cases hk)
theorem setL_front (l ys : List It) (h : ys.length ≤ l.length) : setL (flat l) 0 (flat ys) = flat (ys ++ l.drop ys.length) := by
  have e : flat l = [] ++ (flat (l.take ys.length) ++ flat (l.drop ys.length)) := by rw [← flat_app, List.take_append_drop]; rfl
  rw [e, flat_app]
  exact setL_mid (flat ys) [] _ _ (by rw [flat_len, flat_len, List.length_take, Nat.min_eq_left h])
theorem run_cp {g c m c2 B : Nat} {A : Option Addr} {l xs : List It} (ty : TypeId) (h : Own w base (some ⟨g, 0, none⟩) n c l) (hr : Row w B A m xs) (k : Nat) (hk : k = min m n) :
    ∃ w', (Builtin.copy_ #[22, 22] ty #[.slice (some ⟨g, 0, none⟩) n c, .slice A m c2]).run Try.prog w = .ok (goInt k) w' ∧ Own w' base (some ⟨g, 0, none⟩) n c (xs.take k ++ l.drop k) ∧ Below base w w' := by
  obtain ⟨i, hi0, hi1, hi2, hi3⟩ := info_parts info24
  have hu := run_underlying (P := Try.prog) Try.underlying22
  by_cases h0 : 0 < k
  · obtain ⟨b, o, rfl, _, hc⟩ := hr.2 (by omega)
    have htk : (flat (xs.take k)).length = k * 6 := by rw [flat_len, List.length_take, hr.1]; omega
    have hcell : ∀ j u, (flat (xs.take k))[j]? = some u → (flat xs)[j]? = some u := fun j u hj => by
      have e : flat xs = flat (xs.take k) ++ flat (xs.drop k) := by rw [← flat_app, List.take_append_drop]
      rw [e, List.getElem?_append_left (List.getElem?_eq_some_iff.1 hj).1]; exact hj
    have hl := run_loadCells_list (P := Try.prog) w ⟨b, o, none⟩ (flat (xs.take k)) (fun j u hj => by rw [plain_add]; exact hc j u (hcell j u hj))
    have hst := run_storeCells_cells (P := Try.prog) g 0 (flat (xs.take k)) 0 w (fun j hj => by
        have e := World.ownsRow.cellAt h (0 + 0 + j) (by omega)
        rw [e, List.getElem?_eq_getElem (by have := h.1; omega)]; rfl) (fun j _ => World.ownsRow.frozenAt h _) (flat_one _)
    obtain ⟨h1, h2⟩ := ownsRow_setCells (flat (xs.take k)) 0 w _ h h.ge.1
    rw [setL_front l _ (by rw [List.length_take, hr.1, h.len]; omega), List.length_take, hr.1, Nat.min_eq_left (by omega)] at h1
    rw [htk] at hl
    have hk' : Nat.min m n = k := hk.symm
    refine ⟨_, ?_, h1, h2⟩
    simp [Builtin.copy_, hu, Builtin.lenOf, Builtin.firstCells, sizeOf, typeInfo, hi0, hi2, hk', hl, hst]
  · obtain rfl : k = 0 := by omega
    refine ⟨w, ?_, by simpa using h, Below.refl _ _⟩
    have hl : ∀ (x : Addr), (loadCells x 0).run Try.prog w = .ok #[] w := fun x => by simpa using run_loadCells_list (P := Try.prog) w x [] (by simp)
    have hk' : Nat.min m n = 0 := hk.symm
    cases A <;> simp [Builtin.copy_, hu, Builtin.lenOf, Builtin.firstCells, sizeOf, typeInfo, hi0, hk', storeCells, hl]
/-- 'copy(l, h)'. -/
theorem wpList_cp {ops : Array Oper} {rest : List Oper} {o : Oper} {a : Act} {Q : Exit → Act → World → Prop} (hgd : o.guard = none) (d s : Operand)
    (ho : o.op = .call { callee := .builtin .copy, args := #[d, s], argTypes := #[22, 22] }) {g c m c2 B : Nat} {A : Option Addr} {l xs : List It} (hd : a.eval d = .slice (some ⟨g, 0, none⟩) n c) (hs : a.eval s = .slice A m c2)
    (h : Own w base (some ⟨g, 0, none⟩) n c l) (hr : Row w B A m xs) (k : Nat) (hk : k = min m n)
    (hK : ∀ w', Own w' base (some ⟨g, 0, none⟩) n c (xs.take k ++ l.drop k) → Below base w w' → wpList Try.prog ops Q rest (a.put o.dst (goInt k)) w') : wpList Try.prog ops Q (o :: rest) a w := by
  refine wpList_plain hgd fun K hK' => ?_
  obtain ⟨w', hrun, h1, h2⟩ := run_cp (c2 := c2) o.type h hr k hk
  unfold Oper.wp
  simp [execOp, ho, resolve, invoke, builtin, hd, hs, hrun, Result.andThen]
  exact hK' _ _ (hK w' h1 h2)

set_option maxRecDepth 100000 in
/-- append onto a slice of the call's own. -/
theorem run_app (ty : TypeId) {A A2 : Option Addr} {c m c2 B : Nat} {l xs : List It} (hown : Own w base A n c l) (hr : Row w B A2 m xs) (hb : n + m ≤ 1000000000) (hbase : base ≤ w.heap.size) :
    ∃ A' c' w', (Builtin.append_ #[22, 22] ty #[.slice A n c, .slice A2 m c2]).run Try.prog w = .ok (.slice A' (n + m) c') w' ∧ Own w' base A' (n + m) c' (l ++ xs) ∧ Below base w w' := by
  obtain ⟨i, hi0, hi1, hi2, hi3⟩ := info_parts info24
  have hfin : ∀ v' w', w'.ownsRow base 36 6 v' (n + m) (flat l ++ flat xs) → w.grownBy w' (Value.ownBlock (.slice A n c)) → ∃ A' c', v' = .slice A' (n + m) c' ∧ Own w' base A' (n + m) c' (l ++ xs) ∧ Below base w w' := by
    intro v' w' h2 h3
    have hbel : Below base w w' := (Below.refl _ _).grown h3 hbase (fun k hk => (World.ownsRow.lt hown k hk).1)
    rw [← flat_app] at h2
    rcases h2.2 with ⟨rfl, h0⟩ | ⟨g, cap, cur, rfl, r⟩
    · rw [h0] at h2 ⊢; exact ⟨none, 0, rfl, h2, hbel⟩
    · exact ⟨_, _, rfl, h2, hbel⟩
  have hle : n + m ≤ maxLen := by unfold maxLen; omega
  by_cases h0 : 0 < m
  · obtain ⟨b, o, rfl, _, hc⟩ := hr.2 h0
    obtain ⟨v', w', hrun, h2, h3, _, _⟩ := run_append_own_at (P := Try.prog) w base 22 ty 36 i (itv zr) 6 48 Try.underlying22 hi0 hi1 hi2 hi3 rfl (by omega) (.slice A n c) n (flat l) hown ⟨b, o, none⟩ m c2 (flat xs) (by rw [flat_len, hr.1]) (fun j u hu => by rw [plain_add]; exact hc j u hu) (flat_one xs) hle (by omega) hbase
    obtain ⟨A', c', rfl, r⟩ := hfin v' w' h2 h3
    exact ⟨A', c', w', hrun, r⟩
  · obtain rfl : m = 0 := by omega
    obtain rfl : xs = [] := List.eq_nil_of_length_eq_zero hr.1
    rcases A2 with _ | ⟨b, o, s⟩
    · refine ⟨A, c, w, ?_, by simpa [Own] using hown, Below.refl _ _⟩
      rcases hown.2 with ⟨hv, rfl⟩ | ⟨g, cap, cur, hv, _, _, hnc, _⟩
      · injection hv with h1 h2 h3; subst h1; subst h3
        simp [Builtin.append_, run_underlying Try.underlying22, sizeOf, typeInfo, hi0, Builtin.lenOf, Builtin.firstCells]
      · injection hv with h1 h2 h3; subst h1; subst h3
        simp [Builtin.append_, run_underlying Try.underlying22, sizeOf, typeInfo, hi0, Builtin.lenOf, Builtin.firstCells, hnc, storeCells]
    · obtain ⟨v', w', hrun, h2, h3, _, _⟩ := run_append_own_at (P := Try.prog) w base 22 ty 36 i (itv zr) 6 48 Try.underlying22 hi0 hi1 hi2 hi3 rfl (by omega) (.slice A n c) n (flat l) hown ⟨b, o, s⟩ 0 c2 [] rfl (fun j u hu => by simp at hu) (fun u hu => by simp at hu) hle (by omega) hbase
      obtain ⟨A', c', rfl, r⟩ := hfin v' w' (by simpa [flat] using h2) h3
      exact ⟨A', c', w', hrun, r⟩
theorem wpList_ap {ops : Array Oper} {rest : List Oper} {o : Oper} {a : Act} {Q : Exit → Act → World → Prop} (hgd : o.guard = none) (s x : Operand)
    (ho : o.op = .call { callee := .builtin .append, args := #[s, x], argTypes := #[22, 22] }) {A A2 : Option Addr} {c m c2 B : Nat} {l xs : List It} (hs : a.eval s = .slice A n c) (hown : Own w base A n c l) (hx : a.eval x = .slice A2 m c2) (hr : Row w B A2 m xs)
    (hb : n + m ≤ 1000000000) (hbase : base ≤ w.heap.size)
    (h : ∀ A' c' w', Own w' base A' (n + m) c' (l ++ xs) → Below base w w' → wpList Try.prog ops Q rest (a.put o.dst (.slice A' (n + m) c')) w') : wpList Try.prog ops Q (o :: rest) a w := by
  obtain ⟨A', c', w', hrun, h2, h3⟩ := run_app (c2 := c2) o.type hown hr hb hbase
  refine wpList_plain hgd fun _ hK => ?_
  unfold Oper.wp execOp
  simp only [ho, resolve, invoke, builtin, Sem.run_bind, Sem.run_pure, Result.andThen_ok, List.map_toArray, List.map_cons, List.map_nil, hs, hx, hrun]
  exact hK _ _ (h A' c' w' h2 h3)
end
end Go.Proofs.Ytpfidohneddgkaa
