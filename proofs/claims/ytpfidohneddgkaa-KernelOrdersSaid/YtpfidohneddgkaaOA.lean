/-
  Words for the statement KernelOrders: its map of things as a table of a list's things, by their numbers; its loops over it. No condition but what each head says.
-/
import Derived.Test.YtpfidohneddgkaaTI
import Derived.Maps.RangeWalk
namespace Go.Proofs.Ytpfidohneddgkaa
open Go Go.RowKit Go.Maps

/-- How a thing reads. -/
def itD (z : It) : DataW Unit := .agg [.lit (.int .i64 z.1), .lit (.int .i64 z.2.1), .lit (.int .u64 z.2.2.1), .lit (.int .i64 z.2.2.2.1), .lit (.int .i64 z.2.2.2.2.1), .lit (.int .u64 z.2.2.2.2.2)]
def itemElem : Value → Option (DataW Unit × List MemPlace)
  | .agg ⟨[.int .i64 a, .int .i64 b, .int .u64 c, .int .i64 d, .int .i64 e, .int .u64 f]⟩ => some (itD (a, b, c, d, e, f), [])
  | _ => none
theorem itemElem_mk (z : It) : itemElem (itv z) = some (itD z, []) := rfl
theorem itemElem_inv {v : Value} {y : DataW Unit × List MemPlace} (h : itemElem v = some y) : ∃ z, v = itv z ∧ y = (itD z, []) := by
  unfold itemElem at h
  split at h
  · rename_i a b c d e f
    injection h with h
    exact ⟨(a, b, c, d, e, f), rfl, h.symm⟩
  · cases h
theorem itD_inj {x y : It} (h : itD x = itD y) : x = y := by
  obtain ⟨x1, x2, x3, x4, x5, x6⟩ := x
  obtain ⟨y1, y2, y3, y4, y5, y6⟩ := y
  simp [itD] at h
  simp [h]
theorem key_lit (s : Int) (h : 0 ≤ s ∧ s ≤ 18446744073709551615) : keyOf Try.prog 23 (.int .u64 s) = some (.int .u64 s) := keyOf_int_mk Try.underlying23 (WalkArith.wf_u64 h)

theorem own_tight {w : World} {b n : Nat} {D : DataW Unit} (h : w.ownsMap Try.prog 23 itemElem b n D) : w.ownsMap Try.prog 23 itemElem b (Maps.size D) D := by
  obtain ⟨es, clock, h1, h2, h3, rfl⟩ := h
  exact ⟨es, clock, h1, h2, by simp [Maps.size, length_sorted], rfl⟩
/-- The datum of a table of xs. -/
def TabD (D : DataW Unit) (xs : List It) : Prop := Maps.size D = xs.length ∧ (∀ kl, Maps.has D kl = true ↔ ∃ x ∈ xs, kl = .int .u64 (sq x)) ∧ ∀ x ∈ xs, ∀ zd, D.atKey (.int .u64 (sq x)) zd = itD x
/-- Block B is a map of just the things of xs, by their numbers. -/
def Tab (w : World) (B : Nat) (xs : List It) : Prop := ∃ D, w.ownsMap Try.prog 23 itemElem B xs.length D ∧ TabD D xs
theorem TabD.perm {D : DataW Unit} {xs ys : List It} (h : TabD D xs) (hp : xs.Perm ys) : TabD D ys := by
  obtain ⟨h3, h4, h5⟩ := h
  exact ⟨by rw [h3, hp.length_eq], fun kl => (h4 kl).trans ⟨fun ⟨x, hx, e⟩ => ⟨x, hp.mem_iff.1 hx, e⟩, fun ⟨x, hx, e⟩ => ⟨x, hp.mem_iff.2 hx, e⟩⟩, fun x hx => h5 x (hp.mem_iff.2 hx)⟩
theorem Tab.perm {w : World} {B : Nat} {xs ys : List It} (h : Tab w B xs) (hp : xs.Perm ys) : Tab w B ys := by
  obtain ⟨D, h1, h2⟩ := h
  exact ⟨D, by rw [← hp.length_eq]; exact h1, h2.perm hp⟩
theorem Tab.grown {w w' : World} {B : Nat} {xs : List It} {row : Option Nat} (h : Tab w B xs) (hg : w.grownBy w' row) (hne : some B ≠ row) : Tab w' B xs := by
  obtain ⟨D, h1, h2⟩ := h; exact ⟨D, h1.kept hg hne, h2⟩
theorem Tab.below2 {w w' : World} {B : Nat} {xs : List It} (h : Tab w B xs) (hk : Below w.heap.size w w') : Tab w' B xs := h.grown (grown_below (World.grownBy.refl w none) hk) (by simp)
theorem grown_oth {w w' : World} {g : Nat} (ho : Oth g w w') (hb : Below g w w') : w.grownBy w' (some g) := ⟨hb.os, hb.tape, hb.output, hb.size, fun i _ hi => ho i (fun e => hi (by rw [e]))⟩
theorem Tab.oth {w w' : World} {B g : Nat} {xs : List It} (h : Tab w B xs) (ho : Oth g w w') (hb : Below g w w') (hne : B ≠ g) : Tab w' B xs := h.grown (grown_oth ho hb) (by simpa using hne)
theorem Tab.lt {w : World} {B : Nat} {xs : List It} (h : Tab w B xs) : B < w.heap.size := by obtain ⟨D, h1, _⟩ := h; exact h1.lt
theorem tab_new (w : World) : Tab (w.alloc (.map #[] 0)) w.heap.size [] :=
  ⟨.map [], World.ownsMap_made w _ _ _, rfl, fun kl => by simp [Maps.has], fun x hx => by cases hx⟩
theorem TabD.no {D : DataW Unit} {xs : List It} {s : Int} (h : TabD D xs) (hno : NoSq xs s) : Maps.has D (.int .u64 s) = false := by
  cases e : Maps.has D (.int .u64 s) with
  | false => rfl
  | true =>
    obtain ⟨x, hx, e2⟩ := (h.2.1 _).1 e
    injection e2 with _ e2
    obtain ⟨i, hi, e3⟩ := mem_nth hx
    exact absurd (by rw [e3]; exact e2.symm) (hno i hi)

section
variable {w : World} {B : Nat} {xs : List It} {ops : Array Oper} {rest : List Oper} {o : Oper} {a : Act} {Q : Exit → Act → World → Prop}
theorem wpList_tabhas (hg : o.guard = none) (m x : Operand) (hop : o.op = .lookup 47 m x true) (s : Int) (hm : a.eval m = .map (some B)) (hx : a.eval x = .int .u64 s) (hs : 0 ≤ s ∧ s ≤ 18446744073709551615) (hT : Tab w B xs) {y : It} (hy : y ∈ xs) (hys : sq y = s)
    (h : wpList Try.prog ops Q rest (a.put o.dst (.tuple #[itv y, .bool true])) w) : wpList Try.prog ops Q (o :: rest) a w := by
  obtain ⟨D, hown, hD⟩ := hT
  refine wpList_lookup_own_ok w hg m x 47 hop 23 36 key23 Try.underlying47 itemElem (zero36 w) (itD zr) [] (itemElem_mk zr) B _ D hm hown _ _ hx (key_lit s hs) (fun v ps hv => ?_)
  subst hys
  rw [hD.2.2 y hy] at hv
  obtain ⟨z, rfl, e⟩ := itemElem_inv hv
  have hz : y = z := itD_inj (congrArg Prod.fst e)
  subst hz
  rw [(hD.2.1 _).2 ⟨y, hy, rfl⟩]
  exact h
theorem wpList_tabno (hg : o.guard = none) (m x : Operand) (hop : o.op = .lookup 47 m x true) (s : Int) (hm : a.eval m = .map (some B)) (hx : a.eval x = .int .u64 s) (hs : 0 ≤ s ∧ s ≤ 18446744073709551615) (hT : Tab w B xs) (hno : NoSq xs s)
    (h : wpList Try.prog ops Q rest (a.put o.dst (.tuple #[itv zr, .bool false])) w) : wpList Try.prog ops Q (o :: rest) a w := by
  obtain ⟨D, hown, hD⟩ := hT
  refine wpList_lookup_own_ok w hg m x 47 hop 23 36 key23 Try.underlying47 itemElem (zero36 w) (itD zr) [] (itemElem_mk zr) B _ D hm hown _ _ hx (key_lit s hs) (fun v ps hv => ?_)
  rw [atKey_of_not_has (hD.no hno)] at hv
  obtain ⟨z, rfl, e⟩ := itemElem_inv hv
  have hz : zr = z := itD_inj (congrArg Prod.fst e)
  subst hz
  rw [hD.no hno]
  exact h
theorem wpList_tabget (hg : o.guard = none) (m x : Operand) (hop : o.op = .lookup 47 m x false) (s : Int) (hm : a.eval m = .map (some B)) (hx : a.eval x = .int .u64 s) (hs : 0 ≤ s ∧ s ≤ 18446744073709551615) (hT : Tab w B xs) {y : It} (hy : y ∈ xs) (hys : sq y = s)
    (h : wpList Try.prog ops Q rest (a.put o.dst (itv y)) w) : wpList Try.prog ops Q (o :: rest) a w := by
  obtain ⟨D, hown, hD⟩ := hT
  subst hys
  obtain ⟨v, ps, hrun, hv⟩ := hown.lookup key23 Try.underlying47 (zero36 w) (itemElem_mk zr) (key_lit _ hs)
  rw [hD.2.2 y hy] at hv
  obtain ⟨z, rfl, e⟩ := itemElem_inv hv
  have hz : y = z := itD_inj (congrArg Prod.fst e)
  subst hz
  refine wpList_plain hg fun K' hK' => ?_
  unfold Oper.wp
  simp [execOp, hop, hm, hx, hrun, Result.andThen]
  exact hK' _ _ h
theorem wpList_tabput (hg : o.guard = none) (m x v : Operand) (hop : o.op = Op.mapUpdate 47 m x v) (y : It) (hm : a.eval m = .map (some B)) (hx : a.eval x = .int .u64 (sq y)) (hv : a.eval v = itv y) (hs : 0 ≤ sq y ∧ sq y ≤ 18446744073709551615) (hT : Tab w B xs) (hno : NoSq xs (sq y)) (hn : xs.length ≤ 1000)
    (h : ∀ w', Tab w' B (y :: xs) → w.grownBy w' (some B) → wpList Try.prog ops Q rest (a.put o.dst undef) w') : wpList Try.prog ops Q (o :: rest) a w := by
  obtain ⟨D, hown, hD⟩ := hT
  refine wpList_mapUpdate_own w hg m x v 47 hop 23 36 key23 Try.underlying47 itemElem B _ D hm hown (by unfold maxLen; omega) _ _ _ hx hv (key_lit _ hs) (itD y) [] (itemElem_mk y) (fun w' hown' hgr => h w' ⟨_, hown', ?_⟩ hgr)
  refine ⟨?_, fun kl => ?_, fun z hz zd => ?_⟩
  · rw [size_put (hown.tidy key23), hD.no hno, hD.1]; rfl
  · by_cases e : kl = .int .u64 (sq y)
    · subst e
      rw [has_put_same hown.isMap (key23.key (key_lit _ hs))]
      exact ⟨fun _ => ⟨y, by simp, rfl⟩, fun _ => rfl⟩
    · rw [has_put_other e, hD.2.1]
      exact ⟨fun ⟨z, hz, e2⟩ => ⟨z, List.mem_cons_of_mem _ hz, e2⟩, fun ⟨z, hz, e2⟩ => by
        rcases List.mem_cons.1 hz with rfl | hz
        · exact absurd e2 e
        · exact ⟨z, hz, e2⟩⟩
  · rcases List.mem_cons.1 hz with rfl | hz
    · exact atKey_put_same hown.isMap (key23.key (key_lit _ hs)) _ _
    · rw [atKey_put_other (fun e => by
        injection e with _ e
        obtain ⟨i, hi, e3⟩ := mem_nth hz
        exact absurd (by rw [e3]; exact e) (hno i hi))]
      exact hD.2.2 z hz zd
/-- What a table is without a number. -/
theorem TabD.del {D : DataW Unit} {l : List It} {y : It} (hD : TabD D (y :: l)) (ht : Tidy D) (hnd : ((y :: l).map sq).Nodup) : TabD (D.del (.int .u64 (sq y))) l := by
  rw [List.map_cons, List.nodup_cons] at hnd
  have hne : ∀ z ∈ l, (Lit.int .u64 (sq z)) ≠ .int .u64 (sq y) := fun z hz e => by
    injection e with _ e
    exact hnd.1 (by rw [← e]; exact List.mem_map_of_mem hz)
  refine ⟨?_, fun kl => ?_, fun z hz zd => ?_⟩
  · have := size_del (k := .int .u64 (sq y)) ht
    rw [(hD.2.1 _).2 ⟨y, by simp, rfl⟩, hD.1] at this
    simp at this; exact this
  · by_cases e : kl = .int .u64 (sq y)
    · subst e
      rw [has_del_same]
      exact ⟨fun h => (by cases h), fun ⟨z, hz, e⟩ => absurd e.symm (hne z hz)⟩
    · rw [has_del_other e, hD.2.1]
      exact ⟨fun ⟨z, hz, e2⟩ => by
        rcases List.mem_cons.1 hz with rfl | hz
        · exact absurd e2 e
        · exact ⟨z, hz, e2⟩, fun ⟨z, hz, e2⟩ => ⟨z, List.mem_cons_of_mem _ hz, e2⟩⟩
  · rw [atKey_del_other (hne z hz)]
    exact hD.2.2 z (List.mem_cons_of_mem _ hz) zd
theorem TabD.delno {D : DataW Unit} {xs : List It} {s : Int} (hD : TabD D xs) (ht : Tidy D) (hno : NoSq xs s) : TabD (D.del (.int .u64 s)) xs := by
  have hne : ∀ z ∈ xs, (Lit.int .u64 (sq z)) ≠ .int .u64 s := fun z hz e => by
    injection e with _ e
    obtain ⟨i, hi, e3⟩ := mem_nth hz
    exact absurd (by rw [e3]; exact e) (hno i hi)
  refine ⟨?_, fun kl => ?_, fun z hz zd => ?_⟩
  · have := size_del (k := .int .u64 s) ht
    rw [hD.no hno, hD.1] at this
    simpa using this
  · by_cases e : kl = .int .u64 s
    · subst e
      rw [has_del_same]
      exact ⟨fun h => (by cases h), fun ⟨z, hz, e⟩ => absurd e.symm (hne z hz)⟩
    · rw [has_del_other e, hD.2.1]
  · rw [atKey_del_other (hne z hz)]
    exact hD.2.2 z hz zd
theorem own_mono {b n : Nat} {D : DataW Unit} (h : w.ownsMap Try.prog 23 itemElem b n D) (l : List It) (hl : Maps.size D = l.length) : w.ownsMap Try.prog 23 itemElem b l.length D := by rw [← hl]; exact own_tight h
theorem wpList_tabdel (hg : o.guard = none) (m x : Operand) (hop : o.op = Op.call { callee := Callee.builtin Builtin.delete, args := #[m, x], argTypes := #[47, 23] }) (y : It) (l : List It) (hm : a.eval m = .map (some B)) (hx : a.eval x = .int .u64 (sq y)) (hs : 0 ≤ sq y ∧ sq y ≤ 18446744073709551615) (hT : Tab w B (y :: l)) (hnd : ((y :: l).map sq).Nodup)
    (h : ∀ w', Tab w' B l → w.grownBy w' (some B) → wpList Try.prog ops Q rest (a.put o.dst (.tuple #[])) w') : wpList Try.prog ops Q (o :: rest) a w := by
  obtain ⟨D, hown, hD⟩ := hT
  refine wpList_delete_own w hg m x 47 23 hop 36 key23 Try.underlying47 itemElem B _ D hm hown _ _ hx (key_lit _ hs) (fun w' hown' htu => h w' ?_ htu.grown)
  have := hD.del (hown.tidy key23) hnd
  exact ⟨_, own_mono hown' l this.1, this⟩
theorem wpList_tabdelno (hg : o.guard = none) (m x : Operand) (hop : o.op = Op.call { callee := Callee.builtin Builtin.delete, args := #[m, x], argTypes := #[47, 23] }) (s : Int) (hm : a.eval m = .map (some B)) (hx : a.eval x = .int .u64 s) (hs : 0 ≤ s ∧ s ≤ 18446744073709551615) (hT : Tab w B xs) (hno : NoSq xs s)
    (h : ∀ w', Tab w' B xs → w.grownBy w' (some B) → wpList Try.prog ops Q rest (a.put o.dst (.tuple #[])) w') : wpList Try.prog ops Q (o :: rest) a w := by
  obtain ⟨D, hown, hD⟩ := hT
  refine wpList_delete_own w hg m x 47 23 hop 36 key23 Try.underlying47 itemElem B _ D hm hown _ _ hx (key_lit _ hs) (fun w' hown' htu => h w' ?_ htu.grown)
  have := hD.delno (hown.tidy key23) hno
  exact ⟨_, own_mono hown' xs this.1, this⟩
theorem wpList_tablen (hw : Region.wanted o (yielded ops a.tmps) = true) (m : Operand) (hop : o.op = Op.call { callee := Callee.builtin Builtin.len, args := #[m], argTypes := #[47] }) (hm : a.eval m = .map (some B)) (hT : Tab w B xs)
    (h : wpList Try.prog ops Q rest (a.put o.dst (.int .i64 (xs.length : Int))) w) : wpList Try.prog ops Q (o :: rest) a w := by
  obtain ⟨D, hown, hD⟩ := hT
  refine wpList_step fun _ hK => ?_
  rw [if_pos hw]
  unfold Oper.wp
  have := hown.len Try.underlying47 o.type
  rw [hD.1] at this
  simp [execOp, hop, resolve, invoke, builtin, hm, this, Result.andThen]
  exact hK _ _ h
theorem wpList_tabmake (hg : o.guard = none) (hop : o.op = .makeMap 47 none)
    (h : ∀ w', Tab w' w.heap.size [] → Below w.heap.size w w' → wpList Try.prog ops Q rest (a.put o.dst (.map (some w.heap.size))) w') : wpList Try.prog ops Q (o :: rest) a w := by
  refine wpList_plain hg fun K hK => ?_
  unfold Oper.wp execOp
  simp only [hop, Option.map_none, Sem.run_bind, run_makeMap, Sem.run_pure, Result.andThen_ok]
  exact hK _ _ (h _ (tab_new w) ((Below.refl _ _).alloc (Nat.le_refl _) _))

/-- The table while it is ranged over. -/
def TabR (w : World) (B r : Nat) (xs : List It) (cnt : Nat) : Prop := ∃ D left, w.ranges Try.prog 23 itemElem B r xs.length D left cnt ∧ TabD D xs
theorem TabR.tab {r cnt : Nat} (h : TabR w B r xs cnt) : Tab w B xs := by obtain ⟨D, left, h1, h2⟩ := h; exact ⟨D, h1.owns, h2⟩
theorem TabR.left_eq {r cnt : Nat} (h : TabR w B r xs cnt) : w.rangeLeft B r = cnt := by obtain ⟨D, left, h1, _⟩ := h; exact h1.left_eq
theorem wpList_tabrange (hg : o.guard = none) (m : Operand) (hop : o.op = Op.range 47 m) (hm : a.eval m = .map (some B)) (hT : Tab w B xs)
    (h : ∀ w' cnt, TabR w' B w.heap.size xs cnt → w.grownBy w' none → Hid (w'.heap.size = w.heap.size + 1) → wpList Try.prog ops Q rest (a.put o.dst (.pointer (some ⟨w.heap.size, 0, none⟩))) w') : wpList Try.prog ops Q (o :: rest) a w := by
  obtain ⟨D, hown, hD⟩ := hT
  exact wpList_range_own w hg m 47 hop 23 36 key23 Try.underlying47 itemElem B _ D hm hown (fun w' hr hgr hsz => h w' _ ⟨D, _, hr, hD⟩ hgr (hid hsz))
theorem wpList_tabnext (hg : o.guard = none) (it : Operand) (hop : o.op = Op.next it false) (r cnt : Nat) (hit : a.eval it = .pointer (some ⟨r, 0, none⟩)) (hT : TabR w B r xs cnt)
    (hDone : wpList Try.prog ops Q rest (a.put o.dst (.tuple #[.bool false])) w)
    (hMore : ∀ (s : Int) (z : It) (w' : World) (cnt' : Nat), z ∈ xs → TabR w' B r xs cnt' → cnt' < cnt → w.grownBy w' (some r) → Hid (w'.heap.size = w.heap.size) → (Instr.entry (.pointer (some ⟨r, 0, none⟩))).run Try.prog w' = .ok (.tuple #[.int .u64 s, itv z]) w' → wpList Try.prog ops Q rest (a.put o.dst (.tuple #[.bool true, .int .u64 s, itv z])) w') :
    wpList Try.prog ops Q (o :: rest) a w := by
  obtain ⟨D, left, hr, hD⟩ := hT
  refine wpList_next_ranges w hg it hop 23 key23 itemElem (Value.int .u64) itv (fun key kl hkey => by obtain ⟨x, rfl, _⟩ := Maps.keyOf_int_inv Try.underlying23 hkey; exact ⟨x, rfl⟩) (fun v y hv => by obtain ⟨c, rfl, _⟩ := itemElem_inv hv; exact ⟨c, rfl⟩)
    B r _ D left cnt hit hr (fun _ _ => hDone) (fun s z kl y w' cnt' hkey hlk hv hat hrg hlt hgr hsz hen => hMore s z w' cnt' ?_ ⟨D, _, hrg, hD⟩ hlt hgr (hid hsz) hen)
  obtain ⟨x, hx, rfl⟩ := (hD.2.1 kl).1 (has_true_of_atKey hat)
  have e := hat (itD zr)
  rw [hD.2.2 x hx, itemElem_mk] at *
  injection hv with hv
  rw [← hv] at e
  rw [← itD_inj e]; exact hx
end
end Go.Proofs.Ytpfidohneddgkaa
