/-
  Words for memory: an api.Air's eight cells, a slice of such that came in and reads as a list (Rw), one that the call made itself (Ow), a variable that holds one (VarA); what loads, stores, make and append do to them. No condition but what each head says.
-/
import Derived.Test.YtjmkhhmibkiijaaA
import Derived.Deep.MidRow
import Derived.Lib.QuietBelow
import Derived.Deep.RegionWith
namespace Go.Proofs.Ytjmkhhmibkiijaa
open Go Go.RowKit

/-- An api.Air: its numbers, where its bytes lie, and the bytes themselves. -/
structure Ar where
  id : Int
  fr : Int
  ch : Int
  sa : Int
  en : Int
  A : Option Addr
  n : Nat
  c : Nat
  bad : Bool
  lf : Int
  b : List Nat
def az : Ar := ⟨0, 0, 0, 0, 0, none, 0, 0, false, 0, []⟩
instance : Inhabited Ar := ⟨az⟩
def nth (l : List Ar) (k : Nat) : Ar := l.getD k az
theorem nth_of {l : List Ar} {k : Nat} {x : Ar} (h : l[k]? = some x) : nth l k = x := by simp [nth, List.getD, h]
theorem nth_get {l : List Ar} {k : Nat} (h : k < l.length) : l[k]? = some (nth l k) := by simp [nth, List.getD, h]
theorem nth_mem {l : List Ar} {k : Nat} (h : k < l.length) : nth l k ∈ l := List.mem_of_getElem? (nth_get h)
/-- Its cells, its value, the cells of some. -/
def enc (x : Ar) : List Value := [.int .u64 x.id, .int .i64 x.fr, .int .i64 x.ch, .int .i64 x.sa, .int .i64 x.en, .slice x.A x.n x.c, .bool x.bad, .int .i64 x.lf]
def itv (x : Ar) : Value := .agg (enc x).toArray
def flat (l : List Ar) : List Value := l.flatMap enc
theorem enc_len (x : Ar) : (enc x).length = 8 := rfl
theorem enc_one (x : Ar) : ∀ u ∈ enc x, u.oneCell' = true := by
  intro u hu; simp [enc] at hu; rcases hu with rfl | rfl | rfl | rfl | rfl | rfl | rfl | rfl <;> rfl
theorem flat_nil : flat [] = [] := rfl
theorem flat_cons (x : Ar) (l : List Ar) : flat (x :: l) = enc x ++ flat l := rfl
theorem flat_len (l : List Ar) : (flat l).length = l.length * 8 := by
  induction l with
  | nil => rfl
  | cons x l ih => rw [flat_cons, List.length_append, ih, enc_len, List.length_cons]; omega
theorem flat_app (a b : List Ar) : flat (a ++ b) = flat a ++ flat b := by simp [flat]
theorem flat_one (l : List Ar) : ∀ u ∈ flat l, u.oneCell' = true := by
  intro u hu
  obtain ⟨x, _, hx⟩ := List.mem_flatMap.1 hu
  exact enc_one x u hx
theorem flat_at : ∀ (l : List Ar) (i j : Nat), i < l.length → j < 8 → (flat l)[i * 8 + j]? = (enc (nth l i))[j]?
  | x :: l, 0, j, _, hj => by rw [flat_cons, List.getElem?_append_left (by rw [enc_len]; omega)]; simp [nth]
  | x :: l, i + 1, j, hi, hj => by
    rw [flat_cons, List.getElem?_append_right (by rw [enc_len]; omega), enc_len, show (i + 1) * 8 + j - 8 = i * 8 + j by omega, flat_at l i j (by simpa using hi) hj]
    simp [nth, List.getD]
theorem flat_set (l : List Ar) (i : Nat) (x : Ar) (hi : i < l.length) : flat (l.set i x) = (flat l).take (i * 8) ++ (enc x ++ (flat l).drop (i * 8 + 8)) := by
  induction l generalizing i with
  | nil => simp at hi
  | cons y l ih =>
    cases i with
    | zero =>
      have e : (enc y).length = 8 := rfl
      rw [List.set_cons_zero, flat_cons, flat_cons, Nat.zero_mul, List.take_zero, List.nil_append, Nat.zero_add, List.drop_append_of_le_length (by omega), List.drop_of_length_le (by omega), List.nil_append]
    | succ i =>
      have e : (enc y).length = 8 := rfl
      rw [List.set_cons_succ, flat_cons, flat_cons, ih i (by simpa using hi), List.take_append, List.drop_append, e, List.take_of_length_le (l := enc y) (by omega), List.drop_of_length_le (l := enc y) (by omega), List.nil_append, show (i + 1) * 8 - 8 = i * 8 by omega, show (i + 1) * 8 + 8 - 8 = i * 8 + 8 by omega, List.append_assoc]

/-- A slice of n things at A reads as xs, and lies below block B. -/
def Rw (w : World) (B : Nat) (A : Option Addr) (n : Nat) (xs : List Ar) : Prop :=
  xs.length = n ∧ (0 < n → ∃ b o, A = some ⟨b, o, none⟩ ∧ b < B ∧ ∀ j u, (flat xs)[j]? = some u → w.cell? ⟨b, o + j, none⟩ = some u)
/-- A slice that was made by the call itself: from block 'base' on. -/
def Ow (w : World) (base : Nat) (A : Option Addr) (n c : Nat) (xs : List Ar) : Prop := w.ownsRow base 25 8 (.slice A n c) n (flat xs)

section
variable {w w' : World} {B B' n : Nat} {A : Option Addr} {xs : List Ar}
theorem Rw.nil (w : World) (B : Nat) (A : Option Addr) : Rw w B A 0 [] := ⟨rfl, fun h => absurd h (by omega)⟩
theorem Rw.keep (h : Rw w B A n xs) (hk : ∀ p : Addr, p.block < B → w'.cell? p = w.cell? p) : Rw w' B A n xs :=
  ⟨h.1, fun hn => by
    obtain ⟨b, o, e, hb, hc⟩ := h.2 hn
    exact ⟨b, o, e, hb, fun j u hu => (hk ⟨b, o + j, none⟩ hb).trans (hc j u hu)⟩⟩
theorem Rw.below (h : Rw w B A n xs) (hb : Below B w w') : Rw w' B A n xs := h.keep fun _ hp => hb.cell hp
theorem Rw.more (h : Rw w B A n xs) (hB : B ≤ B') : Rw w B' A n xs :=
  ⟨h.1, fun hn => by
    obtain ⟨b, o, e, hb, hc⟩ := h.2 hn
    exact ⟨b, o, e, by omega, hc⟩⟩
/-- One of its things. -/
theorem Rw.at_ (h : Rw w B A n xs) {k : Nat} (hk : k < n) : ∃ b o, A = some ⟨b, o, none⟩ ∧ b < B ∧ w.rangeAt b (o + k * 8) (enc (nth xs k)) := by
  obtain ⟨b, o, e, hb, hc⟩ := h.2 (by omega)
  refine ⟨b, o, e, hb, fun j v hv => ?_⟩
  have hj : j < 8 := by have := (List.getElem?_eq_some_iff.1 hv).1; rwa [enc_len] at this
  rw [Nat.add_assoc]
  exact hc _ v (by rw [flat_at xs k j (by rw [h.1]; exact hk) hj]; exact hv)
theorem Rw.all (h : Rw w B A n xs) (hn : 0 < n) : ∃ b o, A = some ⟨b, o, none⟩ ∧ b < B ∧ ∀ k, k < n → w.rangeAt b (o + k * 8) (enc (nth xs k)) := by
  obtain ⟨b, o, e, hb, hc⟩ := h.2 hn
  refine ⟨b, o, e, hb, fun k hk => ?_⟩
  obtain ⟨b', o', e', _, hr⟩ := h.at_ hk
  rw [e] at e'
  injection e' with e'; injection e' with e1 e2
  subst e1; subst e2
  exact hr
/-- A piece of it. -/
theorem Rw.cut (h : Rw w B A n xs) {l r c : Nat} (hl : l ≤ r) (hr : r ≤ n) (hc : n ≤ c) :
    Rw w B (if c = l then A else A.map (fun x => x.add (l * 8))) (r - l) ((xs.take r).drop l) := by
  refine ⟨by rw [List.length_drop, List.length_take, h.1]; omega, fun hp => ?_⟩
  obtain ⟨b, o, rfl, hb, hcell⟩ := h.2 (by omega)
  rw [if_neg (by omega)]
  refine ⟨b, o + l * 8, by simp [plain_add], hb, fun j u hu => ?_⟩
  have hj : j < (r - l) * 8 := by
    have := (List.getElem?_eq_some_iff.1 hu).1
    rw [flat_len, List.length_drop, List.length_take, h.1] at this
    have e : min r n - l = r - l := by omega
    rwa [e] at this
  have e1 : flat xs = flat (xs.take l) ++ (flat ((xs.take r).drop l) ++ flat (xs.drop r)) := by
    rw [← flat_app, ← flat_app]
    congr 1
    have e2 : (xs.take r).drop l ++ xs.drop r = xs.drop l := by
      conv => rhs; rw [← List.take_append_drop r xs]
      rw [List.drop_append_of_le_length (by rw [List.length_take, h.1]; omega)]
    rw [e2, List.take_append_drop]
  rw [Nat.add_assoc]
  refine hcell _ u ?_
  rw [e1, List.getElem?_append_right (by rw [flat_len, List.length_take, h.1, Nat.min_eq_left (by omega)]; omega), flat_len, List.length_take, h.1, Nat.min_eq_left (by omega), Nat.add_sub_cancel_left, List.getElem?_append_left (by rw [flat_len, List.length_drop, List.length_take, h.1, Nat.min_eq_left (by omega)]; exact hj)]
  exact hu
theorem Ow.len {base c : Nat} (h : Ow w base A n c xs) : xs.length = n := by
  have := h.1; rw [flat_len] at this; omega
theorem Ow.row {base c : Nat} (h : Ow w base A n c xs) : Rw w w.heap.size A n xs := by
  refine ⟨h.len, fun hn => ?_⟩
  rcases h.2 with ⟨_, h0⟩ | ⟨g, cap, cur, hv, hb, hg, _⟩
  · omega
  · have hA : A = some ⟨g, 0, none⟩ := by injection hv
    subst hA
    refine ⟨g, 0, rfl, (Array.getElem?_eq_some_iff.1 hg).1, fun j u hu => ?_⟩
    have := h.cells (g := g) rfl j u hu
    rwa [plain_add] at this
theorem Ow.cap {base c : Nat} (h : Ow w base A n c xs) : n ≤ c := by
  rcases h.2 with ⟨hv, h0⟩ | ⟨g, cap, cur, hv, hb, hg, hle, _⟩
  · omega
  · have : c = cap := by injection hv
    omega
theorem Ow.nil (w : World) (base : Nat) : Ow w base none 0 0 [] := World.ownsRow_nil w base 25 8
theorem Ow.below {base c : Nat} (h : Ow w base A n c xs) (hb : Below w.heap.size w w') : Ow w' base A n c xs := by
  refine ⟨h.1, ?_⟩
  rcases h.2 with h0 | ⟨g, cap, cur, hv, hg, hh, r⟩
  · exact .inl h0
  · exact .inr ⟨g, cap, cur, hv, hg, (hb.block g (Array.getElem?_eq_some_iff.1 hh).1).trans hh, r⟩
theorem Ow.base_le {base base' c : Nat} (h : Ow w base A n c xs) (hb : base' ≤ base) : Ow w base' A n c xs := by
  refine ⟨h.1, ?_⟩
  rcases h.2 with h0 | ⟨g, cap, cur, hv, hg, hh, r⟩
  · exact .inl h0
  · exact .inr ⟨g, cap, cur, hv, by omega, hh, r⟩
theorem Ow.alloc {base c : Nat} (h : Ow w base A n c xs) (o : Obj) : Ow (w.alloc o) base A n c xs := World.ownsRow.alloc h o
end

/-! ### Loads and stores of whole things -/
theorem size25 : (Try.prog.info? 25).map (·.size) = some 8 := by kernel_rfl
theorem info25 : (Try.prog.info? 25).map (fun i => (i.zero, i.size, i.bytes)) = some (some (itv az), 8, 80) := by kernel_rfl
theorem ld (w : World) (b o : Nat) (x : Ar) (h : w.rangeAt b o (enc x)) : (Instr.loadAt 25 (.pointer (some ⟨b, o, none⟩))).run Try.prog w = .ok (itv x) w :=
  run_loadAt_mid w b o 25 (enc x) _ h Try.underlying25 rfl (by rw [size25]; rfl)
theorem ldv (w : World) (b o : Nat) (x : Ar) (h : w.rangeAt b o (enc x)) : (loadVar 25 ⟨b, o, none⟩).run Try.prog w = .ok (itv x) w :=
  run_loadVar_mid w b o 25 (enc x) _ h Try.underlying25 rfl (by rw [size25]; rfl)
theorem st (w : World) (b o : Nat) (x : Ar) (h : w.there b o 8) : (Instr.storeAt 25 (.pointer (some ⟨b, o, none⟩)) (itv x)).run Try.prog w = .ok () (w.setCells b o (enc x)) :=
  run_storeAt_mid w b o 25 (enc x).toArray h (by rw [size25]; rfl) (all_oneCell_toArray (enc_one x))

/-- Cells of a list set one by one. -/
def setL (xs : List Value) : Nat → List Value → List Value
  | _, [] => xs
  | o, v :: r => setL (xs.set o v) (o + 1) r
theorem setL_mid : ∀ (vs a b c : List Value), b.length = vs.length → setL (a ++ (b ++ c)) a.length vs = a ++ (vs ++ c)
  | [], a, b, c, h => by
    have : b = [] := List.eq_nil_of_length_eq_zero (by simpa using h)
    subst this; rfl
  | v :: vs, a, b, c, h => by
    obtain ⟨u, b, rfl⟩ : ∃ u b', b = u :: b' := by cases b with
      | nil => simp at h
      | cons u b => exact ⟨u, b, rfl⟩
    unfold setL
    have e : (a ++ (u :: b ++ c)).set a.length v = (a ++ [v]) ++ (b ++ c) := by
      rw [List.set_append_right _ _ (Nat.le_refl _)]; simp
    rw [e, show a.length + 1 = (a ++ [v]).length by simp, setL_mid vs (a ++ [v]) b c (by simpa using h)]
    simp
theorem setL_flat (l : List Ar) (k : Nat) (x : Ar) (hk : k < l.length) : setL (flat l) (k * 8) (enc x) = flat (l.set k x) := by
  have hl := flat_len l
  rw [flat_set l k x hk]
  have e : flat l = (flat l).take (k * 8) ++ (((flat l).drop (k * 8)).take 8 ++ (flat l).drop (k * 8 + 8)) := by
    conv => lhs; rw [← List.take_append_drop (k * 8) (flat l), ← List.take_append_drop 8 ((flat l).drop (k * 8)), List.drop_drop]
  have hlt : ((flat l).take (k * 8)).length = k * 8 := by rw [List.length_take, hl]; omega
  conv => lhs; rw [e]
  conv => lhs; arg 2; rw [← hlt]
  exact setL_mid (enc x) _ _ _ (by rw [List.length_take, List.length_drop, hl, enc_len]; omega)
theorem ownsRow_setCells {base e size g n cap : Nat} : ∀ (vs : List Value) (o : Nat) (w : World) (xs : List Value), w.ownsRow base e size (.slice (some ⟨g, 0, none⟩) n cap) n xs → base ≤ g →
    (w.setCells g o vs).ownsRow base e size (.slice (some ⟨g, 0, none⟩) n cap) n (setL xs o vs) ∧ Below base w (w.setCells g o vs)
  | [], _, w, _, h, _ => ⟨h, Below.refl _ _⟩
  | v :: r, o, w, xs, h, hb => by
    obtain ⟨a, b⟩ := ownsRow_setCells r (o + 1) _ _ (h.stored o v).1 hb
    exact ⟨a, ((Below.refl _ _).setCell (p := ⟨g, o, none⟩) hb v).trans b⟩
section
variable {w w' : World} {base g n c : Nat} {l : List Ar}
theorem Ow.ge (h : Ow w base (some ⟨g, 0, none⟩) n c l) : base ≤ g ∧ g < w.heap.size := World.ownsRow.lt h g rfl
theorem Ow.store (h : Ow w base (some ⟨g, 0, none⟩) n c l) {k : Nat} (hk : k < n) (x : Ar) : Ow (w.setCells g (k * 8) (enc x)) base (some ⟨g, 0, none⟩) n c (l.set k x) ∧ Below base w (w.setCells g (k * 8) (enc x)) := by
  have := ownsRow_setCells (enc x) (k * 8) w _ h h.ge.1
  rw [setL_flat l k x (by rw [h.len]; exact hk)] at this
  exact this
theorem Ow.range (h : Ow w base (some ⟨g, 0, none⟩) n c l) {k : Nat} (hk : k < n) : w.rangeAt g (k * 8) (enc (nth l k)) := by
  obtain ⟨b, o, e, _, hr⟩ := h.row.at_ hk
  injection e with e; injection e with e1 e2
  subst e1; subst e2
  rwa [Nat.zero_add] at hr
theorem Ow.there (h : Ow w base (some ⟨g, 0, none⟩) n c l) {k : Nat} (hk : k < n) : w.there g (k * 8) 8 := fun j hj => by
  refine ⟨?_, World.ownsRow.frozenAt h _⟩
  have h1 := h.range hk
  have h2 : j < (enc (nth l k)).length := by rw [enc_len]; exact hj
  rw [h1 j _ (List.getElem?_eq_getElem h2)]; rfl
end
theorem flat_rep (n : Nat) : flat (List.replicate n az) = (madeCells (itv az).cells (n * 8)).toList := by
  have e : (itv az).cells = (enc az).toArray := rfl
  rw [e]
  refine List.ext_getElem? fun j => ?_
  by_cases hj : j < n * 8
  · have h1 := flat_at (List.replicate n az) (j / 8) (j % 8) (by simp; omega) (by omega)
    rw [show j / 8 * 8 + j % 8 = j by omega] at h1
    rw [h1]
    have h2 : nth (List.replicate n az) (j / 8) = az := nth_of (by rw [List.getElem?_replicate, if_pos (by omega)])
    rw [h2]
    have h3 : j % 8 < (enc az).length := by rw [enc_len]; omega
    rw [List.getElem?_eq_getElem h3]
    simp only [madeCells, Array.toList_map, Array.toList_range, List.getElem?_map, List.getElem?_range hj, Option.map_some]
    have h4 : (enc az).toArray.size = 8 := rfl
    rw [h4, getElem!_pos (enc az).toArray (j % 8) (by rw [h4]; omega)]
    simp
  · rw [List.getElem?_eq_none (by rw [flat_len]; simp; omega), List.getElem?_eq_none (by simp [madeCells]; omega)]

section
variable {w : World} {base n : Nat}
/-- 'make([]api.Air, n)'. -/
theorem wpList_mk {ops : Array Oper} {rest : List Oper} {o : Oper} {a : Act} {Q : Exit → Act → World → Prop} (hg : o.guard = none) (l c : Operand) (hop : o.op = Op.makeSlice 34 l c)
    (L : Int) (n : Nat) (hl : a.eval l = .int .i64 L) (hc : a.eval c = .int .i64 L) (hL : L = (n : Int)) (hn : n ≤ 100000) (base : Nat) (hb : base ≤ w.heap.size)
    (hK : ∀ w', Ow w' base (some ⟨w.heap.size, 0, none⟩) n n (List.replicate n az) → Below w.heap.size w w' → wpList Try.prog ops Q rest (a.put o.dst (.slice (some ⟨w.heap.size, 0, none⟩) n n)) w') :
    wpList Try.prog ops Q (o :: rest) a w := by
  obtain ⟨i, hi0, hi1, hi2, hi3⟩ := info_parts info25
  refine wpList_make_full (P := Try.prog) w hg l c 34 hop base 25 i (itv az) 8 Try.underlying34 hi0 hi1 hi2 .i64 .i64 L L n hl hc hL hL (by rw [hi3]; omega) (by unfold maxLen; omega) hb fun w' h1 h2 => hK w' ?_ ?_
  · unfold Ow; rw [flat_rep]; exact h1
  · exact (Below.refl _ _).grown h2 (Nat.le_refl _) (fun k hk => by cases hk)
/-- append onto a slice of the call's own. -/
theorem run_ap8 (ty : TypeId) {A A2 : Option Addr} {c m c2 B : Nat} {l xs : List Ar} (hown : Ow w base A n c l) (hr : Rw w B A2 m xs) (hb : n + m ≤ 1000000000) (hbase : base ≤ w.heap.size) :
    ∃ A' c' w', (Builtin.append_ #[34, 34] ty #[.slice A n c, .slice A2 m c2]).run Try.prog w = .ok (.slice A' (n + m) c') w' ∧ Ow w' base A' (n + m) c' (l ++ xs) ∧ Below base w w' := by
  obtain ⟨i, hi0, hi1, hi2, hi3⟩ := info_parts info25
  have hfin : ∀ v' w', w'.ownsRow base 25 8 v' (n + m) (flat l ++ flat xs) → w.grownBy w' (Value.ownBlock (.slice A n c)) → ∃ A' c', v' = .slice A' (n + m) c' ∧ Ow w' base A' (n + m) c' (l ++ xs) ∧ Below base w w' := by
    intro v' w' h2 h3
    have hbel : Below base w w' := (Below.refl _ _).grown h3 hbase (fun k hk => (World.ownsRow.lt hown k hk).1)
    rw [← flat_app] at h2
    rcases h2.2 with ⟨rfl, h0⟩ | ⟨g, cap, cur, rfl, r⟩
    · rw [h0] at h2 ⊢; exact ⟨none, 0, rfl, h2, hbel⟩
    · exact ⟨_, _, rfl, h2, hbel⟩
  have hle : n + m ≤ maxLen := by unfold maxLen; omega
  by_cases h0 : 0 < m
  · obtain ⟨b, o, rfl, _, hc⟩ := hr.2 h0
    obtain ⟨v', w', hrun, h2, h3, _, _⟩ := run_append_own_at (P := Try.prog) w base 34 ty 25 i (itv az) 8 80 Try.underlying34 hi0 hi1 hi2 hi3 rfl (by omega) (.slice A n c) n (flat l) hown ⟨b, o, none⟩ m c2 (flat xs) (by rw [flat_len, hr.1]) (fun j u hu => by rw [plain_add]; exact hc j u hu) (flat_one xs) hle (by omega) hbase
    obtain ⟨A', c', rfl, r⟩ := hfin v' w' h2 h3
    exact ⟨A', c', w', hrun, r⟩
  · obtain rfl : m = 0 := by omega
    obtain rfl : xs = [] := List.eq_nil_of_length_eq_zero hr.1
    rcases A2 with _ | ⟨b, o, s⟩
    · refine ⟨A, c, w, ?_, by simpa [Ow] using hown, Below.refl _ _⟩
      rcases hown.2 with ⟨hv, rfl⟩ | ⟨g, cap, cur, hv, _, _, hnc, _⟩
      · injection hv with h1 h2 h3; subst h1; subst h3
        simp [Builtin.append_, run_underlying Try.underlying34, sizeOf, typeInfo, hi0, Builtin.lenOf, Builtin.firstCells]
      · injection hv with h1 h2 h3; subst h1; subst h3
        simp [Builtin.append_, run_underlying Try.underlying34, sizeOf, typeInfo, hi0, Builtin.lenOf, Builtin.firstCells, hnc, storeCells]
    · obtain ⟨v', w', hrun, h2, h3, _, _⟩ := run_append_own_at (P := Try.prog) w base 34 ty 25 i (itv az) 8 80 Try.underlying34 hi0 hi1 hi2 hi3 rfl (by omega) (.slice A n c) n (flat l) hown ⟨b, o, s⟩ 0 c2 [] rfl (fun j u hu => by simp at hu) (fun u hu => by simp at hu) hle (by omega) hbase
      obtain ⟨A', c', rfl, r⟩ := hfin v' w' (by simpa [flat] using h2) h3
      exact ⟨A', c', w', hrun, r⟩
theorem wpList_ap {ops : Array Oper} {rest : List Oper} {o : Oper} {a : Act} {Q : Exit → Act → World → Prop} (hgd : o.guard = none) (s x : Operand)
    (ho : o.op = .call { callee := .builtin .append, args := #[s, x], argTypes := #[34, 34] }) {A A2 : Option Addr} {c m c2 B : Nat} {l xs : List Ar} (hs : a.eval s = .slice A n c) (hown : Ow w base A n c l) (hx : a.eval x = .slice A2 m c2) (hr : Rw w B A2 m xs)
    (hb : n + m ≤ 1000000000) (hbase : base ≤ w.heap.size)
    (h : ∀ A' c' w', Ow w' base A' (n + m) c' (l ++ xs) → Below base w w' → wpList Try.prog ops Q rest (a.put o.dst (.slice A' (n + m) c')) w') : wpList Try.prog ops Q (o :: rest) a w := by
  obtain ⟨A', c', w', hrun, h2, h3⟩ := run_ap8 (c2 := c2) o.type hown hr hb hbase
  refine wpList_plain hgd fun _ hK => ?_
  unfold Oper.wp execOp
  simp only [ho, resolve, invoke, builtin, Sem.run_bind, Sem.run_pure, Result.andThen_ok, List.map_toArray, List.map_cons, List.map_nil, hs, hx, hrun]
  exact hK _ _ (h A' c' w' h2 h3)
end
end Go.Proofs.Ytjmkhhmibkiijaa
