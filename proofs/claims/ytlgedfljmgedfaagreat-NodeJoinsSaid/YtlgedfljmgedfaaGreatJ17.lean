/-
  Texts Ta of this seat, as far as they are used.
-/
import Derived.Test.YtlgedfljmgedfaaGreatProg
import Derived.WalkKit
import Derived.WalkSpells
import Derived.WalkLawsBesides
import Derived.LoopTactic
import Derived.Below
import Derived.Maps.AppendAt
import Derived.OwnWalk
import Derived.Laws.OwnMore
import Derived.Laws.BytesArg
namespace Go.Proofs.YtlgedfljmgedfaaGreat.T9
open Go Go.RowKit

theorem hid {p : Prop} (h : p) : Hid p := h
theorem ret_bool {a b : Bool} (h : a = b) : Ending.returned (.bool a) = .returned (.bool b) := by rw [h]
theorem ret_int {k : IntKind} {a b : Int} (h : a = b) : Ending.returned (.int k a) = .returned (.int k b) := by rw [h]

/-- The cells of signed numbers. -/
def sv (l : List Int) : List Value := l.map fun x => .int .i64 x
theorem sv_len (l : List Int) : (sv l).length = l.length := by simp [sv]

/-- A slice of n elements of one cell each, at A, holds the cells vs, and lies below block B. -/
def Row (w : World) (B : Nat) (A : Option Addr) (n : Nat) (vs : List Value) : Prop :=
  vs.length = n ∧ (0 < n → ∃ b o, A = some ⟨b, o, none⟩ ∧ b < B ∧ ∀ j u, vs[j]? = some u → w.cell? ⟨b, o + j, none⟩ = some u)
/-- A slice that was made by the call itself: from block 'base' on. -/
def Own (w : World) (base : Nat) (e : TypeId) (A : Option Addr) (n c : Nat) (vs : List Value) : Prop := w.ownsRow base e 1 (.slice A n c) n vs

section
variable {w w' : World} {B B' n : Nat} {A : Option Addr} {vs : List Value}
theorem Row.nil (w : World) (B : Nat) (A : Option Addr) : Row w B A 0 [] := ⟨rfl, fun h => absurd h (by omega)⟩
theorem Row.keep (h : Row w B A n vs) (hk : ∀ p : Addr, p.block < B → w'.cell? p = w.cell? p) : Row w' B A n vs :=
  ⟨h.1, fun hn => by
    obtain ⟨b, o, e, hb, hc⟩ := h.2 hn
    exact ⟨b, o, e, hb, fun j u hu => (hk ⟨b, o + j, none⟩ hb).trans (hc j u hu)⟩⟩
theorem Row.below (h : Row w B A n vs) (hb : Below B w w') : Row w' B A n vs := h.keep fun _ hp => hb.cell hp
theorem Row.more (h : Row w B A n vs) (hB : B ≤ B') : Row w B' A n vs :=
  ⟨h.1, fun hn => by
    obtain ⟨b, o, e, hb, hc⟩ := h.2 hn
    exact ⟨b, o, e, by omega, hc⟩⟩
theorem Row.alloc (h : Row w B A n vs) (hB : B ≤ w.heap.size) (o : Obj) : Row (w.alloc o) B A n vs := h.below ((Below.refl _ _).alloc hB o)
theorem Row.at_ (h : Row w B A n vs) {k : Nat} (hk : k < n) : ∃ b o u, A = some ⟨b, o, none⟩ ∧ b < B ∧ vs[k]? = some u ∧ w.cell? ⟨b, o + k, none⟩ = some u := by
  obtain ⟨b, o, e, hb, hc⟩ := h.2 (by omega)
  have hl : k < vs.length := by rw [h.1]; exact hk
  exact ⟨b, o, vs[k], e, hb, List.getElem?_eq_getElem hl, hc k _ (List.getElem?_eq_getElem hl)⟩
theorem plain_add (b o j : Nat) : (⟨b, o, none⟩ : Addr).add j = ⟨b, o + j, none⟩ := by unfold Addr.add; split <;> simp_all
/-- A piece of it. -/
theorem Row.cut (h : Row w B A n vs) {l r c : Nat} (hl : l ≤ r) (hr : r ≤ n) (hc : n ≤ c) :
    Row w B (if c = l then A else A.map (fun x => x.add l)) (r - l) ((vs.take r).drop l) := by
  refine ⟨by rw [List.length_drop, List.length_take, h.1]; omega, fun hp => ?_⟩
  obtain ⟨b, o, rfl, hb, hcell⟩ := h.2 (by omega)
  rw [if_neg (by omega)]
  refine ⟨b, o + l, by simp [plain_add], hb, fun j u hu => ?_⟩
  rw [Nat.add_assoc]
  refine hcell _ u ?_
  rw [List.getElem?_drop, List.getElem?_take] at hu
  split at hu
  · exact hu
  · cases hu
theorem Own.row {base : Nat} {e : TypeId} {c : Nat} (h : Own w base e A n c vs) : Row w w.heap.size A n vs := by
  refine ⟨by simpa using h.1, fun hn => ?_⟩
  rcases h.2 with ⟨_, h0⟩ | ⟨g, cap, cur, hv, hb, hg, _⟩
  · omega
  · have hA : A = some ⟨g, 0, none⟩ := by injection hv
    subst hA
    refine ⟨g, 0, rfl, (Array.getElem?_eq_some_iff.1 hg).1, fun j u hu => ?_⟩
    have := h.cells (g := g) rfl j u hu
    rwa [plain_add] at this
theorem Own.len {base : Nat} {e : TypeId} {c : Nat} (h : Own w base e A n c vs) : vs.length = n := by simpa using h.1
theorem Own.cap {base : Nat} {e : TypeId} {c : Nat} (h : Own w base e A n c vs) : n ≤ c := by
  rcases h.2 with ⟨hv, h0⟩ | ⟨g, cap, cur, hv, hb, hg, hle, _⟩
  · omega
  · have : c = cap := by injection hv
    omega
theorem Own.nil (w : World) (base : Nat) (e : TypeId) : Own w base e none 0 0 [] := World.ownsRow_nil w base e 1
theorem Own.below {base : Nat} {e : TypeId} {c : Nat} (h : Own w base e A n c vs) (hb : Below w.heap.size w w') : Own w' base e A n c vs := by
  refine ⟨h.1, ?_⟩
  rcases h.2 with h0 | ⟨g, cap, cur, hv, hg, hh, r⟩
  · exact .inl h0
  · exact .inr ⟨g, cap, cur, hv, hg, (hb.block g (Array.getElem?_eq_some_iff.1 hh).1).trans hh, r⟩
theorem Own.base_le {base base' : Nat} {e : TypeId} {c : Nat} (h : Own w base e A n c vs) (hb : base' ≤ base) : Own w base' e A n c vs := by
  refine ⟨h.1, ?_⟩
  rcases h.2 with h0 | ⟨g, cap, cur, hv, hg, hh, r⟩
  · exact .inl h0
  · exact .inr ⟨g, cap, cur, hv, by omega, hh, r⟩
theorem Own.alloc {base : Nat} {e : TypeId} {c : Nat} (h : Own w base e A n c vs) (o : Obj) : Own (w.alloc o) base e A n c vs := World.ownsRow.alloc h o
/-- A row of a new block that was laid whole. -/
theorem Row.laid (w : World) (t : TypeId) (cs : List Value) : Row (w.alloc (.cells cs.toArray t)) (w.heap.size + 1) (some ⟨w.heap.size, 0, none⟩) cs.length cs := by
  refine ⟨rfl, fun _ => ⟨w.heap.size, 0, rfl, by omega, fun j u hu => ?_⟩⟩
  rw [cell_of_row (w.alloc (.cells cs.toArray t)) w.heap.size (0 + j) cs.toArray t (0, 0) (heap_alloc_new w _)]
  simpa using hu
end

section
variable {P : Program} (w : World)
/-- append onto a slice of the call's own: it owns both, and below 'base' nothing has turned. -/
theorem run_app (base : Nat) (t ty e : TypeId) (z : Value) (bytes : Nat) (ht : P.underlying t = some (.slice e)) (hi : (P.info? e).map (fun i => (i.zero, i.size, i.bytes)) = some (some z, 1, bytes)) (hz : z.cells.size = 1)
    (A : Option Addr) (n c : Nat) (vs : List Value) (hown : Own w base e A n c vs) (B : Nat) (A2 : Option Addr) (m c2 : Nat) (news : List Value) (hr : Row w B A2 m news) (h1 : ∀ u ∈ news, u.oneCell' = true)
    (hb : (n + m) * bytes ≤ 140737488355328) (hp : 0 < bytes) (hbase : base ≤ w.heap.size) :
    ∃ A' c' w', (Builtin.append_ #[t, t] ty #[.slice A n c, .slice A2 m c2]).run P w = .ok (.slice A' (n + m) c') w' ∧ Own w' base e A' (n + m) c' (vs ++ news) ∧ Below base w w' := by
  obtain ⟨i, hi0, hi1, hi2, hi3⟩ := info_parts hi
  have hfin : ∀ v' w', w'.ownsRow base e 1 v' (n + m) (vs ++ news) → w.grownBy w' (Value.ownBlock (.slice A n c)) → ∃ A' c', v' = .slice A' (n + m) c' ∧ Own w' base e A' (n + m) c' (vs ++ news) ∧ Below base w w' := by
    intro v' w' h2 h3
    have hbel : Below base w w' := (Below.refl _ _).grown h3 hbase (fun k hk => (World.ownsRow.lt hown k hk).1)
    rcases h2.2 with ⟨rfl, h0⟩ | ⟨g, cap, cur, rfl, r⟩
    · rw [h0] at h2 ⊢; exact ⟨none, 0, rfl, h2, hbel⟩
    · exact ⟨_, _, rfl, h2, hbel⟩
  have hle : n + m ≤ maxLen := by
    have : n + m ≤ (n + m) * bytes := Nat.le_mul_of_pos_right _ hp
    unfold maxLen; omega
  by_cases h0 : 0 < m
  · obtain ⟨b, o, rfl, _, hc⟩ := hr.2 h0
    obtain ⟨v', w', hrun, h2, h3, _, _⟩ := run_append_own_at (P := P) w base t ty e i z 1 bytes ht hi0 hi1 hi2 hi3 hz (by omega) (.slice A n c) n vs hown ⟨b, o, none⟩ m c2 news (by simpa using hr.1) (fun j u hu => by rw [plain_add]; exact hc j u hu) h1 hle hb hbase
    obtain ⟨A', c', rfl, r⟩ := hfin v' w' h2 h3
    exact ⟨A', c', w', hrun, r⟩
  · obtain rfl : m = 0 := by omega
    obtain rfl : news = [] := List.eq_nil_of_length_eq_zero hr.1
    rcases A2 with _ | ⟨b, o, s⟩
    · refine ⟨A, c, w, ?_, by simpa [Own] using hown, Below.refl _ _⟩
      rcases hown.2 with ⟨hv, rfl⟩ | ⟨g, cap, cur, hv, _, _, hnc, _⟩
      · injection hv with h1 h2 h3; subst h1; subst h3
        simp [Builtin.append_, run_underlying ht, sizeOf, typeInfo, hi0, Builtin.lenOf, Builtin.firstCells]
      · injection hv with h1 h2 h3; subst h1; subst h3
        simp [Builtin.append_, run_underlying ht, sizeOf, typeInfo, hi0, Builtin.lenOf, Builtin.firstCells, hnc, storeCells]
    · obtain ⟨v', w', hrun, h2, h3, _, _⟩ := run_append_own_at (P := P) w base t ty e i z 1 bytes ht hi0 hi1 hi2 hi3 hz (by omega) (.slice A n c) n vs hown ⟨b, o, s⟩ 0 c2 [] rfl (fun j u hu => by simp at hu) h1 hle hb hbase
      obtain ⟨A', c', rfl, r⟩ := hfin v' w' h2 h3
      exact ⟨A', c', w', hrun, r⟩

theorem wp_app {o : Oper} {a : Act} {K : Act → World → Prop} {Q : Exit → Act → World → Prop} (s x : Operand) (t : TypeId)
    (ho : o.op = .call { callee := .builtin .append, args := #[s, x], argTypes := #[t, t] })
    (base : Nat) (e : TypeId) (z : Value) (bytes : Nat) (ht : P.underlying t = some (.slice e)) (hi : (P.info? e).map (fun i => (i.zero, i.size, i.bytes)) = some (some z, 1, bytes)) (hz : z.cells.size = 1)
    (A : Option Addr) (n c : Nat) (vs : List Value) (hs : a.eval s = .slice A n c) (hown : Own w base e A n c vs) (B : Nat) (A2 : Option Addr) (m c2 : Nat) (news : List Value) (hx : a.eval x = .slice A2 m c2) (hr : Row w B A2 m news)
    (h1 : ∀ u ∈ news, u.oneCell' = true) (hb : (n + m) * bytes ≤ 140737488355328) (hp : 0 < bytes) (hbase : base ≤ w.heap.size)
    (h : ∀ A' c' w', Own w' base e A' (n + m) c' (vs ++ news) → Below base w w' → K (a.put o.dst (.slice A' (n + m) c')) w') : o.wp P a w K Q := by
  obtain ⟨A', c', w', hrun, h2, h3⟩ := run_app (P := P) w base t o.type e z bytes ht hi hz A n c vs hown B A2 m c2 news hr h1 hb hp hbase
  unfold Oper.wp execOp
  simp only [ho, resolve, invoke, builtin, Sem.run_bind, Sem.run_pure, Result.andThen_ok, List.map_toArray, List.map_cons, List.map_nil, hs, hx, hrun]
  exact h A' c' w' h2 h3
theorem wpList_app {ops : Array Oper} {rest : List Oper} {o : Oper} {a : Act} {Q : Exit → Act → World → Prop} (hgd : o.guard = none) (s x : Operand) (t : TypeId)
    (ho : o.op = .call { callee := .builtin .append, args := #[s, x], argTypes := #[t, t] })
    (base : Nat) (e : TypeId) (z : Value) (bytes : Nat) (ht : P.underlying t = some (.slice e)) (hi : (P.info? e).map (fun i => (i.zero, i.size, i.bytes)) = some (some z, 1, bytes)) (hz : z.cells.size = 1)
    (A : Option Addr) (n c : Nat) (vs : List Value) (hs : a.eval s = .slice A n c) (hown : Own w base e A n c vs) (B : Nat) (A2 : Option Addr) (m c2 : Nat) (news : List Value) (hx : a.eval x = .slice A2 m c2) (hr : Row w B A2 m news)
    (h1 : ∀ u ∈ news, u.oneCell' = true) (hb : (n + m) * bytes ≤ 140737488355328) (hp : 0 < bytes) (hbase : base ≤ w.heap.size)
    (h : ∀ A' c' w', Own w' base e A' (n + m) c' (vs ++ news) → Below base w w' → wpList P ops Q rest (a.put o.dst (.slice A' (n + m) c')) w') : wpList P ops Q (o :: rest) a w :=
  wpList_plain hgd fun _ hK => wp_app w s x t ho base e z bytes ht hi hz A n c vs hs hown B A2 m c2 news hx hr h1 hb hp hbase fun A' c' w' h2 h3 => hK _ _ (h A' c' w' h2 h3)
end

/-- A row of a new block that was laid whole, its number as it is spelled. -/
theorem Row.laid' (w : World) (t : TypeId) (cs : List Value) (g : Nat) (hg : g = w.heap.size) : Row (w.alloc (.cells cs.toArray t)) (g + 1) (some ⟨g, 0, none⟩) cs.length cs := by
  subst hg; exact Row.laid w t cs

theorem Row.take {w : World} {B n : Nat} {A : Option Addr} {vs : List Value} (h : Row w B A n vs) {k : Nat} (hk : k ≤ n) : Row w B A k (vs.take k) := by
  refine ⟨by rw [List.length_take, h.1]; omega, fun hp => ?_⟩
  obtain ⟨b, o, rfl, hb, hc⟩ := h.2 (by omega)
  refine ⟨b, o, rfl, hb, fun j u hu => hc j u ?_⟩
  rw [List.getElem?_take] at hu
  split at hu
  · exact hu
  · cases hu
theorem sv_one (l : List Int) : ∀ u ∈ sv l, u.oneCell' = true := by
  intro u hu; obtain ⟨x, _, rfl⟩ := List.mem_map.1 hu; rfl
theorem info2 : (Tryz.prog.info? 2).map (fun i => (i.zero, i.size, i.bytes)) = some (some (.int .i64 0), 1, 8) := by kernel_rfl
end Go.Proofs.YtlgedfljmgedfaaGreat.T9
namespace Go.Proofs.YtlgedfljmgedfaaGreat.T9
open Go
theorem two_bits : ∀ (n X Y : Nat), X < 2 ^ n → Y < 2 ^ n → X + Y = 2 * (X &&& Y) + (X ^^^ Y)
  | 0, X, Y, hX, hY => by
    obtain rfl : X = 0 := by omega
    obtain rfl : Y = 0 := by omega
    rfl
  | n + 1, X, Y, hX, hY => by
    have hp : 2 ^ (n + 1) = 2 * 2 ^ n := by rw [Nat.pow_succ]; omega
    have ih := two_bits n (X / 2) (Y / 2) (by omega) (by omega)
    rw [← Nat.and_div_two, ← Nat.xor_div_two] at ih
    have ha : (X &&& Y) % 2 = (X % 2) &&& (Y % 2) := Nat.and_mod_two_pow (n := 1)
    have hx : (X ^^^ Y) % 2 = (X % 2) ^^^ (Y % 2) := Nat.xor_mod_two_pow (n := 1)
    rcases (show X % 2 = 0 ∨ X % 2 = 1 by omega) with h | h <;> rcases (show Y % 2 = 0 ∨ Y % 2 = 1 by omega) with h' | h' <;> rw [h, h'] at ha hx <;> simp only [Nat.reduceAnd, Nat.reduceXor] at ha hx <;> omega
theorem mid_plain (a b X Y A B x y p q : Int) (a0 : -9223372036854775808 ≤ a) (a1 : a ≤ 9223372036854775807) (b0 : -9223372036854775808 ≤ b) (b1 : b ≤ 9223372036854775807)
    (hX : X = a % 18446744073709551616) (hY : Y = b % 18446744073709551616) (h : X + Y = 2 * A + B) (B0 : 0 ≤ B) (B1 : B < 18446744073709551616)
    (hx : X / 9223372036854775808 = x) (hy : Y / 9223372036854775808 = y) (hp : A / 9223372036854775808 = p) (hq : B / 9223372036854775808 = q)
    (hc : x = 0 ∧ y = 0 ∧ p = 0 ∧ q = 0 ∨ x = 0 ∧ y = 1 ∧ p = 0 ∧ q = 1 ∨ x = 1 ∧ y = 0 ∧ p = 0 ∧ q = 1 ∨ x = 1 ∧ y = 1 ∧ p = 1 ∧ q = 0) :
    ((A + 9223372036854775808) % 18446744073709551616 - 9223372036854775808) + ((B + 9223372036854775808) % 18446744073709551616 - 9223372036854775808) / 2 = (a + b) / 2 := by
  rcases hc with ⟨rfl, rfl, rfl, rfl⟩ | ⟨rfl, rfl, rfl, rfl⟩ | ⟨rfl, rfl, rfl, rfl⟩ | ⟨rfl, rfl, rfl, rfl⟩
  · have e1 : (A + 9223372036854775808) % 18446744073709551616 - 9223372036854775808 = A := by omega
    have e2 : (B + 9223372036854775808) % 18446744073709551616 - 9223372036854775808 = B := by omega
    have e3 : X = a := by omega
    have e4 : Y = b := by omega
    omega
  · have e1 : (A + 9223372036854775808) % 18446744073709551616 - 9223372036854775808 = A := by omega
    have e2 : (B + 9223372036854775808) % 18446744073709551616 - 9223372036854775808 = B - 18446744073709551616 := by omega
    have e3 : X = a := by omega
    have e4 : Y = b + 18446744073709551616 := by omega
    omega
  · have e1 : (A + 9223372036854775808) % 18446744073709551616 - 9223372036854775808 = A := by omega
    have e2 : (B + 9223372036854775808) % 18446744073709551616 - 9223372036854775808 = B - 18446744073709551616 := by omega
    have e3 : X = a + 18446744073709551616 := by omega
    have e4 : Y = b := by omega
    omega
  · have e1 : (A + 9223372036854775808) % 18446744073709551616 - 9223372036854775808 = A - 18446744073709551616 := by omega
    have e2 : (B + 9223372036854775808) % 18446744073709551616 - 9223372036854775808 = B := by omega
    have e3 : X = a + 18446744073709551616 := by omega
    have e4 : Y = b + 18446744073709551616 := by omega
    omega
theorem half_bits (X Y : Nat) (hX : X < 18446744073709551616) (hY : Y < 18446744073709551616) :
    (X &&& Y) < 18446744073709551616 ∧ (X ^^^ Y) < 18446744073709551616 ∧ X + Y = 2 * (X &&& Y) + (X ^^^ Y) ∧
    (X / 9223372036854775808 = 0 ∧ Y / 9223372036854775808 = 0 ∧ (X &&& Y) / 9223372036854775808 = 0 ∧ (X ^^^ Y) / 9223372036854775808 = 0 ∨
     X / 9223372036854775808 = 0 ∧ Y / 9223372036854775808 = 1 ∧ (X &&& Y) / 9223372036854775808 = 0 ∧ (X ^^^ Y) / 9223372036854775808 = 1 ∨
     X / 9223372036854775808 = 1 ∧ Y / 9223372036854775808 = 0 ∧ (X &&& Y) / 9223372036854775808 = 0 ∧ (X ^^^ Y) / 9223372036854775808 = 1 ∨
     X / 9223372036854775808 = 1 ∧ Y / 9223372036854775808 = 1 ∧ (X &&& Y) / 9223372036854775808 = 1 ∧ (X ^^^ Y) / 9223372036854775808 = 0) := by
  have e64 : (2 : Nat) ^ 64 = 18446744073709551616 := by decide
  have e63 : (2 : Nat) ^ 63 = 9223372036854775808 := by decide
  have h1 : (X &&& Y) / 2 ^ 63 = X / 2 ^ 63 &&& Y / 2 ^ 63 := Nat.and_div_two_pow
  have h2 : (X ^^^ Y) / 2 ^ 63 = X / 2 ^ 63 ^^^ Y / 2 ^ 63 := Nat.xor_div_two_pow
  have h3 : (X ^^^ Y) < 2 ^ 64 := Nat.xor_lt_two_pow (by rw [e64]; exact hX) (by rw [e64]; exact hY)
  have h4 := two_bits 64 X Y (by rw [e64]; exact hX) (by rw [e64]; exact hY)
  have h5 : (X &&& Y) ≤ X := Nat.and_le_left
  rw [e63] at h1 h2
  rw [e64] at h3
  refine ⟨by omega, h3, h4, ?_⟩
  rcases (show X / 9223372036854775808 = 0 ∨ X / 9223372036854775808 = 1 by omega) with e | e <;> rcases (show Y / 9223372036854775808 = 0 ∨ Y / 9223372036854775808 = 1 by omega) with e' | e' <;> rw [e, e'] at h1 h2 <;> simp only [Nat.reduceAnd, Nat.reduceXor] at h1 h2
  · exact .inl ⟨e, e', h1, h2⟩
  · exact .inr (.inl ⟨e, e', h1, h2⟩)
  · exact .inr (.inr (.inl ⟨e, e', h1, h2⟩))
  · exact .inr (.inr (.inr ⟨e, e', h1, h2⟩))
theorem nat_of (a : Int) : ((BitVec.ofInt 64 a).toNat : Int) = a % 18446744073709551616 := by
  rw [BitVec.toNat_ofInt]
  have : ((2 ^ 64 : Nat) : Int) = 18446744073709551616 := by decide
  rw [this]
  exact Int.toNat_of_nonneg (Int.emod_nonneg _ (by decide))
theorem nat_lt (a : Int) : (BitVec.ofInt 64 a).toNat < 18446744073709551616 := (BitVec.ofInt 64 a).isLt
theorem mid_eq (a b : Int) (a0 : -9223372036854775808 ≤ a) (a1 : a ≤ 9223372036854775807) (b0 : -9223372036854775808 ≤ b) (b1 : b ≤ 9223372036854775807) :
    bits .and .i64 a b + bits .xor .i64 a b / 2 = (a + b) / 2 := by
  have ea : bits .and .i64 a b = IntKind.i64.wrap (((BitVec.ofInt 64 a).toNat &&& (BitVec.ofInt 64 b).toNat : Nat) : Int) := by simp only [bits, BitVec.toNat_and]; rfl
  have ex : bits .xor .i64 a b = IntKind.i64.wrap (((BitVec.ofInt 64 a).toNat ^^^ (BitVec.ofInt 64 b).toNat : Nat) : Int) := by simp only [bits, BitVec.toNat_xor]; rfl
  obtain ⟨h1, h2, h3, h4⟩ := half_bits _ _ (nat_lt a) (nat_lt b)
  have hX := nat_of a
  have hY := nat_of b
  rw [ea, ex, IntKind.wrap_i64, IntKind.wrap_i64]
  clear ea ex
  generalize (BitVec.ofInt 64 a).toNat &&& (BitVec.ofInt 64 b).toNat = A at *
  generalize (BitVec.ofInt 64 a).toNat ^^^ (BitVec.ofInt 64 b).toNat = B at *
  generalize (BitVec.ofInt 64 a).toNat = X at *
  generalize (BitVec.ofInt 64 b).toNat = Y at *
  exact mid_plain a b X Y A B _ _ _ _ a0 a1 b0 b1 hX hY (by omega) (by omega) (by omega) rfl rfl rfl rfl (by omega)
def srt (l : List Int) : List Int := l.mergeSort fun x y => decide (x ≤ y)
theorem srt_perm (l : List Int) : (srt l).Perm l := List.mergeSort_perm l _
theorem srt_len (l : List Int) : (srt l).length = l.length := (srt_perm l).length_eq
/-- What is left of a list; its mean. -/
def kept (l : List Int) : List Int := if 2 < l.length then ((srt l).take (l.length - 1)).drop 1 else srt l
def avg (l : List Int) : Int := ((kept l).getD 0 0 + (kept l).getD ((kept l).length - 1) 0) / 2
theorem kept_len (l : List Int) : (kept l).length = if 2 < l.length then l.length - 2 else l.length := by
  unfold kept
  split
  · rw [List.length_drop, List.length_take, srt_len]; omega
  · exact srt_len l
theorem kept_mem {l : List Int} {x : Int} (h : x ∈ kept l) : x ∈ l := by
  refine (srt_perm l).mem_iff.1 ?_
  unfold kept at h
  split at h
  · exact List.mem_of_mem_take (List.mem_of_mem_drop h)
  · exact h
theorem kept_pos {l : List Int} (h : l ≠ []) : 0 < (kept l).length := by
  have : 0 < l.length := List.length_pos_iff.2 h
  rw [kept_len]; split <;> omega
theorem getD_mem {l : List Int} {i : Nat} (h : i < l.length) : l.getD i 0 ∈ l := by
  simp [List.getD, List.getElem?_eq_getElem h]
theorem avg_within {l : List Int} (h : l ≠ []) {a b : Int} (hb : ∀ x ∈ l, a ≤ x ∧ x ≤ b) : a ≤ avg l ∧ avg l ≤ b := by
  have hp := kept_pos h
  have h1 := hb _ (kept_mem (getD_mem hp))
  have h2 := hb _ (kept_mem (getD_mem (show (kept l).length - 1 < (kept l).length by omega)))
  unfold avg
  omega
/-- The greatest, and the least. -/
def mx : List Int → Int
  | [] => 0
  | a :: t => t.foldl max a
def mn : List Int → Int
  | [] => 0
  | a :: t => t.foldl min a
/-- Readings that are off by no more than so much. -/
def Near (off : Int) : List Int → List Int → Prop
  | [], [] => True
  | c :: cs, x :: xs => (c - off ≤ x ∧ x ≤ c + off) ∧ Near off cs xs
  | _, _ => False
theorem Near.len {off : Int} : ∀ {c x : List Int}, Near off c x → x.length = c.length
  | [], [], _ => rfl
  | _ :: _, _ :: _, hn => by simp [hn.2.len]
theorem Near.low {off v : Int} : ∀ {c x : List Int}, Near off c x → c.countP (fun z => decide (z ≤ v)) ≤ x.countP fun z => decide (z ≤ v + off)
  | [], [], _ => Nat.le_refl _
  | a :: c, b :: x, hn => by
    have := hn.2.low (v := v)
    have h1 := hn.1
    rw [List.countP_cons, List.countP_cons]
    by_cases h : a ≤ v
    · rw [if_pos (decide_eq_true h), if_pos (decide_eq_true (show b ≤ v + off by omega))]; omega
    · rw [if_neg (by simpa using h)]; omega
theorem Near.high {off v : Int} : ∀ {c x : List Int}, Near off c x → c.countP (fun z => decide (v ≤ z)) ≤ x.countP fun z => decide (v - off ≤ z)
  | [], [], _ => Nat.le_refl _
  | a :: c, b :: x, hn => by
    have := hn.2.high (v := v)
    have h1 := hn.1
    rw [List.countP_cons, List.countP_cons]
    by_cases h : v ≤ a
    · rw [if_pos (decide_eq_true h), if_pos (decide_eq_true (show v - off ≤ b by omega))]; omega
    · rw [if_neg (by simpa using h)]; omega
end Go.Proofs.YtlgedfljmgedfaaGreat.T9
