/-
  Words for memory: a thing's six cells, a slice of things that came in and reads as a list (Row), one that the call made itself (Own), what loads, stores, append, make and copy do to them. No condition but what each head says.
-/
import Derived.Test.YtpfidohneddgkaaProg
import Derived.Test.YtpfidohneddgkaaP
import Derived.WalkKit
import Derived.WalkSpells
import Derived.WalkLawsBesides
import Derived.LoopTactic
import Derived.Below
import Derived.Maps.AppendAt
import Derived.OwnWalk
import Derived.Laws.OwnMore
import Derived.Deep.MidRow
import Derived.Lib.QuietBelow
namespace Go.Proofs.Ytpfidohneddgkaa
open Go Go.RowKit

theorem hid {p : Prop} (h : p) : Hid p := h
theorem ret_bool {a b : Bool} (h : a = b) : Ending.returned (.bool a) = .returned (.bool b) := by rw [h]
theorem ret_int {k : IntKind} {a b : Int} (h : a = b) : Ending.returned (.int k a) = .returned (.int k b) := by rw [h]

/-- The cells of a thing, its value, the cells of some. -/
def enc (x : It) : List Value := [.int .i64 x.1, .int .i64 x.2.1, .int .u64 x.2.2.1, .int .i64 x.2.2.2.1, .int .i64 x.2.2.2.2.1, .int .u64 x.2.2.2.2.2]
def itv (x : It) : Value := .agg (enc x).toArray
def flat (l : List It) : List Value := l.flatMap enc
theorem enc_len (x : It) : (enc x).length = 6 := rfl
theorem enc_one (x : It) : ∀ u ∈ enc x, u.oneCell' = true := by
  intro u hu; simp [enc] at hu; rcases hu with rfl | rfl | rfl | rfl | rfl | rfl <;> rfl
theorem flat_nil : flat [] = [] := rfl
theorem flat_cons (x : It) (l : List It) : flat (x :: l) = enc x ++ flat l := rfl
theorem flat_len (l : List It) : (flat l).length = l.length * 6 := by
  induction l with
  | nil => rfl
  | cons x l ih => rw [flat_cons, List.length_append, ih, enc_len, List.length_cons]; omega
theorem flat_app (a b : List It) : flat (a ++ b) = flat a ++ flat b := by simp [flat]
theorem flat_one (l : List It) : ∀ u ∈ flat l, u.oneCell' = true := by
  intro u hu
  obtain ⟨x, _, hx⟩ := List.mem_flatMap.1 hu
  exact enc_one x u hx
theorem flat_at : ∀ (l : List It) (i j : Nat), i < l.length → j < 6 → (flat l)[i * 6 + j]? = (enc (nth l i))[j]?
  | x :: l, 0, j, _, hj => by rw [flat_cons, List.getElem?_append_left (by rw [enc_len]; omega)]; simp [nth]
  | x :: l, i + 1, j, hi, hj => by
    rw [flat_cons, List.getElem?_append_right (by rw [enc_len]; omega), enc_len, show (i + 1) * 6 + j - 6 = i * 6 + j by omega, flat_at l i j (by simpa using hi) hj]
    simp [nth, List.getD]
theorem flat_inj : ∀ {a b : List It}, flat a = flat b → a = b
  | [], [], _ => rfl
  | [], y :: b, h => by simp [flat_cons, flat_nil, enc] at h
  | x :: a, [], h => by simp [flat_cons, flat_nil, enc] at h
  | x :: a, y :: b, h => by
    rw [flat_cons, flat_cons] at h
    have := List.append_inj h (by rw [enc_len, enc_len])
    obtain ⟨x1, x2, x3, x4, x5, x6⟩ := x
    obtain ⟨y1, y2, y3, y4, y5, y6⟩ := y
    have e := this.1
    simp [enc] at e
    rw [flat_inj this.2]
    simp [e]
theorem flat_set (l : List It) (i : Nat) (x : It) (hi : i < l.length) : flat (l.set i x) = (flat l).take (i * 6) ++ (enc x ++ (flat l).drop (i * 6 + 6)) := by
  induction l generalizing i with
  | nil => simp at hi
  | cons y l ih =>
    cases i with
    | zero =>
      have e : (enc y).length = 6 := rfl
      rw [List.set_cons_zero, flat_cons, flat_cons, Nat.zero_mul, List.take_zero, List.nil_append, Nat.zero_add, List.drop_append_of_le_length (by omega), List.drop_of_length_le (by omega), List.nil_append]
    | succ i =>
      have e : (enc y).length = 6 := rfl
      rw [List.set_cons_succ, flat_cons, flat_cons, ih i (by simpa using hi), List.take_append, List.drop_append, e, List.take_of_length_le (l := enc y) (by omega), List.drop_of_length_le (l := enc y) (by omega), List.nil_append, show (i + 1) * 6 - 6 = i * 6 by omega, show (i + 1) * 6 + 6 - 6 = i * 6 + 6 by omega, List.append_assoc]

/-- A slice of n things at A reads as xs, and lies below block B. -/
def Row (w : World) (B : Nat) (A : Option Addr) (n : Nat) (xs : List It) : Prop :=
  xs.length = n ∧ (0 < n → ∃ b o, A = some ⟨b, o, none⟩ ∧ b < B ∧ ∀ j u, (flat xs)[j]? = some u → w.cell? ⟨b, o + j, none⟩ = some u)
/-- A slice that was made by the call itself: from block 'base' on. -/
def Own (w : World) (base : Nat) (A : Option Addr) (n c : Nat) (xs : List It) : Prop := w.ownsRow base 36 6 (.slice A n c) n (flat xs)

theorem plain_add (b o j : Nat) : (⟨b, o, none⟩ : Addr).add j = ⟨b, o + j, none⟩ := by unfold Addr.add; split <;> simp_all
section
variable {w w' : World} {B B' n : Nat} {A : Option Addr} {xs : List It}
theorem Row.nil (w : World) (B : Nat) (A : Option Addr) : Row w B A 0 [] := ⟨rfl, fun h => absurd h (by omega)⟩
theorem Row.keep (h : Row w B A n xs) (hk : ∀ p : Addr, p.block < B → w'.cell? p = w.cell? p) : Row w' B A n xs :=
  ⟨h.1, fun hn => by
    obtain ⟨b, o, e, hb, hc⟩ := h.2 hn
    exact ⟨b, o, e, hb, fun j u hu => (hk ⟨b, o + j, none⟩ hb).trans (hc j u hu)⟩⟩
theorem Row.below (h : Row w B A n xs) (hb : Below B w w') : Row w' B A n xs := h.keep fun _ hp => hb.cell hp
theorem Row.more (h : Row w B A n xs) (hB : B ≤ B') : Row w B' A n xs :=
  ⟨h.1, fun hn => by
    obtain ⟨b, o, e, hb, hc⟩ := h.2 hn
    exact ⟨b, o, e, by omega, hc⟩⟩
/-- One of its things. -/
theorem Row.at_ (h : Row w B A n xs) {k : Nat} (hk : k < n) : ∃ b o, A = some ⟨b, o, none⟩ ∧ b < B ∧ w.rangeAt b (o + k * 6) (enc (nth xs k)) := by
  obtain ⟨b, o, e, hb, hc⟩ := h.2 (by omega)
  refine ⟨b, o, e, hb, fun j v hv => ?_⟩
  have hj : j < 6 := by have := (List.getElem?_eq_some_iff.1 hv).1; rwa [enc_len] at this
  rw [Nat.add_assoc]
  exact hc _ v (by rw [flat_at xs k j (by rw [h.1]; exact hk) hj]; exact hv)
theorem Row.all (h : Row w B A n xs) (hn : 0 < n) : ∃ b o, A = some ⟨b, o, none⟩ ∧ b < B ∧ ∀ k, k < n → w.rangeAt b (o + k * 6) (enc (nth xs k)) := by
  obtain ⟨b, o, e, hb, hc⟩ := h.2 hn
  refine ⟨b, o, e, hb, fun k hk => ?_⟩
  obtain ⟨b', o', e', _, hr⟩ := h.at_ hk
  rw [e] at e'
  injection e' with e'; injection e' with e1 e2
  subst e1; subst e2
  exact hr
/-- A piece of it. -/
theorem Row.cut (h : Row w B A n xs) {l r c : Nat} (hl : l ≤ r) (hr : r ≤ n) (hc : n ≤ c) :
    Row w B (if c = l then A else A.map (fun x => x.add (l * 6))) (r - l) ((xs.take r).drop l) := by
  refine ⟨by rw [List.length_drop, List.length_take, h.1]; omega, fun hp => ?_⟩
  obtain ⟨b, o, rfl, hb, hcell⟩ := h.2 (by omega)
  rw [if_neg (by omega)]
  refine ⟨b, o + l * 6, by simp [plain_add], hb, fun j u hu => ?_⟩
  have hj : j < (r - l) * 6 := by
    have := (List.getElem?_eq_some_iff.1 hu).1
    rw [flat_len, List.length_drop, List.length_take, h.1] at this
    have e : min r n - l = r - l := by omega
    rwa [e] at this
  have e1 : flat xs = flat (xs.take l) ++ (flat ((xs.take r).drop l) ++ flat (xs.drop r)) := by
    rw [← flat_app, ← flat_app]
    congr 1
    have e2 : (xs.take r).drop l ++ xs.drop r = xs.drop l := by
      conv => rhs; rw [← List.take_append_drop r xs]
      rw [List.drop_append_of_le_length (by rw [List.length_take, h.1]; omega)]
    rw [e2, List.take_append_drop]
  rw [Nat.add_assoc]
  refine hcell _ u ?_
  rw [e1, List.getElem?_append_right (by rw [flat_len, List.length_take, h.1, Nat.min_eq_left (by omega)]; omega), flat_len, List.length_take, h.1, Nat.min_eq_left (by omega), Nat.add_sub_cancel_left, List.getElem?_append_left (by rw [flat_len, List.length_drop, List.length_take, h.1, Nat.min_eq_left (by omega)]; exact hj)]
  exact hu
theorem Own.len {base c : Nat} (h : Own w base A n c xs) : xs.length = n := by
  have := h.1; rw [flat_len] at this; omega
theorem Own.row {base c : Nat} (h : Own w base A n c xs) : Row w w.heap.size A n xs := by
  refine ⟨h.len, fun hn => ?_⟩
  rcases h.2 with ⟨_, h0⟩ | ⟨g, cap, cur, hv, hb, hg, _⟩
  · omega
  · have hA : A = some ⟨g, 0, none⟩ := by injection hv
    subst hA
    refine ⟨g, 0, rfl, (Array.getElem?_eq_some_iff.1 hg).1, fun j u hu => ?_⟩
    have := h.cells (g := g) rfl j u hu
    rwa [plain_add] at this
theorem Own.cap {base c : Nat} (h : Own w base A n c xs) : n ≤ c := by
  rcases h.2 with ⟨hv, h0⟩ | ⟨g, cap, cur, hv, hb, hg, hle, _⟩
  · omega
  · have : c = cap := by injection hv
    omega
theorem Own.nil (w : World) (base : Nat) : Own w base none 0 0 [] := World.ownsRow_nil w base 36 6
theorem Own.below {base c : Nat} (h : Own w base A n c xs) (hb : Below w.heap.size w w') : Own w' base A n c xs := by
  refine ⟨h.1, ?_⟩
  rcases h.2 with h0 | ⟨g, cap, cur, hv, hg, hh, r⟩
  · exact .inl h0
  · exact .inr ⟨g, cap, cur, hv, hg, (hb.block g (Array.getElem?_eq_some_iff.1 hh).1).trans hh, r⟩
theorem Own.base_le {base base' c : Nat} (h : Own w base A n c xs) (hb : base' ≤ base) : Own w base' A n c xs := by
  refine ⟨h.1, ?_⟩
  rcases h.2 with h0 | ⟨g, cap, cur, hv, hg, hh, r⟩
  · exact .inl h0
  · exact .inr ⟨g, cap, cur, hv, by omega, hh, r⟩
theorem Own.alloc {base c : Nat} (h : Own w base A n c xs) (o : Obj) : Own (w.alloc o) base A n c xs := World.ownsRow.alloc h o
end

/-! ### Loads and stores of whole things -/
theorem size24 : (Try.prog.info? 36).map (·.size) = some 6 := by kernel_rfl
theorem info24 : (Try.prog.info? 36).map (fun i => (i.zero, i.size, i.bytes)) = some (some (itv (0, 0, 0, 0, 0, 0)), 6, 48) := by kernel_rfl
theorem ld (w : World) (b o : Nat) (x : It) (h : w.rangeAt b o (enc x)) : (Instr.loadAt 36 (.pointer (some ⟨b, o, none⟩))).run Try.prog w = .ok (itv x) w :=
  run_loadAt_mid w b o 36 (enc x) _ h Try.underlying36 rfl (by rw [size24]; rfl)
theorem ldv (w : World) (b o : Nat) (x : It) (h : w.rangeAt b o (enc x)) : (loadVar 36 ⟨b, o, none⟩).run Try.prog w = .ok (itv x) w :=
  run_loadVar_mid w b o 36 (enc x) _ h Try.underlying36 rfl (by rw [size24]; rfl)
theorem st (w : World) (b o : Nat) (x : It) (h : w.there b o 6) : (Instr.storeAt 36 (.pointer (some ⟨b, o, none⟩)) (itv x)).run Try.prog w = .ok () (w.setCells b o (enc x)) :=
  run_storeAt_mid w b o 36 (enc x).toArray h (by rw [size24]; rfl) (all_oneCell_toArray (enc_one x))
end Go.Proofs.Ytpfidohneddgkaa
