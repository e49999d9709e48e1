/-
  A: Contracts of pico.May and of what it calls: whether all of one, two or three given numbers are times; no condition but that the cells hold them. A first part of the proofs of the Pico statements.
  GA: Words for memory, for structs of any shape (Sh): cells of one, of some; a slice of such that came in and reads as a list (Rw), one that the call made itself (Ow), a variable that holds one (Var); what box, alloc, load, store, make, a literal of one and append do to them. No condition but what each head says.
  LP: Plain words of the lexer, without the model's runs: a rune of a list of bytes, a piece, a number's and a piece's token, what a text is cut into, and a byte's place; and what follows of them alone. No condition.
  LA: Contracts of lex.isLetter, lex.isDigit, lex.isSmall, lex.behind, at every argument of its kind (a place's numbers below 2^40).
  LB: The contract of lex.Word: whether any text is a word (P14.1); under: the text has fewer than 2^62 bytes.
  Shelf: The contracts of the functions of Go's library that the statements of this seat reach, laid at this translation; each one's conditions stand in its head.
-/
import Derived.Test.YtkfnkieljcipnaaGreatDoorProg
import Derived.WalkKit
import Derived.WalkSpells
import Derived.WalkLawsBesides
import Derived.LoopTactic
import Derived.Below
import Derived.Maps.AppendAt
import Derived.OwnWalk
import Derived.Laws.OwnMore
import Derived.Laws.BytesArg
import Derived.Deep.MidRow
import Derived.Lib.QuietBelow
import Derived.Lib.OthersKept
import GoSem.Core.Utf8
import Derived.Lib.DecodeN
import Derived.Laws.RangeAny
import Derived.Shelf.Strings.Builder1
import Derived.Shelf.Strings.Trim
import Derived.Shelf.Small.Utf8
import Derived.Shelf.Small.Bits
import Derived.Shelf.Small.Strs
import Derived.Shelf.Small.Wraps
import Derived.Shelf.Strconv.Itoa0
import Derived.Shelf.Strconv.Itoa1
import Derived.Shelf.LaysM
import Derived.Shelf.Strconv.Itoa2
import Derived.Shelf.Strconv.Itoa3
import Derived.Shelf.Strconv.Itoa4
import Derived.Shelf.Strconv.ParseIntEmpty
import Derived.Shelf.Strconv.Clone
import Derived.Shelf.Strconv.SyntaxError
import Derived.Shelf.LaysC
import Derived.Shelf.Strconv.ToError
import Derived.Shelf.Strconv.Lower
import Derived.Shelf.Strconv.ParseUint10
import Derived.Shelf.Strconv.ParseUint10Empty
import Derived.Shelf.Strconv.ParseUint10Any
import Derived.Shelf.Strconv.ParseInt10
import Derived.Shelf.Strconv.RangeError
import Derived.Shelf.Strconv.ToErrorRange
import Derived.Shelf.Strconv.ParseUintEmpty
import Derived.Shelf.Strconv.ParseUint10b64
import Derived.Shelf.Strconv.ParseUint10b32
import Derived.Shelf.Strconv.ParseUint10b16
import Derived.Shelf.Strconv.ParseUint10b8
import Derived.Shelf.Strconv.ParseUint10At
import Derived.Shelf.Strconv.ParseInt10At64
import Derived.Shelf.Strconv.ParseInt10At32
import Derived.Shelf.Strconv.ParseInt10At16
import Derived.Shelf.Strconv.ParseInt10At8
import Derived.Shelf.Strconv.ParseInt10All
import Derived.Shelf.Strconv.ParseIntPublic10
import Derived.Shelf.Strconv.ErrVarParseInt
import Derived.Shelf.Strings.Search1
import Derived.Shelf.Strings.Search2
import Derived.Shelf.Strings.Search3
import Derived.Shelf.Strings.Shaped
import Derived.Shelf.Strings.Prefix
import Derived.Shelf.Strings.Runes
import Derived.Shelf.Strings.AsciiSet
import Derived.Shelf.Bits.Mul64
import Derived.Shelf.Unicode.DecodeSlow
import Derived.Shelf.Unicode.DecodeAny
import Derived.Shelf.Strings.SlTrimAscii
/-! A -/
namespace Go.Proofs.YtkfnkieljcipnaaGreatDoor
open Go Go.RowKit

def timeB (x : Int) : Bool := decide (-1152921504606846976 ≤ x ∧ x ≤ 1152921504606846976)

theorem hid {p : Prop} (h : p) : Hid p := h
theorem ret_bool {a b : Bool} (h : a = b) : Ending.returned (.bool a) = .returned (.bool b) := by rw [h]
theorem ret_int {k : IntKind} {a b : Int} (h : a = b) : Ending.returned (.int k a) = .returned (.int k b) := by rw [h]

theorem may1_yes (x : Int) (w : World) (h1 : -1152921504606846976 ≤ x) (h2 : x ≤ 1152921504606846976) : Calls Tryz.prog 135 #[.int .i64 x] w fun e w' => e = .returned (.bool false) ∧ w = w' := by
  go_enter Tryz.func135, Tryz.ntmps135
  go_wp2
  all_goals (go_ret; exact ⟨ret_bool (by simp; omega), rfl⟩)

theorem may1_no (x : Int) (w : World) (h1 : x < -1152921504606846976 ∨ 1152921504606846976 < x) : Calls Tryz.prog 135 #[.int .i64 x] w fun e w' => e = .returned (.bool true) ∧ w = w' := by
  rcases h1 with h | h
  · go_enter Tryz.func135, Tryz.ntmps135
    go_wp2
    all_goals (go_ret; exact ⟨rfl, rfl⟩)
  · have h' : ¬ x < -1152921504606846976 := by omega
    go_enter Tryz.func135, Tryz.ntmps135
    go_wp2
    all_goals (go_ret; exact ⟨ret_bool (by simp <;> omega), rfl⟩)

theorem may1_any (x : Int) (w : World) : Calls Tryz.prog 135 #[.int .i64 x] w fun e w' => e = .returned (.bool (!timeB x)) ∧ w = w' := by
  by_cases h : -1152921504606846976 ≤ x ∧ x ≤ 1152921504606846976
  · exact (may1_yes x w h.1 h.2).mono fun e w' ⟨he, hw⟩ => ⟨by rw [he]; simp [timeB, h], hw⟩
  · exact (may1_no x w (by omega)).mono fun e w' ⟨he, hw⟩ => ⟨by rw [he]; simp [timeB, h], hw⟩

theorem size_any (t : Int) (w : World) (h1 : -1152921504606846976 ≤ t) (h2 : t ≤ 1152921504606846976) : Calls Tryz.prog 159 #[.int .i64 t] w fun e w' => e = .returned (.int .u64 (t.natAbs : Nat)) ∧ w = w' := by
  go_enter Tryz.func159, Tryz.ntmps159
  go_wp2
  all_goals (go_ret; exact ⟨ret_int (by omega), rfl⟩)

/-- all of the first k are times -/
def allB (zs : List Int) : Bool := zs.all timeB

def IdxPost (zs : List Int) (w : World) (e : Ending) (w' : World) : Prop := ∃ r : Int, e = .returned (.int .i64 r) ∧ decide (0 ≤ r) = !allB zs ∧ w = w'

theorem allB_of {zs : List Int} (h : ∀ j, j < zs.length → timeB zs[j]! = true) : allB zs = true := by
  unfold allB; rw [List.all_eq_true]; intro x hx
  obtain ⟨j, hj, rfl⟩ := List.getElem_of_mem hx
  have := h j hj
  rwa [getElem!_pos zs j hj] at this
theorem not_allB_of {zs : List Int} (k : Nat) (hk : k < zs.length) (h : timeB zs[k]! = false) : allB zs = false := by
  unfold allB
  rw [getElem!_pos zs k hk] at h
  rw [List.all_eq_false]; exact ⟨zs[k], List.getElem_mem hk, by simp [h]⟩

set_option maxHeartbeats 400000 in
theorem idx_any (b off c : Nat) (zs : List Int) (w : World) (hn : zs.length ≤ 9223372036854775807) (hc : ∀ j, j < zs.length → w.cell? ⟨b, off + j, none⟩ = some (.int .i64 zs[j]!)) :
    Calls Tryz.prog 153 #[.slice (some ⟨b, off, none⟩) zs.length c, .func (.func 135) #[] #[]] w (IdxPost zs w) := by
  go_enter Tryz.func153, Tryz.ntmps153
  go_wp2
  go_loop [8] (fun i => ∃ k : Nat, k ≤ zs.length ∧ i = .int .i64 k ∧ (∀ j, j < k → timeB zs[j]! = true)) (fun i => zs.length - (intOf i).toNat)
  case atStart => exact ⟨0, Nat.zero_le _, rfl, by intro j hj; omega⟩
  case round =>
    obtain ⟨k, hk, rfl, hall⟩ := hrel
    by_cases hlt : k < zs.length
    · have hcell := hc k hlt
      by_cases ht : -1152921504606846976 ≤ zs[k]! ∧ zs[k]! ≤ 1152921504606846976
      · have HC : Hid (∀ j, j < k + 1 → timeB zs[j]! = true) := by
          refine hid (fun j hj => ?_)
          rcases Nat.lt_succ_iff_lt_or_eq.1 hj with h | rfl
          · exact hall j h
          · simp only [timeB, decide_eq_true_eq]; exact ht
        clear hc hall
        obtain ⟨h1, h2⟩ := ht
        generalize zs[k]! = z at h1 h2 hcell
        go_wp2_with (go_at_call 135; refine (may1_yes _ _ h1 h2).mono ?_; rintro e w' ⟨rfl, rfl⟩)
        exact ⟨⟨k + 1, by omega, by go_num, HC.out⟩, by simp [intOf]; omega⟩
      · have HF : Hid (allB zs = false) := hid (not_allB_of k hlt (by simp only [timeB, decide_eq_false_iff_not]; exact ht))
        have h1 : zs[k]! < -1152921504606846976 ∨ 1152921504606846976 < zs[k]! := by omega
        clear hc hall ht
        generalize zs[k]! = z at h1 hcell
        have H1 : Hid (z < -1152921504606846976 ∨ 1152921504606846976 < z) := hid h1
        clear h1
        go_wp2_with (go_at_call 135; refine (may1_no _ _ H1.out).mono ?_; rintro e w' ⟨rfl, rfl⟩)
        go_ret
        exact ⟨(k : Int), rfl, by rw [HF.out]; simp, rfl⟩
    · have HF : Hid (allB zs = true) := hid (allB_of fun j hj => hall j (by omega))
      clear hc hall
      go_wp2
      go_ret
      exact ⟨-1, rfl, by rw [HF.out]; decide, rfl⟩

theorem contains_any (b off c : Nat) (zs : List Int) (ok : Bool) (hok : allB zs = ok) (w : World) (hn : zs.length ≤ 9223372036854775807) (hc : ∀ j, j < zs.length → w.cell? ⟨b, off + j, none⟩ = some (.int .i64 zs[j]!)) :
    Calls Tryz.prog 134 #[.slice (some ⟨b, off, none⟩) zs.length c, .func (.func 135) #[] #[]] w fun e w' => e = .returned (.bool (!ok)) ∧ w = w' := by
  have HI := hid (idx_any b off c zs w hn hc)
  have HK := hid hok
  clear hc hok
  go_enter Tryz.func134, Tryz.ntmps134
  go_wp2_with fail
  refine HI.out.mono ?_
  rintro e w' ⟨r, rfl, hr, rfl⟩
  have HR := hid hr
  clear hr
  go_wp2
  go_ret
  exact ⟨ret_bool (by rw [← HK.out, ← HR.out]), rfl⟩

theorem may_any (b off c : Nat) (zs : List Int) (ok : Bool) (hok : allB zs = ok) (w : World) (hn : zs.length ≤ 9223372036854775807) (hc : ∀ j, j < zs.length → w.cell? ⟨b, off + j, none⟩ = some (.int .i64 zs[j]!)) :
    Calls Tryz.prog 118 #[.slice (some ⟨b, off, none⟩) zs.length c] w fun e w' => e = .returned (.bool ok) ∧ w = w' := by
  have HI := hid (contains_any b off c zs ok hok w hn hc)
  clear hc hok
  go_enter Tryz.func118, Tryz.ntmps118
  go_wp2_with fail
  refine HI.out.mono ?_
  rintro e w' ⟨rfl, rfl⟩
  go_wp2
  go_ret
  exact ⟨ret_bool (by simp), rfl⟩

theorem may_1 (b c : Nat) (x : Int) (ok : Bool) (hok : timeB x = ok) (w : World) (hc : w.cell? ⟨b, 0, none⟩ = some (.int .i64 x)) :
    Calls Tryz.prog 118 #[.slice (some ⟨b, 0, none⟩) 1 c] w fun e w' => e = .returned (.bool ok) ∧ w = w' :=
  may_any b 0 c [x] ok (by simp [allB, hok]) w (by simp) (fun j hj => by
    match j, hj with
    | 0, _ => exact hc)
theorem may_2 (b c : Nat) (x y : Int) (ok : Bool) (hok : (timeB x && timeB y) = ok) (w : World) (hc : w.cell? ⟨b, 0, none⟩ = some (.int .i64 x)) (hc1 : w.cell? ⟨b, 1, none⟩ = some (.int .i64 y)) :
    Calls Tryz.prog 118 #[.slice (some ⟨b, 0, none⟩) 2 c] w fun e w' => e = .returned (.bool ok) ∧ w = w' :=
  may_any b 0 c [x, y] ok (by simpa [allB] using hok) w (by simp) (fun j hj => by
    match j, hj with
    | 0, _ => exact hc
    | 1, _ => exact hc1)
theorem may_3 (b c : Nat) (x y z : Int) (ok : Bool) (hok : (timeB x && (timeB y && timeB z)) = ok) (w : World) (hc : w.cell? ⟨b, 0, none⟩ = some (.int .i64 x)) (hc1 : w.cell? ⟨b, 1, none⟩ = some (.int .i64 y)) (hc2 : w.cell? ⟨b, 2, none⟩ = some (.int .i64 z)) :
    Calls Tryz.prog 118 #[.slice (some ⟨b, 0, none⟩) 3 c] w fun e w' => e = .returned (.bool ok) ∧ w = w' :=
  may_any b 0 c [x, y, z] ok (by simpa [allB] using hok) w (by simp) (fun j hj => by
    match j, hj with
    | 0, _ => exact hc
    | 1, _ => exact hc1
    | 2, _ => exact hc2)

end Go.Proofs.YtkfnkieljcipnaaGreatDoor

/-! GA -/
namespace Go.Proofs.YtkfnkieljcipnaaGreatDoor
open Go Go.RowKit

theorem plain_add (b o j : Nat) : (⟨b, o, none⟩ : Addr).add j = ⟨b, o + j, none⟩ := by unfold Addr.add; split <;> simp_all

/-- Cells laid one by one over cells of the same number. -/
theorem foldl_laid : ∀ (l : List Value) (k : Nat) (C : Array Value), k + l.length ≤ C.size →
    ((l.zipIdx k).foldl (fun cs x => cs.setIfInBounds x.snd x.fst) C).toList = C.toList.take k ++ (l ++ C.toList.drop (k + l.length))
  | [], k, C, _ => by simp
  | v :: l, k, C, h => by
    rw [List.zipIdx_cons, List.foldl_cons, foldl_laid l (k + 1) _ (by simp at h ⊢; omega)]
    have hk : k < C.toList.length := by simp at h ⊢; omega
    simp only [Array.toList_setIfInBounds]
    have e : (C.toList.take k).length = k := by rw [List.length_take]; omega
    rw [List.take_set, List.drop_set_of_lt (by omega), List.length_cons, show k + 1 + l.length = k + (l.length + 1) by omega, List.take_succ_eq_append_getElem hk, List.set_append_right _ _ (by omega), e, Nat.sub_self, List.append_assoc]
    rfl
theorem foldl_whole (l : List Value) (C : Array Value) (h : C.size = l.length) : (l.zipIdx 0).foldl (fun cs x => cs.setIfInBounds x.snd x.fst) C = l.toArray := by
  apply Array.ext'
  rw [foldl_laid l 0 C (by omega)]
  simp [h]

/-- A shape: of a struct type T that has N cells, and of []T. -/
structure Sh (P : Program) (α : Type) where
  enc : α → List Value
  N : Nat
  T : TypeId
  S : TypeId
  by_ : Nat
  z : α
  d : TypeDesc
  len : ∀ x, (enc x).length = N
  pos : 0 < N
  one : ∀ x, ∀ u ∈ enc x, u.oneCell' = true
  undS : P.underlying S = some (.slice T)
  undT : P.underlying T = some d
  isRow : d.isRow = true
  info : (P.info? T).map (fun i => (i.zero, i.size, i.bytes)) = some (some (.agg (enc z).toArray), N, by_)
  size : (P.info? T).map (·.size) = some N
  zero : ∀ w, (zeroValue T).run P w = .ok (.agg (enc z).toArray) w
  small : by_ ≤ 10000
  smallN : N ≤ 1000

/-- Only block g is another one. -/
def Oth (g : Nat) (w w' : World) : Prop := ∀ k, k ≠ g → w'.heap[k]? = w.heap[k]?
theorem range_keep {w w' : World} {b o : Nat} {cs : List Value} (h : w.rangeAt b o cs) {B : Nat} (hb : b < B) (hk : Below B w w') : w'.rangeAt b o cs := fun j v hv => (hk.cell (p := ⟨b, o + j, none⟩) hb).trans (h j v hv)
theorem there_keep {w w' : World} {b o n : Nat} (h : w.there b o n) {B : Nat} (hb : b < B) (hk : Below B w w') : w'.there b o n := fun j hj =>
  ⟨by rw [hk.cell (p := ⟨b, o + j, none⟩) hb]; exact (h j hj).1, by rw [hk.frozen (p := ⟨b, o + j, none⟩) hb]; exact (h j hj).2⟩
theorem range_other {w w' : World} {b o g : Nat} {cs : List Value} (h : w.rangeAt b o cs) (hb : b ≠ g) (ho : Oth g w w') : w'.rangeAt b o cs := fun j v hv => (World.cell?_of_block (a := ⟨b, o + j, none⟩) (ho b hb)).trans (h j v hv)
theorem there_other {w w' : World} {b o n g : Nat} (h : w.there b o n) (hb : b ≠ g) (ho : Oth g w w') : w'.there b o n := fun j hj =>
  ⟨by rw [World.cell?_of_block (a := ⟨b, o + j, none⟩) (ho b hb)]; exact (h j hj).1, by rw [World.frozen?_of_block (a := ⟨b, o + j, none⟩) (ho b hb)]; exact (h j hj).2⟩
theorem range_new (w : World) (cs : List Value) (t : TypeId) : (w.alloc (.cells cs.toArray t)).rangeAt w.heap.size 0 cs := fun j v hv => by
  rw [cell_of_row (w.alloc (.cells cs.toArray t)) w.heap.size (0 + j) cs.toArray t (0, 0) (heap_alloc_new w _)]
  simpa using hv
theorem there_new (w : World) (cs : List Value) (t : TypeId) : (w.alloc (.cells cs.toArray t)).there w.heap.size 0 cs.length := fun j hj => by
  refine ⟨?_, frozen_of_row _ _ _ _ _ (heap_alloc_new w _)⟩
  rw [range_new w cs t j _ (List.getElem?_eq_getElem hj)]; rfl
/-- Cells of a block set: no other one is touched. -/
theorem setCells_oth (g : Nat) : ∀ (vs : List Value) (o : Nat) (w : World), Below g w (w.setCells g o vs) ∧ Oth g w (w.setCells g o vs) := by
  intro vs
  induction vs with
  | nil => exact fun o w => ⟨Below.refl _ _, fun _ _ => rfl⟩
  | cons v r ih => exact fun o w => ⟨((Below.refl _ _).setCell (p := ⟨g, o, none⟩) (Nat.le_refl _) v).trans (ih (o + 1) _).1, fun k hk => ((ih (o + 1) _).2 k hk).trans (Below.heap_setCell w ⟨g, o, none⟩ v k hk)⟩
theorem setCells_size (g : Nat) : ∀ (vs : List Value) (o : Nat) (w : World), (w.setCells g o vs).heap.size = w.heap.size := by
  intro vs
  induction vs with
  | nil => exact fun o w => rfl
  | cons v r ih => exact fun o w => (ih (o + 1) _).trans (by simp)

namespace Sh
variable {P : Program} {α : Type} (σ : Sh P α)
def val (x : α) : Value := .agg (σ.enc x).toArray
def flat (l : List α) : List Value := l.flatMap σ.enc
def nth (l : List α) (k : Nat) : α := l.getD k σ.z
theorem nth_of {l : List α} {k : Nat} {x : α} (h : l[k]? = some x) : σ.nth l k = x := by simp [nth, List.getD, h]
theorem nth_get {l : List α} {k : Nat} (h : k < l.length) : l[k]? = some (σ.nth l k) := by simp [nth, List.getD, h]
theorem flat_cons (x : α) (l : List α) : σ.flat (x :: l) = σ.enc x ++ σ.flat l := rfl
theorem flat_len (l : List α) : (σ.flat l).length = l.length * σ.N := by
  induction l with
  | nil => simp [flat]
  | cons x l ih => rw [flat_cons, List.length_append, ih, σ.len, List.length_cons, Nat.add_mul, Nat.one_mul, Nat.add_comm]
theorem flat_app (a b : List α) : σ.flat (a ++ b) = σ.flat a ++ σ.flat b := by simp [flat]
theorem flat_one (l : List α) : ∀ u ∈ σ.flat l, u.oneCell' = true := by
  intro u hu
  obtain ⟨x, _, hx⟩ := List.mem_flatMap.1 hu
  exact σ.one x u hx
theorem flat_at : ∀ (l : List α) (i j : Nat), i < l.length → j < σ.N → (σ.flat l)[i * σ.N + j]? = (σ.enc (σ.nth l i))[j]?
  | x :: l, 0, j, _, hj => by rw [flat_cons, Nat.zero_mul, Nat.zero_add, List.getElem?_append_left (by rw [σ.len]; exact hj)]; simp [nth]
  | x :: l, i + 1, j, hi, hj => by
    rw [flat_cons, List.getElem?_append_right (by rw [σ.len, Nat.add_mul]; omega), σ.len, show (i + 1) * σ.N + j - σ.N = i * σ.N + j by rw [Nat.add_mul]; omega, flat_at l i j (by simpa using hi) hj]
    simp [nth, List.getD]

/-- A slice of n things at A reads as xs, and lies below block B. -/
def Rw (w : World) (B : Nat) (A : Option Addr) (n : Nat) (xs : List α) : Prop :=
  xs.length = n ∧ (0 < n → ∃ b o, A = some ⟨b, o, none⟩ ∧ b < B ∧ ∀ j u, (σ.flat xs)[j]? = some u → w.cell? ⟨b, o + j, none⟩ = some u)
/-- A slice that was made by the call itself: from block 'base' on. -/
def Ow (w : World) (base : Nat) (A : Option Addr) (n c : Nat) (xs : List α) : Prop := w.ownsRow base σ.T σ.N (.slice A n c) n (σ.flat xs)
/-- Block g is a variable that holds it. -/
def Var (w : World) (g : Nat) (x : α) : Prop := w.rangeAt g 0 (σ.enc x) ∧ w.there g 0 σ.N

section
variable {σ} {w w' : World} {B B' n : Nat} {A : Option Addr} {xs : List α}
theorem Rw.nil (w : World) (B : Nat) (A : Option Addr) : σ.Rw w B A 0 [] := ⟨rfl, fun h => absurd h (by omega)⟩
theorem Rw.keep (h : σ.Rw w B A n xs) (hk : ∀ p : Addr, p.block < B → w'.cell? p = w.cell? p) : σ.Rw w' B A n xs :=
  ⟨h.1, fun hn => by
    obtain ⟨b, o, e, hb, hc⟩ := h.2 hn
    exact ⟨b, o, e, hb, fun j u hu => (hk ⟨b, o + j, none⟩ hb).trans (hc j u hu)⟩⟩
theorem Rw.below (h : σ.Rw w B A n xs) (hb : Below B w w') : σ.Rw w' B A n xs := h.keep fun _ hp => hb.cell hp
theorem Rw.more (h : σ.Rw w B A n xs) (hB : B ≤ B') : σ.Rw w B' A n xs :=
  ⟨h.1, fun hn => by
    obtain ⟨b, o, e, hb, hc⟩ := h.2 hn
    exact ⟨b, o, e, by omega, hc⟩⟩
theorem Rw.at_ (h : σ.Rw w B A n xs) {k : Nat} (hk : k < n) : ∃ b o, A = some ⟨b, o, none⟩ ∧ b < B ∧ w.rangeAt b (o + k * σ.N) (σ.enc (σ.nth xs k)) := by
  obtain ⟨b, o, e, hb, hc⟩ := h.2 (by omega)
  refine ⟨b, o, e, hb, fun j v hv => ?_⟩
  have hj : j < σ.N := by have := (List.getElem?_eq_some_iff.1 hv).1; rwa [σ.len] at this
  rw [Nat.add_assoc]
  exact hc _ v (by rw [flat_at σ xs k j (by rw [h.1]; exact hk) hj]; exact hv)
theorem Rw.all (h : σ.Rw w B A n xs) (hn : 0 < n) : ∃ b o, A = some ⟨b, o, none⟩ ∧ b < B ∧ ∀ k, k < n → w.rangeAt b (o + k * σ.N) (σ.enc (σ.nth xs k)) := by
  obtain ⟨b, o, e, hb, hc⟩ := h.2 hn
  refine ⟨b, o, e, hb, fun k hk => ?_⟩
  obtain ⟨b', o', e', _, hr⟩ := h.at_ hk
  rw [e] at e'
  injection e' with e'; injection e' with e1 e2
  subst e1; subst e2
  exact hr
theorem Ow.len {base c : Nat} (h : σ.Ow w base A n c xs) : xs.length = n := by
  have := h.1; rw [flat_len] at this
  exact Nat.eq_of_mul_eq_mul_right σ.pos this
theorem Ow.row {base c : Nat} (h : σ.Ow w base A n c xs) : σ.Rw w w.heap.size A n xs := by
  refine ⟨h.len, fun hn => ?_⟩
  rcases h.2 with ⟨_, h0⟩ | ⟨g, cap, cur, hv, hb, hg, _⟩
  · omega
  · have hA : A = some ⟨g, 0, none⟩ := by injection hv
    subst hA
    refine ⟨g, 0, rfl, (Array.getElem?_eq_some_iff.1 hg).1, fun j u hu => ?_⟩
    have := h.cells (g := g) rfl j u hu
    rwa [plain_add] at this
theorem Ow.cap {base c : Nat} (h : σ.Ow w base A n c xs) : n ≤ c := by
  rcases h.2 with ⟨hv, h0⟩ | ⟨g, cap, cur, hv, hb, hg, hle, _⟩
  · omega
  · have : c = cap := by injection hv
    omega
theorem Ow.nil (w : World) (base : Nat) : σ.Ow w base none 0 0 [] := World.ownsRow_nil w base σ.T σ.N
theorem Ow.below {base c : Nat} (h : σ.Ow w base A n c xs) (hb : Below w.heap.size w w') : σ.Ow w' base A n c xs := by
  refine ⟨h.1, ?_⟩
  rcases h.2 with h0 | ⟨g, cap, cur, hv, hg, hh, r⟩
  · exact .inl h0
  · exact .inr ⟨g, cap, cur, hv, hg, (hb.block g (Array.getElem?_eq_some_iff.1 hh).1).trans hh, r⟩
theorem Ow.base_le {base base' c : Nat} (h : σ.Ow w base A n c xs) (hb : base' ≤ base) : σ.Ow w base' A n c xs := by
  refine ⟨h.1, ?_⟩
  rcases h.2 with h0 | ⟨g, cap, cur, hv, hg, hh, r⟩
  · exact .inl h0
  · exact .inr ⟨g, cap, cur, hv, by omega, hh, r⟩
theorem Ow.drew {base c : Nat} (h : σ.Ow w base A n c xs) : σ.Ow w.drew base A n c xs := h.below ((Below.refl _ _).drew)
theorem Ow.alloc {base c : Nat} (h : σ.Ow w base A n c xs) (o : Obj) : σ.Ow (w.alloc o) base A n c xs := World.ownsRow.alloc h o
theorem Ow.other {base c : Nat} (h : σ.Ow w base A n c xs) (ho : ∀ g, base ≤ g → w'.heap[g]? = w.heap[g]?) : σ.Ow w' base A n c xs := by
  refine ⟨h.1, ?_⟩
  rcases h.2 with h0 | ⟨g, cap, cur, hv, hg, hh, r⟩
  · exact .inl h0
  · exact .inr ⟨g, cap, cur, hv, hg, (ho g hg).trans hh, r⟩
theorem Ow.oth {base c b : Nat} (h : σ.Ow w base A n c xs) (ho : Oth b w w') (hb : b < base) : σ.Ow w' base A n c xs := h.other fun g hg => ho g (by omega)
theorem Ow.ge {base c g : Nat} (h : σ.Ow w base (some ⟨g, 0, none⟩) n c xs) : base ≤ g ∧ g < w.heap.size := World.ownsRow.lt h g rfl
/-- Of another shape, it lies in another block. -/
theorem ow_ne {β : Type} {τ : Sh P β} {base b2 : Nat} {A2 : Option Addr} {c n2 c2 : Nat} {ys : List β} (h : σ.Ow w base A n c xs) (ho : τ.Ow w b2 A2 n2 c2 ys) (hT : σ.T ≠ τ.T) : Value.ownBlock (.slice A n c) = none ∨ Value.ownBlock (.slice A n c) ≠ Value.ownBlock (.slice A2 n2 c2) := by
  rcases h.2 with ⟨h1, _⟩ | ⟨g, cap, cur, h1, _, hh, _⟩
  · left; rw [h1]; rfl
  · right
    rw [h1]
    rcases ho.2 with ⟨k1, _⟩ | ⟨g', cap', cur', k1, _, hh', _⟩
    · rw [k1]; simp [Value.ownBlock]
    · rw [k1]
      simp [Value.ownBlock]
      rintro rfl
      rw [hh] at hh'
      simp at hh'
      exact hT hh'.2
theorem Ow.kept {β : Type} {τ : Sh P β} {base b2 : Nat} {A2 : Option Addr} {c n2 c2 : Nat} {ys : List β} (h : σ.Ow w base A n c xs) (ho : τ.Ow w b2 A2 n2 c2 ys) (hT : σ.T ≠ τ.T) (hg : w.grownBy w' (Value.ownBlock (.slice A2 n2 c2))) : σ.Ow w' base A n c xs := World.ownsRow.kept h hg (ow_ne h ho hT)

theorem Var.below {g : Nat} {x : α} (h : σ.Var w g x) {B : Nat} (hk : Below B w w') (hb : g < B) : σ.Var w' g x := ⟨range_keep h.1 hb hk, there_keep h.2 hb hk⟩
theorem Var.other {g : Nat} {x : α} (h : σ.Var w g x) {b : Nat} (ho : Oth b w w') (hb : g ≠ b) : σ.Var w' g x := ⟨range_other h.1 hb ho, there_other h.2 hb ho⟩
theorem Var.lt {g : Nat} {x : α} (h : σ.Var w g x) : g < w.heap.size := by
  have h0 := (h.2 0 σ.pos).1
  obtain ⟨u, hu⟩ := Option.isSome_iff_exists.1 h0
  exact World.block_lt_of_cell? w _ hu
theorem Var.keep {g : Nat} {x : α} (h : σ.Var w g x) (hk : Below w.heap.size w w') : σ.Var w' g x := h.below hk h.lt
theorem Var.cell {g : Nat} {x : α} (h : σ.Var w g x) {j : Nat} {v : Value} (hj : (σ.enc x)[j]? = some v) : w.cell? ⟨g, j, none⟩ = some v := by
  have := h.1 j v hj; rwa [Nat.zero_add] at this
theorem Var.free {g : Nat} {x : α} (h : σ.Var w g x) {j : Nat} (hj : j < σ.N) : w.frozen? ⟨g, j, none⟩ = false := by
  have := (h.2 j hj).2; rwa [Nat.zero_add] at this
theorem var_new (w : World) (x : α) (t : TypeId) : σ.Var (w.alloc (.cells (σ.enc x).toArray t)) w.heap.size x := ⟨range_new w _ t, by have := there_new w (σ.enc x) t; rwa [σ.len] at this⟩
theorem var_stored {g : Nat} (ht : w.there g 0 σ.N) (x : α) : σ.Var (w.setCells g 0 (σ.enc x)) g x := ⟨World.rangeAt_setCells_same w g 0 (σ.enc x) (by rw [σ.len]; exact ht), World.there_setCells ht g 0 _⟩
theorem Var.drew {g : Nat} {x : α} (h : σ.Var w g x) : σ.Var w.drew g x := by
  refine ⟨?_, ?_⟩
  · simpa using h.1
  · simpa using h.2
end

/-! ### Loads, stores and the rest, at the operation -/
section
variable {w : World} {g : Nat} {x : α} {ops : Array Oper} {rest : List Oper} {o : Oper} {a : Act} {Q : Exit → Act → World → Prop}
theorem ldv (h : w.rangeAt g 0 (σ.enc x)) : (loadVar σ.T ⟨g, 0, none⟩).run P w = .ok (σ.val x) w := run_loadVar_mid w g 0 σ.T (σ.enc x) _ h σ.undT σ.isRow (by rw [σ.size, σ.len])
theorem wp_box (hg : o.guard = none) (e : Operand) (ho : o.op = .box σ.T e) (hx : a.eval e = σ.val x)
    (h : ∀ w', σ.Var w' w.heap.size x → Below w.heap.size w w' → Hid (w'.heap.size = w.heap.size + 1) → wpList P ops Q rest (a.put o.dst (.pointer (some ⟨w.heap.size, 0, none⟩))) w') : wpList P ops Q (o :: rest) a w := by
  refine wpList_plain hg fun K hK => ?_
  unfold Oper.wp execOp
  simp only [ho, hx, Sem.run_bind, Instr.box, newVar, newRow, run_newObj_alloc, Sem.run_pure, Result.andThen_ok]
  exact hK _ _ (h _ (var_new w x σ.T) ((Below.refl _ _).alloc (Nat.le_refl _) _) (hid (by simp)))
theorem wp_al (hg : o.guard = none) (ho : o.op = .alloc σ.T)
    (h : ∀ w', σ.Var w' w.heap.size σ.z → Below w.heap.size w w' → Hid (w'.heap.size = w.heap.size + 1) → wpList P ops Q rest (a.put o.dst (.pointer (some ⟨w.heap.size, 0, none⟩))) w') : wpList P ops Q (o :: rest) a w := by
  refine wpList_plain hg fun K hK => ?_
  unfold Oper.wp execOp
  simp only [ho, Sem.run_bind, Instr.alloc, σ.zero, newVar, newRow, run_newObj_alloc, Sem.run_pure, Result.andThen_ok]
  exact hK _ _ (h _ (var_new w σ.z σ.T) ((Below.refl _ _).alloc (Nat.le_refl _) _) (hid (by simp)))
/-- One loaded, out of a variable or a slice. -/
theorem wp_ld (hw : Region.wanted o (yielded ops a.tmps) = true) (e : Operand) (ho : o.op = .load σ.T e) {b off : Nat} (hx : a.eval e = .pointer (some ⟨b, off, none⟩)) (hv : w.rangeAt b off (σ.enc x))
    (h : wpList P ops Q rest (a.put o.dst (σ.val x)) w) : wpList P ops Q (o :: rest) a w :=
  wpList_step fun _ hK => by rw [if_pos hw]; exact wp_load_mid σ.T e ho b off hx (σ.enc x) _ hv σ.undT σ.isRow (by rw [σ.size, σ.len]) (hK _ _ h)
/-- One stored into a variable. -/
theorem wp_sv (hg : o.guard = none) (e y : Operand) (ho : o.op = .store σ.T e y) {p : α} (hx : a.eval e = .pointer (some ⟨g, 0, none⟩)) (hy : a.eval y = σ.val x) (hv : σ.Var w g p)
    (h : ∀ w', σ.Var w' g x → Below g w w' → Oth g w w' → Hid (w'.heap.size = w.heap.size) → wpList P ops Q rest (a.put o.dst undef) w') : wpList P ops Q (o :: rest) a w :=
  wpList_store_mid hg σ.T e y ho g 0 (σ.enc x).toArray hx hy (by have := hv.2; simpa [σ.len] using this) (by rw [σ.size]; simp [σ.len]) (all_oneCell_toArray (σ.one x)) (h _ (var_stored hv.2 x) (setCells_oth g _ _ _).1 (setCells_oth g _ _ _).2 (hid (setCells_size _ _ _ _)))
/-- A literal of one. -/
theorem wp_bs (hw : Region.wanted o (yielded ops a.tmps) = true) (e : Operand) (ho : o.op = .buildSlice σ.S 1 #[(0, e)]) (hx : a.eval e = σ.val x)
    (h : wpList P ops Q rest (a.put o.dst (.slice (some ⟨w.heap.size, 0, none⟩) 1 1)) (w.alloc (.cells (σ.enc x).toArray σ.T))) : wpList P ops Q (o :: rest) a w :=
  wpList_step fun _ hK => by
    rw [if_pos hw]
    obtain ⟨i, hi0, hi1, hi2, hi3⟩ := info_parts σ.info
    unfold val at hx
    unfold Oper.wp execOp
    simp only [ho, List.map_toArray, List.map_cons, List.map_nil, hx]
    have hl := σ.len σ.z
    have hl2 := σ.len x
    simp [go_sem, run_underlying σ.undS, zeroValue, sizeOf, typeInfo, hi0, hi1, hi2]
    have hs := σ.smallN
    have hp := σ.pos
    rw [if_neg (by omega), if_neg (by omega)]
    have e1 : ¬ (¬(σ.enc x).length = σ.N ∨ σ.N < (σ.enc x).length) := by omega
    rw [if_neg e1, foldl_whole _ _ (by simp [hl2])]
    simp [Result.andThen]
    exact hK _ _ h
/-- One appended to a slice of the call's own: what runs. -/
theorem run_push {b base n c : Nat} {A : Option Addr} {l : List α} (ty : TypeId) (hown : σ.Ow w base A n c l) (hrow : w.rangeAt b 0 (σ.enc x)) (hn : n ≤ 1000000) (hbase : base ≤ w.heap.size) :
    ∃ A' c' w', (Builtin.append_ #[σ.S, σ.S] ty #[.slice A n c, .slice (some ⟨b, 0, none⟩) 1 1]).run P w = .ok (.slice A' (n + 1) c') w' ∧ σ.Ow w' base A' (n + 1) c' (l ++ [x]) ∧ w.grownBy w' (Value.ownBlock (.slice A n c)) := by
  obtain ⟨i, hi0, hi1, hi2, hi3⟩ := info_parts σ.info
  have hsm := σ.small
  have hmul : (n + 1) * σ.by_ ≤ (n + 1) * 10000 := Nat.mul_le_mul_left _ hsm
  obtain ⟨v', w', hrun, h2, h3, _, _⟩ := run_append_own_at (P := P) w base σ.S ty σ.T i (.agg (σ.enc σ.z).toArray) σ.N σ.by_ σ.undS hi0 hi1 hi2 hi3 (by simp [Value.cells, σ.len]) σ.pos (.slice A n c) n (σ.flat l) hown ⟨b, 0, none⟩ 1 1 (σ.enc x) (by rw [σ.len, Nat.one_mul])
    (fun j u hu => by rw [plain_add]; exact hrow j u hu) (σ.one x) (by unfold maxLen; omega) (by omega) hbase
  have e1 : σ.flat l ++ σ.enc x = σ.flat (l ++ [x]) := by rw [flat_app]; simp [flat]
  rw [e1] at h2
  rcases h2.2 with ⟨rfl, h0⟩ | ⟨g, cap, cur, rfl, r⟩
  · omega
  · exact ⟨_, _, w', hrun, h2, h3⟩
theorem step_push {b base n c : Nat} {A : Option Addr} {l : List α} {K : Act → World → Prop} {E : Prop} (hgd : o.guard = none) (s e : Operand) (ho : o.op = .call { callee := .builtin .append, args := #[s, e], argTypes := #[σ.S, σ.S] })
    (hs : a.eval s = .slice A n c) (hown : σ.Ow w base A n c l) (hx : a.eval e = .slice (some ⟨b, 0, none⟩) 1 1) (hrow : w.rangeAt b 0 (σ.enc x)) (hn : n ≤ 1000000) (hbase : base ≤ w.heap.size)
    (h : ∀ A' c' w', σ.Ow w' base A' (n + 1) c' (l ++ [x]) → w.grownBy w' (Value.ownBlock (.slice A n c)) → K (a.put o.dst (.slice A' (n + 1) c')) w') : if Region.wanted o (yielded ops a.tmps) = true then Oper.wp P o a w K Q else E := by
  have hw : Region.wanted o (yielded ops a.tmps) = true := by simp [Region.wanted, hgd]
  rw [if_pos hw]
  obtain ⟨A', c', w', hrun, h2, h3⟩ := run_push σ o.type hown hrow hn hbase
  unfold Oper.wp execOp
  simp only [ho, resolve, invoke, builtin, Sem.run_bind, Sem.run_pure, Result.andThen_ok, List.map_toArray, List.map_cons, List.map_nil, hs, hx, hrun]
  exact h A' c' w' h2 h3
theorem wp_push {b base n c : Nat} {A : Option Addr} {l : List α} (hgd : o.guard = none) (s e : Operand) (ho : o.op = .call { callee := .builtin .append, args := #[s, e], argTypes := #[σ.S, σ.S] })
    (hs : a.eval s = .slice A n c) (hown : σ.Ow w base A n c l) (hx : a.eval e = .slice (some ⟨b, 0, none⟩) 1 1) (hrow : w.rangeAt b 0 (σ.enc x)) (hn : n ≤ 1000000) (hbase : base ≤ w.heap.size)
    (h : ∀ A' c' w', σ.Ow w' base A' (n + 1) c' (l ++ [x]) → w.grownBy w' (Value.ownBlock (.slice A n c)) → wpList P ops Q rest (a.put o.dst (.slice A' (n + 1) c')) w') : wpList P ops Q (o :: rest) a w := by
  refine wpList_plain hgd fun K hK => ?_
  obtain ⟨A', c', w', hrun, h2, h3⟩ := run_push σ o.type hown hrow hn hbase
  unfold Oper.wp execOp
  simp only [ho, resolve, invoke, builtin, Sem.run_bind, Sem.run_pure, Result.andThen_ok, List.map_toArray, List.map_cons, List.map_nil, hs, hx, hrun]
  exact hK _ _ (h A' c' w' h2 h3)
theorem grown_below {base n c : Nat} {A : Option Addr} {l : List α} {w' : World} (hown : σ.Ow w base A n c l) (hbase : base ≤ w.heap.size) (hg : w.grownBy w' (Value.ownBlock (.slice A n c))) : Below base w w' :=
  (Below.refl _ _).grown hg hbase (fun k hk => (World.ownsRow.lt hown k hk).1)
/-- A block that is not its own stands. -/
theorem grown_block {base n c : Nat} {A : Option Addr} {l : List α} {w1 w' : World} (hown : σ.Ow w1 base A n c l) {j : Nat} (hj : w1.heap.size ≤ j ∨ j < base) (hj2 : j < w.heap.size) (hg : w.grownBy w' (Value.ownBlock (.slice A n c))) : w'.heap[j]? = w.heap[j]? :=
  hg.block j hj2 (fun e => by have := World.ownsRow.lt hown j e.symm; omega)
end
end Sh
end Go.Proofs.YtkfnkieljcipnaaGreatDoor

/-! LP -/
namespace Go.Proofs.YtkfnkieljcipnaaGreatDoor
open Go

def gb (l : List UInt8) (k : Nat) : Nat := (l.getD k 0).toNat
/-- the rune that a text begins with, and its bytes -/
def dec (l : List UInt8) : Nat × Nat := Lib.decodeN l.length (gb l 0) (gb l 1) (gb l 2) (gb l 3)

theorem get!_of (s : ByteArray) (i : Nat) : s.get! i = s.data.toList.getD i 0 := by
  show s.data[i]! = _
  simp [getElem!_def, List.getD]
  cases s.data[i]? <;> rfl

theorem dec_of (s : ByteArray) (i : Nat) : Utf8.decode s i = dec (s.data.toList.drop i) := by
  rw [Lib.decode_at]
  have h : ∀ k, (s.get! (i + k)).toNat = gb (s.data.toList.drop i) k := by
    intro k
    unfold gb
    rw [get!_of, List.getD_eq_getElem?_getD, List.getD_eq_getElem?_getD, List.getElem?_drop]
  have h0 := h 0
  rw [Nat.add_zero] at h0
  rw [h0, h 1, h 2, h 3]
  unfold dec
  rw [List.length_drop]
  rfl

theorem decodeN_pos (n b0 b1 b2 b3 : Nat) : 1 ≤ (Lib.decodeN n b0 b1 b2 b3).2 ∧ (1 ≤ n → (Lib.decodeN n b0 b1 b2 b3).2 ≤ n) := by
  unfold Lib.decodeN
  repeat' split
  all_goals (constructor <;> simp only <;> omega)
theorem dec_pos (l : List UInt8) : 1 ≤ (dec l).2 := (decodeN_pos _ _ _ _ _).1
theorem dec_le (c : UInt8) (r : List UInt8) : (dec (c :: r)).2 ≤ r.length + 1 := (decodeN_pos _ _ _ _ _).2 (by simp)
theorem dec_ascii (c : UInt8) (r : List UInt8) (h : c.toNat < 128) : dec (c :: r) = (c.toNat, 1) := by
  unfold dec Lib.decodeN
  rw [if_pos (by simpa [gb] using h)]
  simp [gb]
theorem decodeN_high (n b0 b1 b2 b3 : Nat) (h : 128 ≤ b0) : 128 ≤ (Lib.decodeN n b0 b1 b2 b3).1 := by
  unfold Lib.decodeN
  repeat' split
  all_goals (simp only; omega)
theorem dec_high (c : UInt8) (r : List UInt8) (h : 128 ≤ c.toNat) : 128 ≤ (dec (c :: r)).1 := decodeN_high _ _ _ _ _ (by simpa [gb] using h)
/-- a rune below 128 is its byte -/
theorem dec_low (c : UInt8) (r : List UInt8) (h : (dec (c :: r)).1 < 128) : c.toNat = (dec (c :: r)).1 ∧ (dec (c :: r)).2 = 1 := by
  by_cases hc : c.toNat < 128
  · rw [dec_ascii c r hc]; exact ⟨rfl, rfl⟩
  · have := dec_high c r (by omega); omega
theorem decodeN_top (n b0 b1 b2 b3 : Nat) : (Lib.decodeN n b0 b1 b2 b3).1 ≤ 1114111 := by
  unfold Lib.decodeN
  repeat' split
  all_goals (simp only; omega)
theorem dec_top (l : List UInt8) : (dec l).1 ≤ 1114111 := decodeN_top _ _ _ _ _

/-- a byte that is no rune's -/
def brok (l : List UInt8) : Bool := (dec l).1 == 65533 && !([239, 191, 189] : List UInt8).isPrefixOf l

def letB (c : UInt8) : Bool := decide (97 ≤ c.toNat) && decide (c.toNat ≤ 122)
def digB (c : UInt8) : Bool := decide (48 ≤ c.toNat) && decide (c.toNat ≤ 57)
def ldB (c : UInt8) : Bool := letB c || digB c
def sgB (c : UInt8) : Bool := c == 59 || c == 123 || c == 125

structure Pl where
  line : Nat
  col : Nat
deriving DecidableEq
def behindP (p : Pl) (r : Nat) : Pl := if r = 10 then ⟨p.line + 1, 1⟩ else ⟨p.line, p.col + 1⟩
def firstP : Pl := ⟨1, 1⟩

structure Tk where
  kind : Int
  s : List UInt8
  n : Int
  time : Bool
deriving DecidableEq

def pieceF : List UInt8 → List UInt8
  | [] => []
  | c :: r => if sgB c then [c] else (c :: r).take (dec (c :: r)).2 ++ ((c :: r).drop (dec (c :: r)).2).takeWhile ldB

theorem pieceF_cons (c : UInt8) (r : List UInt8) : pieceF (c :: r) = if sgB c then [c] else (c :: r).take (dec (c :: r)).2 ++ ((c :: r).drop (dec (c :: r)).2).takeWhile ldB := rfl
def wordB : List UInt8 → Bool
  | [] => false
  | c :: r => letB c && r.all ldB && decide (r.length ≤ 15)

def unitF (l : List UInt8) : Option Int :=
  if l = [112, 115] then some 1 else if l = [110, 115] then some 1000 else if l = [117, 115] then some 1000000 else if l = [109, 115] then some 1000000000 else if l = [115] then some 1000000000000 else none

def decV (l : List UInt8) : Nat := l.foldl (fun n c => 10 * n + (c.toNat - 48)) 0
def sizeF : List UInt8 → List UInt8
  | [] => []
  | c :: r => if c = 45 then r else c :: r
theorem sizeF_cons (c : UInt8) (r : List UInt8) : sizeF (c :: r) = if c = 45 then r else c :: r := rfl
def minusB : List UInt8 → Bool
  | [] => false
  | c :: _ => c == 45
def valF (p : List UInt8) : Int := if minusB p then -(decV ((sizeF p).takeWhile digB) : Int) else decV ((sizeF p).takeWhile digB)

def numF (p : List UInt8) : Except Nat Tk :=
  if (sizeF p).takeWhile digB = [] ∨ ((sizeF p).dropWhile digB ≠ [] ∧ unitF ((sizeF p).dropWhile digB) = none) then .error 4
  else if 18 < ((sizeF p).takeWhile digB).length then .error 6
  else match unitF ((sizeF p).dropWhile digB) with
    | some ps => if -1000000000000000000 < valF p * ps ∧ valF p * ps < 1000000000000000000 then .ok ⟨2, p, valF p * ps, true⟩ else .error 2
    | none => .ok ⟨2, p, valF p, false⟩

def tokF (p : List UInt8) : Except Nat Tk :=
  match p with
  | [] => .error 4
  | c :: r => if r = [] ∧ sgB c then .ok ⟨3, p, 0, false⟩ else if wordB p then .ok ⟨1, p, 0, false⟩ else if letB c then .error 6 else numF p

/-- what a text is cut into, from a place on, in a remark or not; and what is wrong, and where -/
def cutL : List UInt8 → Bool → Pl → List (Tk × Pl) × Option (Pl × Nat)
  | [], _, _ => ([], none)
  | c :: r, rem, here =>
    if brok (c :: r) then ([], some (here, 4))
    else if (dec (c :: r)).1 = 10 then cutL (r.drop ((dec (c :: r)).2 - 1)) false (behindP here 10)
    else if rem = true ∨ (dec (c :: r)).1 = 32 ∨ (dec (c :: r)).1 = 9 then cutL (r.drop ((dec (c :: r)).2 - 1)) rem (behindP here (dec (c :: r)).1)
    else if (dec (c :: r)).1 = 35 then cutL (r.drop ((dec (c :: r)).2 - 1)) true (behindP here (dec (c :: r)).1)
    else match tokF (pieceF (c :: r)) with
      | .error e => ([], some (here, e))
      | .ok t => ((t, here) :: (cutL (r.drop ((pieceF (c :: r)).length - 1)) false ⟨here.line, here.col + (pieceF (c :: r)).length⟩).1, (cutL (r.drop ((pieceF (c :: r)).length - 1)) false ⟨here.line, here.col + (pieceF (c :: r)).length⟩).2)
termination_by l => l.length
decreasing_by all_goals (simp only [List.length_drop, List.length_cons]; omega)

/-- the place of the rune at a byte, or around it -/
def plAt : List UInt8 → Pl → Nat → Pl
  | [], p, _ => p
  | c :: r, p, a => if a < (dec (c :: r)).2 then p else plAt (r.drop ((dec (c :: r)).2 - 1)) (behindP p (dec (c :: r)).1) (a - (dec (c :: r)).2)
termination_by l => l.length
decreasing_by (simp only [List.length_drop, List.length_cons]; omega)

theorem tail_drop (c : UInt8) (r : List UInt8) (k : Nat) (h : 1 ≤ k) : r.drop (k - 1) = (c :: r).drop k := by
  obtain ⟨j, rfl⟩ : ∃ j, k = j + 1 := ⟨k - 1, by omega⟩
  rfl

theorem ld_ascii {c : UInt8} (h : ldB c = true) : c.toNat < 128 ∧ c.toNat ≠ 10 := by
  simp only [ldB, letB, digB, Bool.or_eq_true, Bool.and_eq_true, decide_eq_true_eq] at h
  omega
theorem sg_ascii {c : UInt8} (h : sgB c = true) : c.toNat < 128 ∧ c.toNat ≠ 10 := by
  simp only [sgB, Bool.or_eq_true, beq_iff_eq] at h
  rcases h with (rfl | rfl) | rfl <;> decide
theorem all_takeWhile (f : UInt8 → Bool) (l : List UInt8) : (l.takeWhile f).all f = true := by
  induction l with
  | nil => rfl
  | cons c l ih =>
    by_cases h : f c = true
    · rw [List.takeWhile_cons_of_pos h, List.all_cons, h, ih]; rfl
    · rw [List.takeWhile_cons_of_neg h]; rfl
theorem takeWhile_all (f : UInt8 → Bool) (l : List UInt8) (h : l.all f = true) : l.takeWhile f = l := by
  induction l with
  | nil => rfl
  | cons c l ih =>
    rw [List.all_cons, Bool.and_eq_true] at h
    rw [List.takeWhile_cons_of_pos h.1, ih h.2]

theorem unit_all (u : List UInt8) (ps : Int) (h : unitF u = some ps) : u.all letB = true ∧ u ≠ [] ∧ 0 < ps ∧ ps ≤ 1000000000000 := by
  have h : (if u = [112, 115] then some 1 else if u = [110, 115] then some 1000 else if u = [117, 115] then some 1000000 else if u = [109, 115] then some 1000000000 else if u = [115] then some 1000000000000 else none) = some ps := h
  by_cases h1 : u = [112, 115]
  · subst h1; rw [if_pos rfl] at h; cases h; exact ⟨by decide, by decide, by decide, by decide⟩
  rw [if_neg h1] at h
  by_cases h2 : u = [110, 115]
  · subst h2; rw [if_pos rfl] at h; cases h; exact ⟨by decide, by decide, by decide, by decide⟩
  rw [if_neg h2] at h
  by_cases h3 : u = [117, 115]
  · subst h3; rw [if_pos rfl] at h; cases h; exact ⟨by decide, by decide, by decide, by decide⟩
  rw [if_neg h3] at h
  by_cases h4 : u = [109, 115]
  · subst h4; rw [if_pos rfl] at h; cases h; exact ⟨by decide, by decide, by decide, by decide⟩
  rw [if_neg h4] at h
  by_cases h5 : u = [115]
  · subst h5; rw [if_pos rfl] at h; cases h; exact ⟨by decide, by decide, by decide, by decide⟩
  rw [if_neg h5] at h
  cases h

/-- all bytes of a piece that is a token are ASCII, and no line's end -/
theorem tok_ascii (p : List UInt8) (t : Tk) (h : tokF p = .ok t) : t.s = p ∧ p ≠ [] ∧ ∀ c ∈ p, c.toNat < 128 ∧ c.toNat ≠ 10 := by
  match p with
  | [] => cases h
  | c :: r =>
    unfold tokF at h
    simp only at h
    split at h
    · rename_i h1
      cases h
      refine ⟨rfl, by simp, ?_⟩
      obtain ⟨rfl, h1⟩ := h1
      intro d hd
      rw [List.mem_singleton] at hd
      subst hd
      exact sg_ascii h1
    split at h
    · rename_i h1
      cases h
      refine ⟨rfl, by simp, ?_⟩
      simp only [wordB, Bool.and_eq_true, decide_eq_true_eq, List.all_eq_true] at h1
      intro d hd
      rcases List.mem_cons.1 hd with rfl | hd
      · exact ld_ascii (by simp [ldB, h1.1.1])
      · exact ld_ascii (h1.1.2 d hd)
    split at h
    · cases h
    · have hs : ∀ d ∈ c :: r, d = 45 ∨ d ∈ sizeF (c :: r) := by
        intro d hd
        rw [sizeF_cons]
        split
        · rename_i hc
          rcases List.mem_cons.1 hd with rfl | hd
          · exact .inl hc
          · exact .inr hd
        · exact .inr hd
      have hall : (∀ d ∈ sizeF (c :: r), digB d = true ∨ letB d = true) ∧ t.s = c :: r := by
        unfold numF at h
        split at h
        · cases h
        rename_i h1
        split at h
        · cases h
        have hm : ∀ d ∈ sizeF (c :: r), d ∈ (sizeF (c :: r)).takeWhile digB ∨ d ∈ (sizeF (c :: r)).dropWhile digB := by
          intro d hd
          rw [← List.takeWhile_append_dropWhile (p := digB) (l := sizeF (c :: r))] at hd
          exact List.mem_append.1 hd
        have htk : ∀ d ∈ (sizeF (c :: r)).takeWhile digB, digB d = true := fun d hd => List.all_eq_true.1 (all_takeWhile _ _) d hd
        split at h
        · rename_i ps hu
          split at h
          · cases h
            refine ⟨fun d hd => ?_, rfl⟩
            rcases hm d hd with h2 | h2
            · exact .inl (htk d h2)
            · exact .inr (List.all_eq_true.1 (unit_all _ _ hu).1 d h2)
          · cases h
        · rename_i hu
          cases h
          refine ⟨fun d hd => ?_, rfl⟩
          have he : (sizeF (c :: r)).dropWhile digB = [] := by
            rcases Classical.em ((sizeF (c :: r)).dropWhile digB = []) with h2 | h2
            · exact h2
            · exact absurd (.inr ⟨h2, hu⟩) h1
          rcases hm d hd with h2 | h2
          · exact .inl (htk d h2)
          · rw [he] at h2; cases h2
      refine ⟨hall.2, by simp, fun d hd => ?_⟩
      rcases hs d hd with rfl | h2
      · decide
      · rcases hall.1 d h2 with h3 | h3
        · exact ld_ascii (by simp [ldB, h3])
        · exact ld_ascii (by simp [ldB, h3])

theorem piece_pre (l : List UInt8) : ∃ k, pieceF l = l.take k ∧ k ≤ l.length ∧ (l ≠ [] → 1 ≤ k) := by
  match l with
  | [] => exact ⟨0, rfl, Nat.le_refl _, fun h => absurd rfl h⟩
  | c :: r =>
    rw [pieceF_cons]
    split
    · exact ⟨1, rfl, by simp, fun _ => Nat.le_refl _⟩
    · have hle := dec_le c r
      have hpos := dec_pos (c :: r)
      refine ⟨(dec (c :: r)).2 + (((c :: r).drop (dec (c :: r)).2).takeWhile ldB).length, ?_, ?_, fun _ => by omega⟩
      · rw [List.take_add]
        congr 1
        exact (List.prefix_iff_eq_take.1 (List.takeWhile_prefix _))
      · have h := (List.takeWhile_prefix ldB (l := (c :: r).drop (dec (c :: r)).2)).length_le
        rw [List.length_drop] at h
        simp only [List.length_cons] at h ⊢
        omega
theorem piece_take (l : List UInt8) : pieceF l = l.take (pieceF l).length := by
  obtain ⟨k, hk, hle, _⟩ := piece_pre l
  rw [hk, List.length_take, Nat.min_eq_left hle]
theorem piece_len (l : List UInt8) : (pieceF l).length ≤ l.length ∧ (l ≠ [] → 1 ≤ (pieceF l).length) := by
  obtain ⟨k, hk, hle, h1⟩ := piece_pre l
  rw [hk, List.length_take, Nat.min_eq_left hle]
  exact ⟨hle, h1⟩
end Go.Proofs.YtkfnkieljcipnaaGreatDoor

/-! LA -/
namespace Go.Proofs.YtkfnkieljcipnaaGreatDoor
open Go Go.RowKit

theorem letter_any (r : Nat) (w : World) : Calls Tryz.prog 79 #[.int .i32 r] w fun e w' => e = .returned (.bool (decide (97 ≤ r) && decide (r ≤ 122))) ∧ w' = w := by
  go_enter Tryz.func79, Tryz.ntmps79
  go_wp2
  all_goals (go_ret; exact ⟨ret_bool (by rw [Bool.eq_iff_iff]; simp; try omega), rfl⟩)
theorem digit_any (r : Nat) (w : World) : Calls Tryz.prog 80 #[.int .i32 r] w fun e w' => e = .returned (.bool (decide (48 ≤ r) && decide (r ≤ 57))) ∧ w' = w := by
  go_enter Tryz.func80, Tryz.ntmps80
  go_wp2
  all_goals (go_ret; exact ⟨ret_bool (by rw [Bool.eq_iff_iff]; simp; try omega), rfl⟩)
theorem small_any (n : Int) (w : World) : Calls Tryz.prog 89 #[.int .i64 n] w fun e w' => e = .returned (.bool (decide (-1000000000000000000 < n) && decide (n < 1000000000000000000))) ∧ w' = w := by
  go_enter Tryz.func89, Tryz.ntmps89
  go_wp2
  all_goals (go_ret; exact ⟨ret_bool (by rw [Bool.eq_iff_iff]; simp; try omega), rfl⟩)

/-! ### Places and tokens in memory -/
def encP (p : Pl) : List Value := [.int .i64 p.line, .int .i64 p.col]
def plS : Sh Tryz.prog Pl where
  enc := encP
  N := 2
  T := 26
  S := 47
  by_ := 16
  z := ⟨0, 0⟩
  d := _
  len := fun _ => rfl
  pos := by omega
  one := by intro x u hu; simp [encP] at hu; rcases hu with rfl | rfl <;> rfl
  undS := Tryz.underlying47
  undT := Tryz.underlying26
  isRow := rfl
  info := by kernel_rfl
  size := by kernel_rfl
  zero := fun w => by kernel_rfl
  small := by omega
  smallN := by omega
def strB (l : List UInt8) : ByteArray := ⟨l.toArray⟩
def encT (t : Tk) : List Value := [.int .i64 t.kind, .string (strB t.s), .int .i64 t.n, .bool t.time]
def tkS : Sh Tryz.prog Tk where
  enc := encT
  N := 4
  T := 51
  S := 46
  by_ := 40
  z := ⟨0, [], 0, false⟩
  d := _
  len := fun _ => rfl
  pos := by omega
  one := by intro x u hu; simp [encT] at hu; rcases hu with rfl | rfl | rfl | rfl <;> rfl
  undS := Tryz.underlying46
  undT := Tryz.underlying51
  isRow := rfl
  info := by kernel_rfl
  size := by kernel_rfl
  zero := fun w => by kernel_rfl
  small := by omega
  smallN := by omega
theorem pl_tk : plS.T ≠ tkS.T := by show 26 ≠ 51; decide
theorem tk_pl : tkS.T ≠ plS.T := by show 51 ≠ 26; decide
def plV (p : Pl) : Value := .agg #[.int .i64 p.line, .int .i64 p.col]
def tkV (t : Tk) : Value := .agg #[.int .i64 t.kind, .string (strB t.s), .int .i64 t.n, .bool t.time]

section
variable {w : World} {g : Nat}
theorem results_p {fn : Func} {p : Tmp} (h : fn.results = #[.cell p 26]) (tmps : Array Value) (hp : tmps.getD p undef = .pointer (some ⟨g, 0, none⟩)) {x : Pl} (hx : plS.Var w g x) :
    (results fn tmps).run Tryz.prog w = .ok (plV x) w := by
  have : (loadVar 26 ⟨g, 0, none⟩).run Tryz.prog w = .ok (plV x) w := Sh.ldv plS hx.1
  have hp' : tmps[p]?.getD undef = .pointer (some ⟨g, 0, none⟩) := by simpa using hp
  simp only [results, h]
  simp [hp', this, asAddr]
theorem results_p1 {fn : Func} {p r : Tmp} (h : fn.results = #[.cell p 26, .tmp r]) (tmps : Array Value) (hp : tmps.getD p undef = .pointer (some ⟨g, 0, none⟩)) {x : Pl} (hx : plS.Var w g x) :
    (results fn tmps).run Tryz.prog w = .ok (.tuple #[plV x, tmps.getD r undef]) w := by
  have : (loadVar 26 ⟨g, 0, none⟩).run Tryz.prog w = .ok (plV x) w := Sh.ldv plS hx.1
  have hp' : tmps[p]?.getD undef = .pointer (some ⟨g, 0, none⟩) := by simpa using hp
  simp only [results, h]
  simp [Result.andThen, hp', this, asAddr]
theorem results_t1 {fn : Func} {p r : Tmp} (h : fn.results = #[.cell p 51, .tmp r]) (tmps : Array Value) (hp : tmps.getD p undef = .pointer (some ⟨g, 0, none⟩)) {x : Tk} (hx : tkS.Var w g x) :
    (results fn tmps).run Tryz.prog w = .ok (.tuple #[tkV x, tmps.getD r undef]) w := by
  have : (loadVar 51 ⟨g, 0, none⟩).run Tryz.prog w = .ok (tkV x) w := Sh.ldv tkS hx.1
  have hp' : tmps[p]?.getD undef = .pointer (some ⟨g, 0, none⟩) := by simpa using hp
  simp only [results, h]
  simp [Result.andThen, hp', this, asAddr]
theorem results_11p1 {fn : Func} {p q s r : Tmp} (h : fn.results = #[.tmp q, .tmp s, .cell p 26, .tmp r]) (tmps : Array Value) (hp : tmps.getD p undef = .pointer (some ⟨g, 0, none⟩)) {x : Pl} (hx : plS.Var w g x) :
    (results fn tmps).run Tryz.prog w = .ok (.tuple #[tmps.getD q undef, tmps.getD s undef, plV x, tmps.getD r undef]) w := by
  have : (loadVar 26 ⟨g, 0, none⟩).run Tryz.prog w = .ok (plV x) w := Sh.ldv plS hx.1
  have hp' : tmps[p]?.getD undef = .pointer (some ⟨g, 0, none⟩) := by simpa using hp
  simp only [results, h]
  simp [Result.andThen, hp', this, asAddr]
end

theorem behind_line (p : Pl) (w : World) (h1 : p.line < 1099511627776) : Calls Tryz.prog 58 #[plV p, .int .i32 10] w fun e w' => e = .returned (plV ⟨p.line + 1, 1⟩) ∧ Below w.heap.size w w' := by
  go_enter Tryz.func58, Tryz.ntmps58
  go_wp2_with (first
    | (refine Sh.wp_sv plS (x := ⟨p.line + 1, 1⟩) rfl (.tmp 4) (.tmp 10) rfl rfl (by simp [Act.eval, Sh.val, plS, encP]) q2 ?_; intro w3 q3 b3 o3 s3)
    | (refine Sh.wp_al plS rfl rfl ?_; intro w2 q2 b2 s2; have v2 := v1.keep b2; have c0 : w2.cell? ⟨w.heap.size, 0, none⟩ = some (.int .i64 p.line) := v2.cell (j := 0) rfl; have B2 : Hid (Below w.heap.size w w2) := hid (b1.trans (b2.mono b1.size)); have N2 : Hid (w.heap.size < w1.heap.size) := hid v1.lt; clear b1 b2 s1)
    | (refine Sh.wp_box plS (x := p) rfl (.tmp 0) rfl rfl ?_; intro w1 v1 b1 s1))
  exact bodyPost_ret (results_p (g := w1.heap.size) Tryz.results58 _ rfl q3) rfl ⟨rfl, B2.out.trans (b3.mono (by have := N2.out; omega))⟩
theorem behind_col (p : Pl) (r : Nat) (w : World) (hr : ¬ (r : Int) = 10) (h2 : p.col < 1099511627776) : Calls Tryz.prog 58 #[plV p, .int .i32 r] w fun e w' => e = .returned (plV ⟨p.line, p.col + 1⟩) ∧ Below w.heap.size w w' := by
  go_enter Tryz.func58, Tryz.ntmps58
  go_wp2_with (first
    | (refine Sh.wp_sv plS (x := ⟨p.line, p.col + 1⟩) rfl (.tmp 4) (.tmp 16) rfl rfl (by simp [Act.eval, Sh.val, plS, encP]) q2 ?_; intro w3 q3 b3 o3 s3)
    | (refine Sh.wp_al plS rfl rfl ?_; intro w2 q2 b2 s2; have v2 := v1.keep b2; have c0 : w2.cell? ⟨w.heap.size, 0, none⟩ = some (.int .i64 p.line) := v2.cell (j := 0) rfl; have c1 : w2.cell? ⟨w.heap.size, 1, none⟩ = some (.int .i64 p.col) := v2.cell (j := 1) rfl; have B2 : Hid (Below w.heap.size w w2) := hid (b1.trans (b2.mono b1.size)); have N2 : Hid (w.heap.size < w1.heap.size) := hid v1.lt; clear b1 b2 s1)
    | (refine Sh.wp_box plS (x := p) rfl (.tmp 0) rfl rfl ?_; intro w1 v1 b1 s1))
  exact bodyPost_ret (results_p (g := w1.heap.size) Tryz.results58 _ rfl q3) rfl ⟨rfl, B2.out.trans (b3.mono (by have := N2.out; omega))⟩
theorem behind_any (p : Pl) (r : Nat) (w : World) (h1 : p.line < 1099511627776) (h2 : p.col < 1099511627776) : Calls Tryz.prog 58 #[plV p, .int .i32 r] w fun e w' => e = .returned (plV (behindP p r)) ∧ Below w.heap.size w w' := by
  by_cases h : r = 10
  · subst h
    have e : behindP p 10 = ⟨p.line + 1, 1⟩ := by simp [behindP]
    rw [e]
    exact behind_line p w h1
  · have e : behindP p r = ⟨p.line, p.col + 1⟩ := by simp [behindP, h]
    rw [e]
    exact behind_col p r w (by omega) h2
end Go.Proofs.YtkfnkieljcipnaaGreatDoor

/-! LB -/
namespace Go.Proofs.YtkfnkieljcipnaaGreatDoor
open Go Go.RowKit

def wordP : List UInt8 → Bool
  | [] => true
  | c :: r => letB c && r.all ldB
theorem wordB_eq (l : List UInt8) : wordB l = (decide (l ≠ []) && (wordP l && decide (l.length ≤ 16))) := by
  cases l with
  | nil => rfl
  | cons c r => simp only [wordB, wordP, List.length_cons]; simp [Bool.and_assoc]
theorem let_rune (c : UInt8) (r : List UInt8) : (decide (97 ≤ (dec (c :: r)).1) && decide ((dec (c :: r)).1 ≤ 122)) = letB c := by
  by_cases h : c.toNat < 128
  · rw [dec_ascii c r h]; rfl
  · have := dec_high c r (by omega)
    unfold letB
    rw [Bool.eq_iff_iff]; simp; omega
theorem dig_rune (c : UInt8) (r : List UInt8) : (decide (48 ≤ (dec (c :: r)).1) && decide ((dec (c :: r)).1 ≤ 57)) = digB c := by
  by_cases h : c.toNat < 128
  · rw [dec_ascii c r h]; rfl
  · have := dec_high c r (by omega)
    unfold digB
    rw [Bool.eq_iff_iff]; simp; omega
theorem ld_width {c : UInt8} (r : List UInt8) (h : ldB c = true) : (dec (c :: r)).2 = 1 := by rw [dec_ascii c r (ld_ascii h).1]
theorem drop_cons {l : List UInt8} {k : Nat} (h : k < l.length) : ∃ c r, l.drop k = c :: r ∧ l.take (k + 1) = l.take k ++ [c] := by
  refine ⟨l[k], l.drop (k + 1), List.drop_eq_getElem_cons h, ?_⟩
  rw [List.take_succ_eq_append_getElem h]
theorem wordP_snoc (l : List UInt8) (c : UInt8) : wordP (l ++ [c]) = (wordP l && (letB c || (decide (l ≠ []) && digB c))) := by
  cases l with
  | nil => simp [wordP]
  | cons d r => simp [wordP, ldB, Bool.and_assoc]
theorem wordP_take {l : List UInt8} (k : Nat) (h : wordP (l.take k) = false) : wordP l = false := by
  rw [← List.take_append_drop k l]
  generalize l.take k = a at *
  cases a with
  | nil => cases h
  | cons d r =>
    simp only [wordP, List.cons_append, List.all_append, Bool.and_eq_false_iff] at h ⊢
    rcases h with h | h
    · exact .inl h
    · exact .inr (.inl h)
theorem ne_size (l : List UInt8) (k : Nat) (h : k ≤ l.length) : decide (l.take k ≠ []) = !decide ((k : Int) = 0) := by
  cases k with
  | zero => simp
  | succ k =>
    cases l with
    | nil => simp at h
    | cons c r => simp; omega

def WordPost (s : ByteArray) (w : World) (e : Ending) (w' : World) : Prop := e = .returned (.bool (wordB s.data.toList)) ∧ Below w.heap.size w w'
theorem below_iter (w : World) (s : ByteArray) (pos : Nat) : Below w.heap.size w (w.iter s pos) := (Below.refl _ _).alloc (Nat.le_refl _) _

set_option maxRecDepth 100000 in
theorem word_any (s : ByteArray) (w : World) (hs : s.size ≤ 4611686018427387904) : Calls Tryz.prog 77 #[.string s] w (WordPost s w) := by
  go_enter Tryz.func77, Tryz.ntmps77
  go_wp2
  go_loopw [] (fun wr => ∃ pos : Nat, wr = w.iter s pos ∧ pos ≤ s.size ∧ wordP (s.data.toList.take pos) = true) (fun wr => s.size - wr.iterPos w.heap.size)
  case atStart => exact ⟨0, rfl, Nat.zero_le _, rfl⟩
  case round =>
    obtain ⟨pos, rfl, hp, hw⟩ := hrel
    by_cases hlt : pos < s.size
    · obtain ⟨c, r, hd, ht⟩ := drop_cons (l := s.data.toList) (k := pos) (by simpa using hlt)
      have h1 := let_rune c r
      have h2 := dig_rune c r
      have h3 := ld_width (c := c) r
      have h4 := dec_top (c :: r)
      have hne := ne_size s.data.toList pos (by simpa using hp)
      have hsn := wordP_snoc (s.data.toList.take pos) c
      rw [← ht, hw, hne, Bool.true_and] at hsn
      have hnx : ∀ ty, (Instr.next (.pointer (some ⟨w.heap.size, 0, none⟩)) true ty).run Tryz.prog (w.iter s pos) = _ := fun ty => run_next_any w s pos ty hlt
      rw [dec_of, hd] at hnx
      generalize (dec (c :: r)).1 = x at *
      generalize (dec (c :: r)).2 = n at *
      have HL : ∀ w, Calls Tryz.prog 79 #[.int .i32 x] w fun e w' => e = .returned (.bool (letB c)) ∧ w' = w := fun w => by have := letter_any x w; rwa [h1] at this
      have HD : ∀ w, Calls Tryz.prog 80 #[.int .i32 x] w fun e w' => e = .returned (.bool (digB c)) ∧ w' = w := fun w => by have := digit_any x w; rwa [h2] at this
      have HL := hid HL
      have HD := hid HD
      have HS := hid hsn
      have HT := hid (show wordP (s.data.toList.take (pos + 1)) = false → wordB s.data.toList = false from fun h => by rw [wordB_eq, wordP_take _ h]; simp)
      have HN := hid (show letB c = true ∨ digB c = true → n = 1 from fun h => h3 (by unfold ldB; rcases h with h | h <;> simp [h]))
      clear h1 h2 h3 hne hsn hd ht hw
      by_cases hl : letB c = true
      · have hn := HN.out (.inl hl)
        subst hn
        rw [hl] at HL HS
        have hok : Hid (wordP (s.data.toList.take (pos + 1)) = true) := hid (by rw [HS.out]; simp)
        clear HN HT HD HS
        go_wp2_with (first | (go_at_call 79; refine (HL.out _).mono ?_; rintro e w' ⟨rfl, rfl⟩))
        go_roundw
        case rel => exact ⟨pos + 1, rfl, by omega, hok.out⟩
        case measure => simp; omega
      · have hl : letB c = false := by simpa using hl
        rw [hl] at HL HS
        by_cases h0 : (pos : Int) = 0
        · have hok : Hid (wordB s.data.toList = false) := hid (HT.out (by rw [HS.out]; simp [h0]))
          obtain rfl : pos = 0 := by omega
          clear HN HT HD HS
          go_wp2_with (first | (go_at_call 79; refine (HL.out _).mono ?_; rintro e w' ⟨rfl, rfl⟩))
          go_ret
          exact ⟨ret_bool hok.out.symm, below_iter _ _ _⟩
        · by_cases hdg : digB c = true
          · have hn := HN.out (.inr hdg)
            subst hn
            rw [hdg] at HD HS
            have hok : Hid (wordP (s.data.toList.take (pos + 1)) = true) := hid (by rw [HS.out, decide_eq_false h0]; rfl)
            clear HN HT HS
            go_wp2_with (first | (go_at_call 79; refine (HL.out _).mono ?_; rintro e w' ⟨rfl, rfl⟩) | (go_at_call 80; refine (HD.out _).mono ?_; rintro e w' ⟨rfl, rfl⟩))
            go_roundw
            case rel => exact ⟨pos + 1, rfl, by omega, hok.out⟩
            case measure => simp; omega
          · have hdg : digB c = false := by simpa using hdg
            rw [hdg] at HD HS
            have hok : Hid (wordB s.data.toList = false) := hid (HT.out (by rw [HS.out]; simp))
            clear HN HT HS
            go_wp2_with (first | (go_at_call 79; refine (HL.out _).mono ?_; rintro e w' ⟨rfl, rfl⟩) | (go_at_call 80; refine (HD.out _).mono ?_; rintro e w' ⟨rfl, rfl⟩))
            go_ret
            exact ⟨ret_bool hok.out.symm, below_iter _ _ _⟩
    · have hnx : ∀ ty, (Instr.next (.pointer (some ⟨w.heap.size, 0, none⟩)) true ty).run Tryz.prog (w.iter s pos) = _ := fun ty => run_next_end w s pos ty hlt
      have HE : Hid (wordB s.data.toList = (decide (s.data.toList ≠ []) && decide (s.size ≤ 16))) := hid (by
        rw [List.take_of_length_le (by simp; omega)] at hw
        rw [wordB_eq, hw, Bool.true_and]
        rfl)
      clear hw
      go_wp2
      · rename_i h
        rw [ByteArray.toList_eq] at h
        go_ret
        exact ⟨ret_bool (by rw [HE.out, h]; rfl), below_iter _ _ _⟩
      · rename_i h
        rw [ByteArray.toList_eq] at h
        go_ret
        refine ⟨ret_bool ?_, below_iter _ _ _⟩
        rw [HE.out, ByteArray.toList_eq]
        congr 1
        · rw [decide_eq_true h]
          cases hh : s.data.toList with
          | nil => exact absurd hh h
          | cons _ _ => rfl
        · exact decide_eq_decide.2 (by omega)
end Go.Proofs.YtkfnkieljcipnaaGreatDoor

/-! Shelf -/
namespace Go.Proofs
open Go.Shelf Go.RowKit Go.Sort
def Tryz.lays161_ren : Go.Shelf.Ren := ⟨fun | 161 => 96 | 231 => 110 | 227 => 111 | 233 => 112 | 235 => 113 | 228 => 121 | 197 => 82 | 151 => 122 | 260 => 102 | 152 => 140 | 137 => 156 | 119 => 157 | 224 => 138 | 225 => 137 | 217 => 136 | 266 => 154 | n => n, fun | 9 => 9 | 4 => 4 | 3 => 3 | 5 => 5 | 117 => 144 | 116 => 143 | 0 => 0 | 124 => 147 | 105 => 117 | 21 => 21 | 119 => 155 | 46 => 156 | 139 => 159 | 138 => 158 | n => n, fun | 3 => 2 | 4 => 3 | n => n⟩
theorem Tryz.lays161 : Go.Proofs.Lays.n161 Tryz.prog Tryz.lays161_ren := {
  mixed := by kernel_rfl
  f119 := Tryz.func157.trans (congrArg some (by kernel_rfl))
  f137 := Tryz.func156.trans (congrArg some (by kernel_rfl))
  f151 := Tryz.func122.trans (congrArg some (by kernel_rfl))
  f152 := Tryz.func140.trans (congrArg some (by kernel_rfl))
  f161 := Tryz.func96.trans (congrArg some (by kernel_rfl))
  f197 := Tryz.func82.trans (congrArg some (by kernel_rfl))
  f217 := Tryz.func136.trans (congrArg some (by kernel_rfl))
  f224 := Tryz.func138.trans (congrArg some (by kernel_rfl))
  f225 := Tryz.func137.trans (congrArg some (by kernel_rfl))
  f227 := Tryz.func111.trans (congrArg some (by kernel_rfl))
  f228 := Tryz.func121.trans (congrArg some (by kernel_rfl))
  f231 := Tryz.func110.trans (congrArg some (by kernel_rfl))
  f233 := Tryz.func112.trans (congrArg some (by kernel_rfl))
  f235 := Tryz.func113.trans (congrArg some (by kernel_rfl))
  f260 := Tryz.func102.trans (congrArg some (by kernel_rfl))
  f266 := Tryz.func154.trans (congrArg some (by kernel_rfl))
  t0 := Tryz.underlying0
  a0 := Tryz.isAgg0
  z0 := Tryz.sizeOf0
  v0 := Tryz.zeroValue0
  t3 := Tryz.underlying3
  a3 := Tryz.isAgg3
  z3 := Tryz.sizeOf3
  v3 := Tryz.zeroValue3
  t4 := Tryz.underlying4
  a4 := Tryz.isAgg4
  z4 := Tryz.sizeOf4
  v4 := Tryz.zeroValue4
  t5 := Tryz.underlying5
  a5 := Tryz.isAgg5
  z5 := Tryz.sizeOf5
  v5 := Tryz.zeroValue5
  t9 := Tryz.underlying9
  a9 := Tryz.isAgg9
  z9 := Tryz.sizeOf9
  v9 := Tryz.zeroValue9
  t21 := Tryz.underlying21
  a21 := Tryz.isAgg21
  z21 := Tryz.sizeOf21
  v21 := Tryz.zeroValue21
  t46 := Tryz.underlying156
  a46 := Tryz.isAgg156
  z46 := Tryz.sizeOf156
  v46 := Tryz.zeroValue156
  t105 := Tryz.underlying117
  a105 := Tryz.isAgg117
  z105 := Tryz.sizeOf117
  v105 := Tryz.zeroValue117
  t116 := Tryz.underlying143
  a116 := Tryz.isAgg143
  z116 := Tryz.sizeOf143
  t117 := Tryz.underlying144
  a117 := Tryz.isAgg144
  z117 := Tryz.sizeOf144
  v117 := Tryz.zeroValue144
  t119 := Tryz.underlying155
  a119 := Tryz.isAgg155
  z119 := Tryz.sizeOf155
  t124 := Tryz.underlying147
  a124 := Tryz.isAgg147
  z124 := Tryz.sizeOf147
  v124 := Tryz.zeroValue147
  t138 := Tryz.underlying158
  a138 := Tryz.isAgg158
  z138 := Tryz.sizeOf158
  v138 := Tryz.zeroValue158
  t139 := Tryz.underlying159
  a139 := Tryz.isAgg159
  z139 := Tryz.sizeOf159
  v139 := Tryz.zeroValue159
  g3 := by kernel_rfl
  g4 := by kernel_rfl }
def Tryz.lays134_ren : Go.Shelf.Ren := ⟨fun | 134 => 168 | 129 => 149 | n => n, fun | 53 => 168 | 3 => 3 | 4 => 4 | 46 => 156 | 5 => 5 | 9 => 9 | n => n, fun | n => n⟩
theorem Tryz.lays134 : Go.Proofs.Lays.n134 Tryz.prog Tryz.lays134_ren := {
  mixed := by kernel_rfl
  f129 := Tryz.func149.trans (congrArg some (by kernel_rfl))
  f134 := Tryz.func168.trans (congrArg some (by kernel_rfl))
  t3 := Tryz.underlying3
  a3 := Tryz.isAgg3
  z3 := Tryz.sizeOf3
  v3 := Tryz.zeroValue3
  t4 := Tryz.underlying4
  a4 := Tryz.isAgg4
  z4 := Tryz.sizeOf4
  v4 := Tryz.zeroValue4
  t5 := Tryz.underlying5
  a5 := Tryz.isAgg5
  z5 := Tryz.sizeOf5
  v5 := Tryz.zeroValue5
  t9 := Tryz.underlying9
  a9 := Tryz.isAgg9
  z9 := Tryz.sizeOf9
  v9 := Tryz.zeroValue9
  t46 := Tryz.underlying156
  a46 := Tryz.isAgg156
  z46 := Tryz.sizeOf156
  v46 := Tryz.zeroValue156
  t53 := Tryz.underlying168
  a53 := Tryz.isAgg168
  z53 := Tryz.sizeOf168
  v53 := Tryz.zeroValue168 }
theorem Tryz.bits_LeadingZeros64 (x : Int) (w : World) (h0 : 0 ≤ x) (h1 : x ≤ 18446744073709551615) :
    Calls Tryz.prog 168 #[.int .u64 x] w fun e w' => e = .returned (.int .i64 (64 - (Lib.bitLen x.toNat : Int))) ∧ w' = w := Any.bits_LeadingZeros64 Tryz.lays134 x w h0 h1
def Tryz.lays103_ren : Go.Shelf.Ren := ⟨fun | 103 => 123 | 210 => 141 | 206 => 93 | n => n, fun | 9 => 9 | 4 => 4 | 24 => 164 | 3 => 3 | n => n, fun | n => n⟩
theorem Tryz.lays103 : Go.Proofs.Lays.n103 Tryz.prog Tryz.lays103_ren := {
  mixed := by kernel_rfl
  f103 := Tryz.func123.trans (congrArg some (by kernel_rfl))
  f206 := Tryz.func93.trans (congrArg some (by kernel_rfl))
  f210 := Tryz.func141.trans (congrArg some (by kernel_rfl))
  t3 := Tryz.underlying3
  a3 := Tryz.isAgg3
  z3 := Tryz.sizeOf3
  v3 := Tryz.zeroValue3
  t4 := Tryz.underlying4
  a4 := Tryz.isAgg4
  z4 := Tryz.sizeOf4
  v4 := Tryz.zeroValue4
  t9 := Tryz.underlying9
  a9 := Tryz.isAgg9
  z9 := Tryz.sizeOf9
  v9 := Tryz.zeroValue9
  t24 := Tryz.underlying164
  a24 := Tryz.isAgg164
  z24 := Tryz.sizeOf164
  v24 := Tryz.zeroValue164 }
theorem Tryz.strings_CutPrefix (s p : ByteArray) (w : World) :
    Calls Tryz.prog 123 #[.string s, .string p] w fun e w' => e = .returned (.tuple #[.string ⟨(Lib.trimPrefix s.data.toList p.data.toList).toArray⟩, .bool (Lib.hasPrefix s.data.toList p.data.toList)]) ∧ w' = w := Any.strings_CutPrefix Tryz.lays103 s p w
def Tryz.laysM173_ren : Go.Shelf.Ren := ⟨fun | 173 => 106 | 246 => 117 | 283 => 130 | 284 => 131 | 285 => 132 | 286 => 133 | 129 => 149 | 317 => 148 | 318 => 150 | 319 => 151 | 320 => 152 | 337 => 166 | 338 => 167 | n => n, fun | 2 => 2 | 3 => 3 | 9 => 9 | 4 => 4 | 171 => 173 | 0 => 0 | 53 => 168 | 37 => 54 | 5 => 5 | 173 => 176 | 212 => 189 | 51 => 190 | 20 => 20 | 213 => 191 | 46 => 156 | 232 => 207 | 233 => 208 | n => n, fun | 17 => 5 | 18 => 10 | 19 => 11 | n => n⟩
theorem Tryz.laysM173 : Go.Proofs.LaysM.n173 Tryz.prog Tryz.laysM173_ren := {
  mixed := by kernel_rfl
  f129 := Tryz.func149.trans (congrArg some (by kernel_rfl))
  f173 := Tryz.func106.trans (congrArg some (by kernel_rfl))
  f246 := Tryz.func117.trans (congrArg some (by kernel_rfl))
  f283 := Tryz.func130.trans (congrArg some (by kernel_rfl))
  f284 := Tryz.func131.trans (congrArg some (by kernel_rfl))
  f285 := Tryz.func132.trans (congrArg some (by kernel_rfl))
  f286 := Tryz.func133.trans (congrArg some (by kernel_rfl))
  f317 := Tryz.func148.trans (congrArg some (by kernel_rfl))
  f318 := Tryz.func150.trans (congrArg some (by kernel_rfl))
  f319 := Tryz.func151.trans (congrArg some (by kernel_rfl))
  f320 := Tryz.func152.trans (congrArg some (by kernel_rfl))
  f337 := Tryz.func166.trans (congrArg some (by kernel_rfl))
  f338 := Tryz.func167.trans (congrArg some (by kernel_rfl))
  t0 := Tryz.underlying0
  a0 := Tryz.isAgg0
  z0 := Tryz.sizeOf0
  v0 := Tryz.zeroValue0
  t2 := Tryz.underlying2
  a2 := Tryz.isAgg2
  z2 := Tryz.sizeOf2
  v2 := Tryz.zeroValue2
  t3 := Tryz.underlying3
  a3 := Tryz.isAgg3
  z3 := Tryz.sizeOf3
  v3 := Tryz.zeroValue3
  t4 := Tryz.underlying4
  a4 := Tryz.isAgg4
  z4 := Tryz.sizeOf4
  v4 := Tryz.zeroValue4
  t5 := Tryz.underlying5
  a5 := Tryz.isAgg5
  z5 := Tryz.sizeOf5
  v5 := Tryz.zeroValue5
  t9 := Tryz.underlying9
  a9 := Tryz.isAgg9
  z9 := Tryz.sizeOf9
  v9 := Tryz.zeroValue9
  t20 := Tryz.underlying20
  a20 := Tryz.isAgg20
  z20 := Tryz.sizeOf20
  v20 := Tryz.zeroValue20
  t37 := Tryz.underlying54
  a37 := Tryz.isAgg54
  z37 := Tryz.sizeOf54
  v37 := Tryz.zeroValue54
  t46 := Tryz.underlying156
  a46 := Tryz.isAgg156
  z46 := Tryz.sizeOf156
  v46 := Tryz.zeroValue156
  t51 := Tryz.underlying190
  a51 := Tryz.isAgg190
  z51 := Tryz.sizeOf190
  v51 := Tryz.zeroValue190
  t53 := Tryz.underlying168
  a53 := Tryz.isAgg168
  z53 := Tryz.sizeOf168
  v53 := Tryz.zeroValue168
  t171 := Tryz.underlying173
  a171 := Tryz.isAgg173
  z171 := Tryz.sizeOf173
  v171 := Tryz.zeroValue173
  t173 := Tryz.underlying176
  a173 := Tryz.isAgg176
  z173 := Tryz.sizeOf176
  v173 := Tryz.zeroValue176
  t212 := Tryz.underlying189
  a212 := Tryz.isAgg189
  z212 := Tryz.sizeOf189
  v212 := Tryz.zeroValue189
  t213 := Tryz.underlying191
  a213 := Tryz.isAgg191
  z213 := Tryz.sizeOf191
  t232 := Tryz.underlying207
  a232 := Tryz.isAgg207
  z232 := Tryz.sizeOf207
  v232 := Tryz.zeroValue207
  t233 := Tryz.underlying208
  a233 := Tryz.isAgg208
  z233 := Tryz.sizeOf208
  v233 := Tryz.zeroValue208
  g17 := by kernel_rfl
  g18 := by kernel_rfl
  g19 := by kernel_rfl
  i0 := by kernel_rfl
  i2 := by kernel_rfl
  i3 := by kernel_rfl
  i4 := by kernel_rfl
  i5 := by kernel_rfl
  i9 := by kernel_rfl
  i20 := by kernel_rfl
  i37 := by kernel_rfl
  i46 := by kernel_rfl
  i51 := by kernel_rfl
  i53 := by kernel_rfl
  i171 := by kernel_rfl
  i173 := by kernel_rfl
  i212 := by kernel_rfl
  i232 := by kernel_rfl
  i233 := by kernel_rfl
  m17 := by kernel_rfl
  m18 := by kernel_rfl
  m19 := by kernel_rfl }
theorem Tryz.strconv_FormatInt_10 (n : Int) (h0 : -9223372036854775808 ≤ n) (h1 : n ≤ 9223372036854775807) (w : World) (htab : Lib.TabIs Tryz.prog w "internal/strconv.uint64pow10" .u64 Lib.pow10Tab) :
    Calls Tryz.prog 106 #[.int .i64 n, .int .i64 10] w fun e w' => e = .returned (.string ⟨(Lib.itoa n).toArray⟩) ∧ ∃ k os, w' = grow (w.drewN k) os := Any.strconv_FormatInt_10 Tryz.laysM173 n h0 h1 w htab
def Tryz.laysM316_ren : Go.Shelf.Ren := ⟨fun | 316 => 85 | n => n, fun | 9 => 9 | 3 => 3 | 4 => 4 | 37 => 54 | 0 => 0 | 127 => 111 | 5 => 5 | n => n, fun | n => n⟩
theorem Tryz.laysM316 : Go.Proofs.LaysM.n316 Tryz.prog Tryz.laysM316_ren := {
  mixed := by kernel_rfl
  f316 := Tryz.func85.trans (congrArg some (by kernel_rfl))
  t0 := Tryz.underlying0
  a0 := Tryz.isAgg0
  z0 := Tryz.sizeOf0
  v0 := Tryz.zeroValue0
  t3 := Tryz.underlying3
  a3 := Tryz.isAgg3
  z3 := Tryz.sizeOf3
  v3 := Tryz.zeroValue3
  t4 := Tryz.underlying4
  a4 := Tryz.isAgg4
  z4 := Tryz.sizeOf4
  v4 := Tryz.zeroValue4
  t9 := Tryz.underlying9
  a9 := Tryz.isAgg9
  z9 := Tryz.sizeOf9
  v9 := Tryz.zeroValue9
  t37 := Tryz.underlying54
  a37 := Tryz.isAgg54
  z37 := Tryz.sizeOf54
  v37 := Tryz.zeroValue54
  t127 := Tryz.underlying111
  a127 := Tryz.isAgg111
  z127 := Tryz.sizeOf111
  v127 := Tryz.zeroValue111
  t5 := Tryz.underlying5
  a5 := Tryz.isAgg5
  z5 := Tryz.sizeOf5
  v5 := Tryz.zeroValue5
  i0 := by kernel_rfl
  i3 := by kernel_rfl
  i4 := by kernel_rfl
  i5 := by kernel_rfl
  i9 := by kernel_rfl
  i37 := by kernel_rfl
  i127 := by kernel_rfl }
theorem Tryz.stringslite_Clone (s : ByteArray) (w : World) (hlim : s.size ≤ 281474976710656) :
    Calls Tryz.prog 85 #[.string s] w fun e w' => e = .returned (.string s) ∧ Below w.heap.size w w' := Any.stringslite_Clone Tryz.laysM316 s w hlim
def Tryz.laysC174_ren : Go.Shelf.Ren := ⟨fun | 174 => 115 | 247 => 126 | 245 => 127 | 287 => 143 | 279 => 144 | 280 => 145 | 281 => 146 | 282 => 147 | 321 => 162 | 322 => 163 | 316 => 85 | 171 => 165 | 205 => 164 | 243 => 170 | 246 => 117 | 283 => 130 | 284 => 131 | 285 => 132 | 286 => 133 | 129 => 149 | 317 => 148 | 318 => 150 | 319 => 151 | 320 => 152 | 337 => 166 | 338 => 167 | n => n, fun | 9 => 9 | 3 => 3 | 2 => 2 | 75 => 108 | 85 => 151 | 4 => 4 | 167 => 182 | 5 => 5 | 53 => 168 | 175 => 183 | 46 => 156 | 168 => 185 | 37 => 54 | 0 => 0 | 210 => 200 | 21 => 21 | 127 => 111 | 145 => 206 | 143 => 204 | 171 => 173 | 173 => 176 | 212 => 189 | 51 => 190 | 20 => 20 | 213 => 191 | 232 => 207 | 233 => 208 | 80 => 80 | n => n, fun | 15 => 6 | 16 => 7 | 17 => 5 | 18 => 10 | 19 => 11 | n => n⟩
theorem Tryz.laysC174 : Go.Proofs.LaysC.n174 Tryz.prog Tryz.laysC174_ren := {
  mixed := by kernel_rfl
  f129 := Tryz.func149.trans (congrArg some (by kernel_rfl))
  f171 := Tryz.func165.trans (congrArg some (by kernel_rfl))
  f174 := Tryz.func115.trans (congrArg some (by kernel_rfl))
  f205 := Tryz.func164.trans (congrArg some (by kernel_rfl))
  f243 := Tryz.func170.trans (congrArg some (by kernel_rfl))
  f245 := Tryz.func127.trans (congrArg some (by kernel_rfl))
  f246 := Tryz.func117.trans (congrArg some (by kernel_rfl))
  f247 := Tryz.func126.trans (congrArg some (by kernel_rfl))
  f279 := Tryz.func144.trans (congrArg some (by kernel_rfl))
  f280 := Tryz.func145.trans (congrArg some (by kernel_rfl))
  f281 := Tryz.func146.trans (congrArg some (by kernel_rfl))
  f282 := Tryz.func147.trans (congrArg some (by kernel_rfl))
  f283 := Tryz.func130.trans (congrArg some (by kernel_rfl))
  f284 := Tryz.func131.trans (congrArg some (by kernel_rfl))
  f285 := Tryz.func132.trans (congrArg some (by kernel_rfl))
  f286 := Tryz.func133.trans (congrArg some (by kernel_rfl))
  f287 := Tryz.func143.trans (congrArg some (by kernel_rfl))
  f316 := Tryz.func85.trans (congrArg some (by kernel_rfl))
  f317 := Tryz.func148.trans (congrArg some (by kernel_rfl))
  f318 := Tryz.func150.trans (congrArg some (by kernel_rfl))
  f319 := Tryz.func151.trans (congrArg some (by kernel_rfl))
  f320 := Tryz.func152.trans (congrArg some (by kernel_rfl))
  f321 := Tryz.func162.trans (congrArg some (by kernel_rfl))
  f322 := Tryz.func163.trans (congrArg some (by kernel_rfl))
  f337 := Tryz.func166.trans (congrArg some (by kernel_rfl))
  f338 := Tryz.func167.trans (congrArg some (by kernel_rfl))
  t0 := Tryz.underlying0
  a0 := Tryz.isAgg0
  z0 := Tryz.sizeOf0
  v0 := Tryz.zeroValue0
  t2 := Tryz.underlying2
  a2 := Tryz.isAgg2
  z2 := Tryz.sizeOf2
  v2 := Tryz.zeroValue2
  t3 := Tryz.underlying3
  a3 := Tryz.isAgg3
  z3 := Tryz.sizeOf3
  v3 := Tryz.zeroValue3
  t4 := Tryz.underlying4
  a4 := Tryz.isAgg4
  z4 := Tryz.sizeOf4
  v4 := Tryz.zeroValue4
  t5 := Tryz.underlying5
  a5 := Tryz.isAgg5
  z5 := Tryz.sizeOf5
  v5 := Tryz.zeroValue5
  t9 := Tryz.underlying9
  a9 := Tryz.isAgg9
  z9 := Tryz.sizeOf9
  v9 := Tryz.zeroValue9
  t20 := Tryz.underlying20
  a20 := Tryz.isAgg20
  z20 := Tryz.sizeOf20
  v20 := Tryz.zeroValue20
  t21 := Tryz.underlying21
  a21 := Tryz.isAgg21
  z21 := Tryz.sizeOf21
  v21 := Tryz.zeroValue21
  t37 := Tryz.underlying54
  a37 := Tryz.isAgg54
  z37 := Tryz.sizeOf54
  v37 := Tryz.zeroValue54
  t46 := Tryz.underlying156
  a46 := Tryz.isAgg156
  z46 := Tryz.sizeOf156
  v46 := Tryz.zeroValue156
  t51 := Tryz.underlying190
  a51 := Tryz.isAgg190
  z51 := Tryz.sizeOf190
  v51 := Tryz.zeroValue190
  t53 := Tryz.underlying168
  a53 := Tryz.isAgg168
  z53 := Tryz.sizeOf168
  v53 := Tryz.zeroValue168
  t75 := Tryz.underlying108
  a75 := Tryz.isAgg108
  z75 := Tryz.sizeOf108
  v75 := Tryz.zeroValue108
  t85 := Tryz.underlying151
  a85 := Tryz.isAgg151
  z85 := Tryz.sizeOf151
  v85 := Tryz.zeroValue151
  t127 := Tryz.underlying111
  a127 := Tryz.isAgg111
  z127 := Tryz.sizeOf111
  v127 := Tryz.zeroValue111
  t143 := Tryz.underlying204
  a143 := Tryz.isAgg204
  z143 := Tryz.sizeOf204
  v143 := Tryz.zeroValue204
  t145 := Tryz.underlying206
  a145 := Tryz.isAgg206
  z145 := Tryz.sizeOf206
  v145 := Tryz.zeroValue206
  t167 := Tryz.underlying182
  a167 := Tryz.isAgg182
  z167 := Tryz.sizeOf182
  v167 := Tryz.zeroValue182
  t168 := Tryz.underlying185
  a168 := Tryz.isAgg185
  z168 := Tryz.sizeOf185
  v168 := Tryz.zeroValue185
  t171 := Tryz.underlying173
  a171 := Tryz.isAgg173
  z171 := Tryz.sizeOf173
  v171 := Tryz.zeroValue173
  t173 := Tryz.underlying176
  a173 := Tryz.isAgg176
  z173 := Tryz.sizeOf176
  v173 := Tryz.zeroValue176
  t175 := Tryz.underlying183
  a175 := Tryz.isAgg183
  z175 := Tryz.sizeOf183
  v175 := Tryz.zeroValue183
  t210 := Tryz.underlying200
  a210 := Tryz.isAgg200
  z210 := Tryz.sizeOf200
  v210 := Tryz.zeroValue200
  t212 := Tryz.underlying189
  a212 := Tryz.isAgg189
  z212 := Tryz.sizeOf189
  v212 := Tryz.zeroValue189
  t213 := Tryz.underlying191
  a213 := Tryz.isAgg191
  z213 := Tryz.sizeOf191
  t232 := Tryz.underlying207
  a232 := Tryz.isAgg207
  z232 := Tryz.sizeOf207
  v232 := Tryz.zeroValue207
  t233 := Tryz.underlying208
  a233 := Tryz.isAgg208
  z233 := Tryz.sizeOf208
  v233 := Tryz.zeroValue208
  g15 := by kernel_rfl
  g16 := by kernel_rfl
  g17 := by kernel_rfl
  g18 := by kernel_rfl
  g19 := by kernel_rfl
  t80 := Tryz.underlying80
  a80 := Tryz.isAgg80
  z80 := Tryz.sizeOf80
  v80 := Tryz.zeroValue80
  i0 := by kernel_rfl
  i2 := by kernel_rfl
  i3 := by kernel_rfl
  i4 := by kernel_rfl
  i5 := by kernel_rfl
  i9 := by kernel_rfl
  i20 := by kernel_rfl
  i21 := by kernel_rfl
  i37 := by kernel_rfl
  i46 := by kernel_rfl
  i51 := by kernel_rfl
  i53 := by kernel_rfl
  i75 := by kernel_rfl
  i80 := by kernel_rfl
  i85 := by kernel_rfl
  i127 := by kernel_rfl
  i143 := by kernel_rfl
  i145 := by kernel_rfl
  i167 := by kernel_rfl
  i168 := by kernel_rfl
  i171 := by kernel_rfl
  i173 := by kernel_rfl
  i175 := by kernel_rfl
  i210 := by kernel_rfl
  i212 := by kernel_rfl
  i232 := by kernel_rfl
  i233 := by kernel_rfl
  m15 := by kernel_rfl
  m16 := by kernel_rfl
  m17 := by kernel_rfl
  m18 := by kernel_rfl
  m19 := by kernel_rfl
  c0 := by kernel_rfl
  c2 := by kernel_rfl
  c3 := by kernel_rfl
  c4 := by kernel_rfl
  c5 := by kernel_rfl
  c9 := by kernel_rfl
  c20 := by kernel_rfl
  c21 := by kernel_rfl
  c37 := by kernel_rfl
  c46 := by kernel_rfl
  c51 := by kernel_rfl
  c53 := by kernel_rfl
  c75 := by kernel_rfl
  c80 := by kernel_rfl
  c85 := by kernel_rfl
  c127 := by kernel_rfl
  c143 := by kernel_rfl
  c145 := by kernel_rfl
  c167 := by kernel_rfl
  c168 := by kernel_rfl
  c171 := by kernel_rfl
  c173 := by kernel_rfl
  c175 := by kernel_rfl
  c210 := by kernel_rfl
  c212 := by kernel_rfl
  c213 := by kernel_rfl
  c232 := by kernel_rfl
  c233 := by kernel_rfl }
theorem Tryz.strconv_ParseInt_10_at64_ok (s : ByteArray) (hmax : s.size ≤ 9223372036854775806) (v : Int) (h : Lib.parseIntB 64 s.data.toList = .ok v) (w : World) :
    Calls Tryz.prog 115 #[.string s, .int .i64 10, .int .i64 64] w fun e w' => e = .returned (.tuple #[.int .i64 v, .nilIface]) ∧ (w' = w ∨ ∃ t, w' = Lib.bytesWorld w 5 t) := Any.strconv_ParseInt_10_at64_ok Tryz.laysC174 s hmax v h w
def Tryz.lays144_ren : Go.Shelf.Ren := ⟨fun | 144 => 94 | 143 => 108 | 219 => 120 | 217 => 136 | 225 => 137 | 224 => 138 | 267 => 139 | 266 => 154 | 314 => 155 | n => n, fun | 9 => 9 | 4 => 4 | 3 => 3 | 5 => 5 | 46 => 156 | 146 => 195 | 51 => 190 | n => n, fun | 1 => 4 | n => n⟩
theorem Tryz.lays144 : Go.Proofs.Lays.n144 Tryz.prog Tryz.lays144_ren := {
  mixed := by kernel_rfl
  f143 := Tryz.func108.trans (congrArg some (by kernel_rfl))
  f144 := Tryz.func94.trans (congrArg some (by kernel_rfl))
  f217 := Tryz.func136.trans (congrArg some (by kernel_rfl))
  f219 := Tryz.func120.trans (congrArg some (by kernel_rfl))
  f224 := Tryz.func138.trans (congrArg some (by kernel_rfl))
  f225 := Tryz.func137.trans (congrArg some (by kernel_rfl))
  f266 := Tryz.func154.trans (congrArg some (by kernel_rfl))
  f267 := Tryz.func139.trans (congrArg some (by kernel_rfl))
  f314 := Tryz.func155.trans (congrArg some (by kernel_rfl))
  t3 := Tryz.underlying3
  a3 := Tryz.isAgg3
  z3 := Tryz.sizeOf3
  v3 := Tryz.zeroValue3
  t4 := Tryz.underlying4
  a4 := Tryz.isAgg4
  z4 := Tryz.sizeOf4
  v4 := Tryz.zeroValue4
  t5 := Tryz.underlying5
  a5 := Tryz.isAgg5
  z5 := Tryz.sizeOf5
  v5 := Tryz.zeroValue5
  t9 := Tryz.underlying9
  a9 := Tryz.isAgg9
  z9 := Tryz.sizeOf9
  v9 := Tryz.zeroValue9
  t46 := Tryz.underlying156
  a46 := Tryz.isAgg156
  z46 := Tryz.sizeOf156
  v46 := Tryz.zeroValue156
  t51 := Tryz.underlying190
  a51 := Tryz.isAgg190
  z51 := Tryz.sizeOf190
  v51 := Tryz.zeroValue190
  t146 := Tryz.underlying195
  a146 := Tryz.isAgg195
  z146 := Tryz.sizeOf195
  v146 := Tryz.zeroValue195
  g1 := by kernel_rfl }
theorem Tryz.strings_Contains_one (s : ByteArray) (c : UInt8) (w : World) :
    Calls Tryz.prog 94 #[.string s, .string ⟨#[c]⟩] w fun e w' => e = .returned (.bool (decide (0 ≤ Lib.indexByte s.data.toList c))) ∧ w' = w := Any.strings_Contains_one Tryz.lays144 s c w
def Tryz.lays99_ren : Go.Shelf.Ren := ⟨fun | 99 => 75 | 206 => 93 | n => n, fun | 9 => 9 | 4 => 4 | 3 => 3 | n => n, fun | n => n⟩
theorem Tryz.lays99 : Go.Proofs.Lays.n99 Tryz.prog Tryz.lays99_ren := {
  mixed := by kernel_rfl
  f99 := Tryz.func75.trans (congrArg some (by kernel_rfl))
  f206 := Tryz.func93.trans (congrArg some (by kernel_rfl))
  t3 := Tryz.underlying3
  a3 := Tryz.isAgg3
  z3 := Tryz.sizeOf3
  v3 := Tryz.zeroValue3
  t4 := Tryz.underlying4
  a4 := Tryz.isAgg4
  z4 := Tryz.sizeOf4
  v4 := Tryz.zeroValue4
  t9 := Tryz.underlying9
  a9 := Tryz.isAgg9
  z9 := Tryz.sizeOf9
  v9 := Tryz.zeroValue9 }
theorem Tryz.strings_HasPrefix (s p : ByteArray) (w : World) :
    Calls Tryz.prog 75 #[.string s, .string p] w fun e w' => e = .returned (.bool (Lib.hasPrefix s.data.toList p.data.toList)) ∧ w' = w := Any.strings_HasPrefix Tryz.lays99 s p w
def Tryz.lays101_ren : Go.Shelf.Ren := ⟨fun | 101 => 95 | 208 => 109 | 206 => 93 | n => n, fun | 9 => 9 | 4 => 4 | 3 => 3 | n => n, fun | n => n⟩
theorem Tryz.lays101 : Go.Proofs.Lays.n101 Tryz.prog Tryz.lays101_ren := {
  mixed := by kernel_rfl
  f101 := Tryz.func95.trans (congrArg some (by kernel_rfl))
  f206 := Tryz.func93.trans (congrArg some (by kernel_rfl))
  f208 := Tryz.func109.trans (congrArg some (by kernel_rfl))
  t3 := Tryz.underlying3
  a3 := Tryz.isAgg3
  z3 := Tryz.sizeOf3
  v3 := Tryz.zeroValue3
  t4 := Tryz.underlying4
  a4 := Tryz.isAgg4
  z4 := Tryz.sizeOf4
  v4 := Tryz.zeroValue4
  t9 := Tryz.underlying9
  a9 := Tryz.isAgg9
  z9 := Tryz.sizeOf9
  v9 := Tryz.zeroValue9 }
theorem Tryz.strings_TrimPrefix (s p : ByteArray) (w : World) :
    Calls Tryz.prog 95 #[.string s, .string p] w fun e w' => e = .returned (.string ⟨(Lib.trimPrefix s.data.toList p.data.toList).toArray⟩) ∧ w' = w := Any.strings_TrimPrefix Tryz.lays101 s p w
def Tryz.lays264_ren : Go.Shelf.Ren := ⟨fun | 264 => 158 | n => n, fun | 53 => 168 | 46 => 156 | n => n, fun | n => n⟩
theorem Tryz.lays264 : Go.Proofs.Lays.n264 Tryz.prog Tryz.lays264_ren := {
  mixed := by kernel_rfl
  f264 := Tryz.func158.trans (congrArg some (by kernel_rfl))
  t46 := Tryz.underlying156
  a46 := Tryz.isAgg156
  z46 := Tryz.sizeOf156
  v46 := Tryz.zeroValue156
  t53 := Tryz.underlying168
  a53 := Tryz.isAgg168
  z53 := Tryz.sizeOf168
  v53 := Tryz.zeroValue168 }
theorem Tryz.bits_Mul64 (x y : Nat) (hx : x < 18446744073709551616) (hy : y < 18446744073709551616) (w : World) :
    Calls Tryz.prog 158 #[.int .u64 x, .int .u64 y] w fun e w' => e = .returned (.tuple #[.int .u64 ((x * y / 18446744073709551616 : Nat) : Int), .int .u64 ((x * y % 18446744073709551616 : Nat) : Int)]) ∧ w' = w := Any.bits_Mul64 Tryz.lays264 x y hx hy w
theorem Tryz.strings_TrimLeft_laid (s cutset : ByteArray) (w : World) (hcs : cutset.size < 4294967281)
    (hascii : ∀ (j : Nat) b, cutset.data.toList[j]? = some b → b.toNat < 128) :
    Calls Tryz.prog 96 #[.string s, .string cutset] w fun e w' => e = .returned (.string ⟨(Lib.trimLeftS s.data.toList cutset.data.toList).toArray⟩) ∧ Below w.heap.size w w' :=
  Any.strings_TrimLeft_laid Tryz.lays161 (by kernel_rfl) s cutset w hcs hascii
end Go.Proofs
