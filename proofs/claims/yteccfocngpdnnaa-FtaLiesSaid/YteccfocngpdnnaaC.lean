/-
  What slices.Clone, slices.Sort, slices.Max, slices.Min, fta.Middle and fta.Clip answer: of numbers of 64 bits with their signs, in a slice that reads as a list. What is asked stands in each head.
-/
import Derived.Test.YteccfocngpdnnaaA
import Derived.Test.YteccfocngpdnnaaP
import Derived.Test.YteccfocngpdnnaaShelf
import Derived.Lib.RowBridge
import Derived.Lib.SliceRun
import Derived.Lib.QuietBelow
import Derived.LoopN
namespace Go.Proofs.Yteccfocngpdnnaa
open Go Go.RowKit

/-- Numbers of 64 bits. -/
def B64 (l : List Int) : Prop := ∀ x ∈ l, -9223372036854775808 ≤ x ∧ x ≤ 9223372036854775807
theorem sv_get {l : List Int} {k : Nat} (hk : k < l.length) {u : Value} (h : (sv l)[k]? = some u) : u = .int .i64 (l.getD k 0) := by
  simp only [sv, List.getElem?_map, List.getElem?_eq_getElem hk] at h
  have : u = .int .i64 l[k] := by simpa using h.symm
  rw [this]; simp [List.getD, List.getElem?_eq_getElem hk]
theorem getD_b64 {l : List Int} (h : B64 l) (k : Nat) : -9223372036854775808 ≤ l.getD k 0 ∧ l.getD k 0 ≤ 9223372036854775807 := by
  by_cases hk : k < l.length
  · exact h _ (getD_mem hk)
  · simp [List.getD, List.getElem?_eq_none (by omega : l.length ≤ k)]

theorem middle_any (a b : Int) (w : World) (a0 : -9223372036854775808 ≤ a) (a1 : a ≤ 9223372036854775807) (b0 : -9223372036854775808 ≤ b) (b1 : b ≤ 9223372036854775807) :
    Calls Try.prog 11 #[.int .i64 a, .int .i64 b] w fun e w' => e = .returned (.int .i64 ((a + b) / 2)) ∧ w' = w := by
  have h := mid_eq a b a0 a1 b0 b1
  have hw : IntKind.i64.wrap (bits .and .i64 a b + bits .xor .i64 a b / 2) = (a + b) / 2 := by
    rw [h, IntKind.wrap_i64]; omega
  clear h
  go_enter Try.func11, Try.ntmps11
  go_wp2
  go_ret
  exact ⟨rfl, rfl⟩
theorem clip_any (n m : Int) (w : World) (_ : -9223372036854775808 ≤ n) (_ : n ≤ 9223372036854775807) (m0 : -9223372036854775808 ≤ m) (m1 : m ≤ 9223372036854775807) :
    Calls Try.prog 14 #[.int .i64 n, .int .i64 m] w fun e w' => e = .returned (.tuple (if m < 0 then #[.int .i64 0, .int .i64 1] else #[.int .i64 (min (max n (-m)) m), .int .i64 0])) ∧ w' = w := by
  by_cases h : m < 0
  · rw [if_pos h]
    go_enter Try.func14, Try.ntmps14
    go_wp2
    go_ret2
    exact ⟨rfl, rfl⟩
  · rw [if_neg h]
    go_enter Try.func14, Try.ntmps14
    go_wp2
    go_ret2
    exact ⟨rfl, rfl⟩
theorem clone_any (A : Option Addr) (n c B : Nat) (l : List Int) (w : World) (ha : Row w B A n (sv l)) (hB : B ≤ w.heap.size) (hn : n ≤ 100) :
    Calls Try.prog 15 #[.slice A n c] w fun e w' => ∃ A' c', e = .returned (.slice A' n c') ∧ Own w' w.heap.size 2 A' n c' (sv l) ∧ Below w.heap.size w w' := by
  have HA := hid ha
  have q22 : ∀ (w : World) (a : Option Addr) (n c n' c' : Nat), (binOp .eql 25 (.slice a n c) (.slice none n' c')).run Try.prog w = .ok (.bool a.isNone) w := fun w a n c n' c' => Lib.run_eql_slice_nil w _ _ a n c n' c' Try.underlying25
  cases A with
  | none =>
    have h0 : n = 0 := by
      by_cases hp : 0 < n
      · obtain ⟨b, o, e, _⟩ := ha.2 hp; cases e
      · omega
    subst h0
    have hl : l = [] := List.eq_nil_of_length_eq_zero (by have := ha.1; rwa [sv_len] at this)
    subst hl
    clear ha HA
    go_enter Try.func15, Try.ntmps15
    go_wp2
    go_ret
    exact ⟨none, 0, rfl, Own.nil _ _ _, Below.refl _ _⟩
  | some x =>
    clear ha
    go_enter Try.func15, Try.ntmps15
    go_wp2_with (at_builtin; refine wpList_app _ rfl (.tmp 5) (.tmp 6) 25 rfl w.heap.size 2 (.int .i64 0) 8 Try.underlying25 info2 rfl _ 0 0 [] rfl (World.ownsRow_made w #[] 0 (Nat.le_refl _) (Nat.zero_le _) rfl) B (some x) n c (sv l) rfl (HA.out.alloc hB _) (sv_one l) (by omega) (by omega) (by simp) ?_; intro A2 c2 w2 own2 bel2)
    go_ret
    rw [Nat.zero_add, List.nil_append] at own2
    exact ⟨A2, c2, rfl, own2, ((Below.refl _ w).alloc (Nat.le_refl _) _).trans bel2⟩
/-- Cells of a list set one by one. -/
def setL (xs : List Value) : Nat → List Value → List Value
  | _, [] => xs
  | o, v :: r => setL (xs.set o v) (o + 1) r
theorem setL_mid : ∀ (vs a b c : List Value), b.length = vs.length → setL (a ++ (b ++ c)) a.length vs = a ++ (vs ++ c)
  | [], a, b, c, h => by
    have : b = [] := List.eq_nil_of_length_eq_zero (by simpa using h)
    subst this; rfl
  | v :: vs, a, b, c, h => by
    obtain ⟨u, b, rfl⟩ : ∃ u b', b = u :: b' := by cases b with
      | nil => simp at h
      | cons u b => exact ⟨u, b, rfl⟩
    unfold setL
    have e : (a ++ (u :: b ++ c)).set a.length v = (a ++ [v]) ++ (b ++ c) := by
      rw [List.set_append_right _ _ (Nat.le_refl _)]; simp
    rw [e, show a.length + 1 = (a ++ [v]).length by simp, setL_mid vs (a ++ [v]) b c (by simpa using h)]
    simp
theorem setL_all (xs vs : List Value) (h : xs.length = vs.length) : setL xs 0 vs = vs := by
  have := setL_mid vs [] xs [] h
  simpa using this
theorem ownsRow_setCells {base e size g n cap : Nat} : ∀ (vs : List Value) (o : Nat) (w : World) (xs : List Value), w.ownsRow base e size (.slice (some ⟨g, 0, none⟩) n cap) n xs → base ≤ g →
    (w.setCells g o vs).ownsRow base e size (.slice (some ⟨g, 0, none⟩) n cap) n (setL xs o vs) ∧ Below base w (w.setCells g o vs)
  | [], _, w, _, h, _ => ⟨h, Below.refl _ _⟩
  | v :: r, o, w, xs, h, hb => by
    obtain ⟨a, b⟩ := ownsRow_setCells r (o + 1) _ _ (h.stored o v).1 hb
    exact ⟨a, ((Below.refl _ _).setCell (p := ⟨g, o, none⟩) hb v).trans b⟩
theorem below_grow (w : World) (os : Array Obj) : Below w.heap.size w (Sort.grow w os) := below_regrown w w.drawn os
theorem Own.some {w : World} {base n c : Nat} {e : TypeId} {A : Option Addr} {vs : List Value} (h : Own w base e A n c vs) (hn : 0 < n) : ∃ g, A = some ⟨g, 0, none⟩ ∧ base ≤ g ∧ g < w.heap.size := by
  rcases h.2 with ⟨_, h0⟩ | ⟨g, cap, cur, hv, hb, hg, _⟩
  · omega
  · injection hv with h1
    exact ⟨g, h1, hb, (Array.getElem?_eq_some_iff.1 hg).1⟩
theorem own_holds {w : World} {base g n c : Nat} {l : List Int} (h : Own w base 2 (some ⟨g, 0, none⟩) n c (sv l)) : Sort.Holds (Value.int .i64) w g 0 l.toArray := by
  intro j hj
  have hj' : j < l.length := by simpa using hj
  have hl := h.len
  rw [sv_len] at hl
  refine ⟨?_, World.ownsRow.frozenAt h _⟩
  rw [Nat.zero_add, World.ownsRow.cellAt h j (by omega)]
  simp [sv, List.getElem?_eq_getElem hj']
theorem sort_any (base n c : Nat) (A : Option Addr) (l : List Int) (w : World) (h : Own w base 2 A n c (sv l)) (hn : n ≤ 100000) :
    Calls Try.prog 16 #[.slice A n c] w fun e w' => e = .returned (.tuple #[]) ∧ Own w' base 2 A n c (sv (srt l)) ∧ Below base w w' := by
  have hl := h.len
  rw [sv_len] at hl
  by_cases h0 : n = 0
  · subst h0
    have hl0 : l = [] := List.eq_nil_of_length_eq_zero hl
    subst hl0
    refine (show Calls Try.prog 16 _ _ _ from AnyM.slices_Sort_int_none Try.laysSort A c w).mono ?_
    rintro e w' ⟨rfl, rfl⟩
    exact ⟨rfl, by simpa [srt] using h, Below.refl _ _⟩
  · obtain ⟨g, rfl, hg1, hg2⟩ := h.some (by omega)
    have hcon := AnyM.slices_Sort_int Try.laysSort g 0 c l w (own_holds h) hg2 (by omega)
    rw [hl] at hcon
    refine (show Calls Try.prog 16 _ _ _ from hcon).mono ?_
    rintro e w' ⟨he, q, os, hw⟩
    refine ⟨he, ?_⟩
    have hw2 : w' = Sort.grow ((w.drewN q).setCells g 0 (sv (srt l))) os := by
      rw [hw]
      have := Lib.putRow_eq_setCells (Value.int .i64) w g 0 l.toArray (srt l) q (own_holds h) (by rw [srt_len]; simp)
      exact congrArg (fun x => Sort.grow x os) this
    have hown : Own (w.drewN q) base 2 (some ⟨g, 0, none⟩) n c (sv l) := h
    obtain ⟨h1, h2⟩ := ownsRow_setCells (sv (srt l)) 0 (w.drewN q) _ hown hg1
    rw [setL_all _ _ (by rw [sv_len, sv_len, srt_len])] at h1
    have hbd : Below base w (w.drewN q) := ⟨rfl, rfl, rfl, Nat.le_refl _, fun _ _ => rfl⟩
    have hsz2 : base ≤ ((w.drewN q).setCells g 0 (sv (srt l))).heap.size := Nat.le_trans (Nat.le_trans hg1 (Nat.le_of_lt hg2)) (hbd.trans h2).size
    rw [hw2]
    exact ⟨Own.below h1 (below_grow _ os), (hbd.trans h2).trans ((below_grow _ os).mono hsz2)⟩

def maxRel (l : List Int) (w : World) (m i : Value) (wr : World) : Prop := ∃ k : Nat, 1 ≤ k ∧ k ≤ l.length ∧ m = .int .i64 (mx (l.take k)) ∧ i = .int .i64 (k : Int) ∧ wr = w
set_option maxHeartbeats 400000 in
theorem max_any (A : Option Addr) (n c B : Nat) (l : List Int) (w : World) (ha : Row w B A n (sv l)) (hb : B64 l) (hp : 1 ≤ n) (hn : n ≤ 100) :
    Calls Try.prog 12 #[.slice A n c] w fun e w' => e = .returned (.int .i64 (mx l)) ∧ w' = w := by
  have hl : l.length = n := by have := ha.1; rwa [sv_len] at this
  have HL := hid hl
  have HA := hid ha
  have HB := hid hb
  obtain ⟨b, o, u, rfl, hbb, hu, hcell⟩ := ha.at_ (k := 0) (by omega)
  obtain rfl := sv_get (by omega) hu
  have h0 : l.getD 0 0 = mx (l.take 1) := by
    cases l with
    | nil => simp at hl; omega
    | cons a t => rfl
  rw [h0] at hcell
  rw [Nat.add_zero] at hcell
  generalize hm0 : mx (l.take 1) = m0 at hcell
  have HM0 := hid hm0
  clear ha hb hu h0 hl hm0
  go_enter Try.func12, Try.ntmps12
  go_wp2
  go_loopw [3, 4] (maxRel l w) (fun _ i _ => n - (intOf i).toNat)
  case atStart => exact ⟨1, Nat.le_refl _, by have := HL.out; omega, by rw [HM0.out], rfl, rfl⟩
  case round =>
    obtain ⟨k, k1, k2, rfl, rfl, rfl⟩ := hrel
    have hl := HL.out
    have hkn : k ≤ n := by omega
    have HK := hid k2
    clear hl k2
    have hmb : -9223372036854775808 ≤ mx (l.take k) ∧ mx (l.take k) ≤ 9223372036854775807 := HB.out _ (List.mem_of_mem_take (mx_mem (by
      intro e; have := congrArg List.length e; rw [List.length_take, HL.out] at this; simp at this; omega)))
    obtain ⟨M, hM⟩ : ∃ M, M = mx (l.take k) := ⟨_, rfl⟩
    rw [← hM] at hmb ⊢
    have HM := hid hM
    clear hM
    have hmb1 := hmb.1
    have hmb2 := hmb.2
    clear hmb
    by_cases hlt : k < n
    · obtain ⟨b', o', u, e', hbb', hu, hcell'⟩ := HA.out.at_ hlt
      injection e' with e'; injection e' with e1 e2
      subst e1; subst e2
      obtain rfl := sv_get (by rw [HL.out]; exact hlt) hu
      have hx := getD_b64 HB.out k
      have HT : Hid (mx (l.take (k + 1)) = max M (l.getD k 0)) := hid (by
        have hk : k < l.length := by rw [HL.out]; exact hlt
        rw [List.take_succ_eq_append_getElem hk, mx_snoc (by intro e; have := congrArg List.length e; rw [List.length_take] at this; change min k l.length = 0 at this; omega), HM.out]
        simp [List.getD, List.getElem?_eq_getElem hk])
      generalize l.getD k 0 = x at *
      have hx1 := hx.1
      have hx2 := hx.2
      clear hx hu
      go_wp2
      go_roundw
      case rel => exact ⟨k + 1, by omega, by rw [HL.out]; omega, by rw [HT.out], by go_num, rfl⟩
      case measure => simp [intOf]; omega
    · have HE : Hid (l.take k = l) := hid (List.take_of_length_le (by rw [HL.out]; omega))
      go_wp2
      go_ret
      exact ⟨ret_int (by rw [HM.out, HE.out]), rfl⟩

def minRel (l : List Int) (w : World) (m i : Value) (wr : World) : Prop := ∃ k : Nat, 1 ≤ k ∧ k ≤ l.length ∧ m = .int .i64 (mn (l.take k)) ∧ i = .int .i64 (k : Int) ∧ wr = w
set_option maxHeartbeats 400000 in
theorem min_any (A : Option Addr) (n c B : Nat) (l : List Int) (w : World) (ha : Row w B A n (sv l)) (hb : B64 l) (hp : 1 ≤ n) (hn : n ≤ 100) :
    Calls Try.prog 13 #[.slice A n c] w fun e w' => e = .returned (.int .i64 (mn l)) ∧ w' = w := by
  have hl : l.length = n := by have := ha.1; rwa [sv_len] at this
  have HL := hid hl
  have HA := hid ha
  have HB := hid hb
  obtain ⟨b, o, u, rfl, hbb, hu, hcell⟩ := ha.at_ (k := 0) (by omega)
  obtain rfl := sv_get (by omega) hu
  have h0 : l.getD 0 0 = mn (l.take 1) := by
    cases l with
    | nil => simp at hl; omega
    | cons a t => rfl
  rw [h0] at hcell
  rw [Nat.add_zero] at hcell
  generalize hm0 : mn (l.take 1) = m0 at hcell
  have HM0 := hid hm0
  clear ha hb hu h0 hl hm0
  go_enter Try.func13, Try.ntmps13
  go_wp2
  go_loopw [3, 4] (minRel l w) (fun _ i _ => n - (intOf i).toNat)
  case atStart => exact ⟨1, Nat.le_refl _, by have := HL.out; omega, by rw [HM0.out], rfl, rfl⟩
  case round =>
    obtain ⟨k, k1, k2, rfl, rfl, rfl⟩ := hrel
    have hl := HL.out
    have hkn : k ≤ n := by omega
    have HK := hid k2
    clear hl k2
    have hmb : -9223372036854775808 ≤ mn (l.take k) ∧ mn (l.take k) ≤ 9223372036854775807 := HB.out _ (List.mem_of_mem_take (mn_mem (by
      intro e; have := congrArg List.length e; rw [List.length_take, HL.out] at this; simp at this; omega)))
    obtain ⟨M, hM⟩ : ∃ M, M = mn (l.take k) := ⟨_, rfl⟩
    rw [← hM] at hmb ⊢
    have HM := hid hM
    clear hM
    have hmb1 := hmb.1
    have hmb2 := hmb.2
    clear hmb
    by_cases hlt : k < n
    · obtain ⟨b', o', u, e', hbb', hu, hcell'⟩ := HA.out.at_ hlt
      injection e' with e'; injection e' with e1 e2
      subst e1; subst e2
      obtain rfl := sv_get (by rw [HL.out]; exact hlt) hu
      have hx := getD_b64 HB.out k
      have HT : Hid (mn (l.take (k + 1)) = min M (l.getD k 0)) := hid (by
        have hk : k < l.length := by rw [HL.out]; exact hlt
        rw [List.take_succ_eq_append_getElem hk, mn_snoc (by intro e; have := congrArg List.length e; rw [List.length_take] at this; change min k l.length = 0 at this; omega), HM.out]
        simp [List.getD, List.getElem?_eq_getElem hk])
      generalize l.getD k 0 = x at *
      have hx1 := hx.1
      have hx2 := hx.2
      clear hx hu
      go_wp2
      go_roundw
      case rel => exact ⟨k + 1, by omega, by rw [HL.out]; omega, by rw [HT.out], by go_num, rfl⟩
      case measure => simp [intOf]; omega
    · have HE : Hid (l.take k = l) := hid (List.take_of_length_le (by rw [HL.out]; omega))
      go_wp2
      go_ret
      exact ⟨ret_int (by rw [HM.out, HE.out]), rfl⟩
end Go.Proofs.Yteccfocngpdnnaa
