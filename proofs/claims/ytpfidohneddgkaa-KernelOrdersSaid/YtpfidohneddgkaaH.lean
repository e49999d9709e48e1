/-
  slices.Clone, heap.Build, heap.Push: what they answer at slices that read as lists. What is asked: at most 4096 things where a heap is made.
-/
import Derived.Test.YtpfidohneddgkaaF
import Derived.Test.YtpfidohneddgkaaG
namespace Go.Proofs.Ytpfidohneddgkaa
open Go Go.RowKit

section
variable {w : World}
theorem wpList_ld {ops : Array Oper} {rest : List Oper} {op : Oper} {a : Act} {Q : Exit → Act → World → Prop} (hgd : op.guard = none) (x : Operand) (ho : op.op = .load 36 x) {b o : Nat} {v : It} (hx : a.eval x = .pointer (some ⟨b, o, none⟩))
    (hr : w.rangeAt b o (enc v)) (h : wpList Try.prog ops Q rest (a.put op.dst (itv v)) w) : wpList Try.prog ops Q (op :: rest) a w :=
  wpList_load_mid hgd 36 x ho b o hx (enc v) _ hr Try.underlying36 rfl (by rw [size24]; rfl) h
theorem wpList_st {ops : Array Oper} {rest : List Oper} {op : Oper} {a : Act} {Q : Exit → Act → World → Prop} (hgd : op.guard = none) (x y : Operand) (ho : op.op = .store 36 x y) {base g n c k : Nat} {l : List It} {v : It} (hx : a.eval x = .pointer (some ⟨g, k * 6, none⟩))
    (hy : a.eval y = itv v) (hown : Own w base (some ⟨g, 0, none⟩) n c l) (hk : k < n) (h : ∀ w', Own w' base (some ⟨g, 0, none⟩) n c (l.set k v) → Below base w w' → wpList Try.prog ops Q rest (a.put op.dst undef) w') : wpList Try.prog ops Q (op :: rest) a w := by
  obtain ⟨h1, h2⟩ := hown.store hk v
  exact wpList_store_mid hgd 36 x y ho g (k * 6) (enc v).toArray hx hy (hown.there hk) (by rw [size24]; rfl) (all_oneCell_toArray (enc_one v)) (h _ h1 h2)
theorem Own.some {base n c : Nat} {A : Option Addr} {l : List It} (h : Own w base A n c l) (hn : 0 < n) : ∃ g, A = .some ⟨g, 0, none⟩ := by
  rcases h.2 with ⟨_, h0⟩ | ⟨g, cap, cur, hv, hb, _⟩
  · omega
  · exact ⟨g, by injection hv⟩
theorem Row.alloc {B n : Nat} {A : Option Addr} {xs : List It} (h : Row w B A n xs) (hB : B ≤ w.heap.size) (o : Obj) : Row (w.alloc o) B A n xs := h.below ((Below.refl _ _).alloc hB o)
theorem Row.none {B n : Nat} {xs : List It} (h : Row w B none n xs) : n = 0 := by
  rcases Nat.eq_zero_or_pos n with h0 | h0
  · exact h0
  · obtain ⟨b, o, e, _⟩ := h.2 h0; cases e
end
/-- A new slice of n things, that read as a list of which P is true. -/
def RetS (base n : Nat) (P : List It → Prop) (w : World) (e : Ending) (w' : World) : Prop := ∃ A c l, e = .returned (.slice A n c) ∧ P l ∧ Own w' base A n c l ∧ Below base w w'
/-- .. and no error. -/
def RetSE (base n : Nat) (P : List It → Prop) (w : World) (e : Ending) (w' : World) : Prop := ∃ A c l, e = .returned (.tuple #[.slice A n c, .int .i64 0]) ∧ P l ∧ Own w' base A n c l ∧ Below base w w'

set_option maxHeartbeats 400000 in
theorem clone_any (A : Option Addr) (n c B : Nat) (xs : List It) (w : World) (ha : Row w B A n xs) (hB : B ≤ w.heap.size) (hn : n ≤ 100000) :
    Calls Try.prog 48 #[.slice A n c] w (RetS w.heap.size n (· = xs) w) := by
  have HA := hid ha
  have q25 : ∀ (w : World) (a : Option Addr) (n c : Nat), (binOp .eql 22 (.slice a n c) (.slice none 0 0)).run Try.prog w = .ok (.bool a.isNone) w := fun w a n c => by
    simp only [binOp]
    simp [run_equal_slice_nil w 22 36 a n c Try.underlying22]
  clear ha
  cases A with
  | none =>
    obtain rfl := HA.out.none
    go_enter Try.func48, Try.ntmps48
    go_wp2
    go_ret
    have : xs = [] := List.eq_nil_of_length_eq_zero HA.out.1
    exact ⟨none, 0, [], rfl, this.symm, Own.nil _ _, Below.refl _ _⟩
  | some a =>
    go_enter Try.func48, Try.ntmps48
    go_wp2_with (at_builtin; refine wpList_ap rfl (.tmp 5) (.tmp 6) rfl (base := w.heap.size) (l := []) rfl (World.ownsRow_lit w #[] 0 (Nat.le_refl _) (by decide) rfl) rfl (HA.out.alloc hB _) (by omega) (by simp) ?_; intro A1 c1 w1 own1 bel1)
    rw [Nat.zero_add] at own1
    go_ret
    exact ⟨A1, c1, xs, rfl, rfl, own1, ((Below.refl _ _).alloc (Nat.le_refl _) _).trans bel1⟩
theorem HpF.start {l : List It} {n : Nat} (hl : l.length = n) : HpF (n / 2) l := fun i h1 h2 h3 => by unfold par at h3; omega
theorem HpF.step {l m : List It} {n k : Nat} (hl : l.length = n) (hk : k < n) (h : HpF (k + 1) l) (hs : Sink l k m) : HpF k m ∧ m.Perm l := by
  refine hs.heap (by omega) (Nat.le_refl _) (fun i i1 i2 i3 i4 => h i i1 i2 (by omega)) (fun i i1 i2 i3 i4 i5 => ?_)
  unfold par at i5; omega

def BuildRel (w : World) (A : Option Addr) (n c : Nat) (xs : List It) (t : Value) (wr : World) : Prop :=
  ∃ (k : Nat) (l : List It), t = .int .i64 ((k : Int) - 1) ∧ k ≤ n / 2 ∧ HpF k l ∧ l.Perm xs ∧ Own wr w.heap.size A n c l ∧ Below w.heap.size w wr
set_option maxHeartbeats 1000000 in
theorem range_keep {w w' : World} {b o : Nat} {cs : List Value} (h : w.rangeAt b o cs) {B : Nat} (hb : b < B) (hk : Below B w w') : w'.rangeAt b o cs := fun j v hv => (hk.cell (p := ⟨b, o + j, none⟩) hb).trans (h j v hv)
/-- A new block that holds a thing. -/
theorem range_new (w : World) (x : It) (t : TypeId) : (w.alloc (.cells (enc x).toArray t)).rangeAt w.heap.size 0 (enc x) := fun j v hv => by
  rw [cell_of_row (w.alloc (.cells (enc x).toArray t)) w.heap.size (0 + j) (enc x).toArray t (0, 0) (heap_alloc_new w _)]
  simpa using hv
theorem push_plain {xs : List It} {n : Nat} {x : It} (h : xs.length = n) : (xs.take n ++ (List.replicate (n + 1) zr).drop n).set n x = xs ++ [x] := by
  rw [List.take_of_length_le (by omega), List.drop_replicate, show n + 1 - n = 1 by omega, List.set_append_right _ _ (by omega), h, Nat.sub_self]
  rfl
set_option maxHeartbeats 1000000 in
theorem push_ok (A : Option Addr) (n c B : Nat) (xs : List It) (x : It) (w : World) (ha : Row w B A n xs) (hB : B ≤ w.heap.size) (hn : n < 4096) (hh : Hp xs) :
    Calls Try.prog 33 #[.slice A n c, itv x] w (RetSE w.heap.size (n + 1) (fun l => Hp l ∧ l.Perm (x :: xs)) w) := by
  have HA := hid ha
  have HL := hid ha.1
  have HH := hid hh
  have hc := (chk_iff xs).2 hh
  have HC := hid hc
  clear ha hh hc
  have hd : ((n : Int) == 4096) = false := by simp; omega
  have i1 : (n : Int) < (n : Int) + 1 := by omega
  obtain ⟨x1, x2, x3, x4, x5, x6⟩ := x
  have R0 := hid (range_new w (x1, x2, x3, x4, x5, x6) 36)
  have B0 : Hid (Below w.heap.size w (w.alloc (.cells (enc (x1, x2, x3, x4, x5, x6)).toArray 36))) := hid ((Below.refl _ _).alloc (Nat.le_refl _) _)
  have S0 : Hid (w.heap.size < (w.alloc (.cells (enc (x1, x2, x3, x4, x5, x6)).toArray 36)).heap.size) := hid (by simp)
  have P0 := hid (push_plain (x := (x1, x2, x3, x4, x5, x6)) HL.out)
  show Calls Try.prog 33 #[.slice A n c, .agg #[.int .i64 x1, .int .i64 x2, .int .u64 x3, .int .i64 x4, .int .i64 x5, .int .u64 x6]] w _
  change Hid ((w.alloc (.cells #[.int .i64 x1, .int .i64 x2, .int .u64 x3, .int .i64 x4, .int .i64 x5, .int .u64 x6] 36)).rangeAt w.heap.size 0 _) at R0
  change Hid (Below w.heap.size w (w.alloc (.cells #[.int .i64 x1, .int .i64 x2, .int .u64 x3, .int .i64 x4, .int .i64 x5, .int .u64 x6] 36))) at B0
  change Hid (w.heap.size < (w.alloc (.cells #[.int .i64 x1, .int .i64 x2, .int .u64 x3, .int .i64 x4, .int .i64 x5, .int .u64 x6] 36)).heap.size) at S0
  go_enter Try.func33, Try.ntmps33
  go_wp2_with fail
  generalize w.alloc (.cells #[.int .i64 x1, .int .i64 x2, .int .u64 x3, .int .i64 x4, .int .i64 x5, .int .u64 x6] 36) = W at *
  refine (check_any A n c B xs W (HA.out.below (B0.out.mono hB)) (Nat.le_trans hB B0.out.size) (by omega)).mono ?_
  rintro e w1 ⟨rfl, bel1⟩
  rw [HC.out]
  have R1 : Hid (w1.rangeAt w.heap.size 0 (enc (x1, x2, x3, x4, x5, x6))) := hid (range_keep R0.out S0.out bel1)
  have B1 : Hid (Below w.heap.size w w1) := hid (B0.out.trans (bel1.mono B0.out.size))
  have S1 : Hid (w.heap.size < w1.heap.size) := hid (Nat.lt_of_lt_of_le S0.out bel1.size)
  clear bel1 R0 B0 S0
  go_wp2_with (first
    | (refine wpList_mk rfl (.tmp 15) (.tmp 15) rfl _ (n + 1) rfl rfl (by omega) (by omega) w1.heap.size (Nat.le_refl _) ?_; intro w2 own2 bel2)
    | (refine wpList_cp rfl (.tmp 17) (.tmp 18) rfl rfl rfl own2 (HA.out.below ((B1.out.trans (bel2.mono B1.out.size)).mono hB)) n (by omega) ?_; intro w3 own3 bel3)
    | (refine wpList_ld rfl (.tmp 3) rfl rfl (range_keep (range_keep R1.out S1.out bel2) S1.out bel3) ?_)
    | (refine wpList_st rfl (.tmp 24) (.tmp 23) rfl rfl rfl own3 (by omega) ?_; intro w4 own4 bel4; rw [P0.out] at own4)
    | (go_at_call 49; refine (rise_any w1.heap.size w1.heap.size (n + 1) (n + 1) n _ w4 own4 (by omega) (by omega) (Nat.le_trans bel2.size (Nat.le_trans bel3.size bel4.size))).mono ?_; rintro e w5 ⟨rfl, m, hr, own5, bel5⟩))
  go_ret2
  obtain ⟨h1, h2⟩ := push_heap HH.out (by rw [HL.out]; exact hr)
  exact ⟨_, n + 1, m, rfl, ⟨h1, h2⟩, own5.base_le B1.out.size, B1.out.trans ((bel2.trans (bel3.trans (bel4.trans bel5))).mono B1.out.size)⟩
set_option maxHeartbeats 1000000 in
theorem push_full (A : Option Addr) (c B : Nat) (xs : List It) (x : It) (w : World) (ha : Row w B A 4096 xs) (hB : B ≤ w.heap.size) (hh : chk xs = true) :
    Calls Try.prog 33 #[.slice A 4096 c, itv x] w fun e w' => e = .returned (.tuple #[.slice none 0 0, .int .i64 7]) ∧ Below w.heap.size w w' := by
  have HA := hid ha
  have HC := hid hh
  clear ha hh
  obtain ⟨x1, x2, x3, x4, x5, x6⟩ := x
  show Calls Try.prog 33 #[.slice A 4096 c, .agg #[.int .i64 x1, .int .i64 x2, .int .u64 x3, .int .i64 x4, .int .i64 x5, .int .u64 x6]] w _
  have B0 : Hid (Below w.heap.size w (w.alloc (.cells #[.int .i64 x1, .int .i64 x2, .int .u64 x3, .int .i64 x4, .int .i64 x5, .int .u64 x6] 36))) := hid ((Below.refl _ _).alloc (Nat.le_refl _) _)
  go_enter Try.func33, Try.ntmps33
  go_wp2_with fail
  generalize w.alloc (.cells #[.int .i64 x1, .int .i64 x2, .int .u64 x3, .int .i64 x4, .int .i64 x5, .int .u64 x6] 36) = W at *
  refine (check_any A 4096 c B xs W (HA.out.below (B0.out.mono hB)) (Nat.le_trans hB B0.out.size) (by omega)).mono ?_
  rintro e w1 ⟨rfl, bel1⟩
  rw [HC.out]
  have B1 : Hid (Below w.heap.size w w1) := hid (B0.out.trans (bel1.mono B0.out.size))
  clear bel1 B0
  go_wp2
  go_ret2
  exact ⟨rfl, B1.out⟩
theorem check_big (A : Option Addr) (n c : Nat) (w : World) (hn : 4096 < n) (hn2 : n ≤ 9223372036854775807) :
    Calls Try.prog 43 #[.slice A n c] w fun e w' => e = .returned (.bool false) ∧ Below w.heap.size w w' := by
  have hd : decide (4096 < (n : Int)) = true := decide_eq_true (by omega)
  have hd' : decide (4096 < n) = true := decide_eq_true (by omega)
  go_enter Try.func43, Try.ntmps43
  go_wp2
  go_ret
  exact ⟨rfl, Below.refl _ _⟩
theorem check_no (A : Option Addr) (n c B : Nat) (xs : List It) (w : World) (ha : Row w B A n xs) (hB : B ≤ w.heap.size) (hn2 : n ≤ 9223372036854775807) (hh : 4096 < n ∨ chk xs = false) :
    Calls Try.prog 43 #[.slice A n c] w fun e w' => e = .returned (.bool false) ∧ Below w.heap.size w w' := by
  by_cases h : 4096 < n
  · exact check_big A n c w h hn2
  · have := check_any A n c B xs w ha hB (by omega)
    rw [hh.resolve_left h] at this
    exact this
set_option maxHeartbeats 1000000 in
theorem push_no (A : Option Addr) (n c B : Nat) (xs : List It) (x : It) (w : World) (ha : Row w B A n xs) (hB : B ≤ w.heap.size) (hn2 : n ≤ 9223372036854775807) (hh : 4096 < n ∨ chk xs = false) :
    Calls Try.prog 33 #[.slice A n c, itv x] w fun e w' => e = .returned (.tuple #[.slice none 0 0, .int .i64 1]) ∧ Below w.heap.size w w' := by
  have HA := hid ha
  have HC := hid hh
  clear ha hh
  obtain ⟨x1, x2, x3, x4, x5, x6⟩ := x
  show Calls Try.prog 33 #[.slice A n c, .agg #[.int .i64 x1, .int .i64 x2, .int .u64 x3, .int .i64 x4, .int .i64 x5, .int .u64 x6]] w _
  have B0 : Hid (Below w.heap.size w (w.alloc (.cells #[.int .i64 x1, .int .i64 x2, .int .u64 x3, .int .i64 x4, .int .i64 x5, .int .u64 x6] 36))) := hid ((Below.refl _ _).alloc (Nat.le_refl _) _)
  go_enter Try.func33, Try.ntmps33
  go_wp2_with fail
  generalize w.alloc (.cells #[.int .i64 x1, .int .i64 x2, .int .u64 x3, .int .i64 x4, .int .i64 x5, .int .u64 x6] 36) = W at *
  refine (check_no A n c B xs W (HA.out.below (B0.out.mono hB)) (Nat.le_trans hB B0.out.size) hn2 HC.out).mono ?_
  rintro e w1 ⟨rfl, bel1⟩
  have B1 : Hid (Below w.heap.size w w1) := hid (B0.out.trans (bel1.mono B0.out.size))
  clear bel1 B0
  go_wp2
  go_ret2
  exact ⟨rfl, B1.out⟩
end Go.Proofs.Ytpfidohneddgkaa
