/-
  The walk of HeapDoes: at any two lists, any thing and any number it answers true.
-/
import Derived.Test.YtopdklmhiglehaaM
import Derived.Test.YtopdklmhiglehaaW
import Derived.Test.YtopdklmhiglehaaR
namespace Go.Proofs.Ytopdklmhiglehaa
open Go Go.RowKit

/-- From a world on a function tells a list of which Q is true, and an error. -/
def Says2 (w : World) (f : FuncId) (args : Array Value) (err : Int) (Q : Nat → List It → Prop) : Prop :=
  ∀ w', Below w.heap.size w w' → Calls Try.prog f args w' fun e w'' => ∃ A k c l, e = .returned (.tuple #[.slice A k c, .int .i64 err]) ∧ Row w'' w''.heap.size A k l ∧ k ≤ 5000 ∧ Q k l ∧ Below w'.heap.size w' w''
/-- .. a thing, a list and an error. -/
def Says3 (w : World) (f : FuncId) (args : Array Value) (x : It) (err : Int) (Q : Nat → List It → Prop) : Prop :=
  ∀ w', Below w.heap.size w w' → Calls Try.prog f args w' fun e w'' => ∃ A k c l, e = .returned (.tuple #[itv x, .slice A k c, .int .i64 err]) ∧ Row w'' w''.heap.size A k l ∧ k ≤ 5000 ∧ Q k l ∧ (∀ b o, A = some ⟨b, o, none⟩ → w'.heap.size ≤ b) ∧ Below w'.heap.size w' w''
/-- The answer is a heap of a sorted list's things. -/
def Heaps (lb : List It) (k : Nat) (l : List It) : Prop := (chk l && decide (k ≤ 4096) && decide (srt l = lb)) = true
theorem heaps_nil : Heaps [] 0 [] := rfl
theorem heaps_of {l lb : List It} {k : Nat} (h : Hp l) (hk : k ≤ 4096) (hs : srt l = lb) : Heaps lb k l := by
  unfold Heaps; rw [(chk_iff l).2 h, decide_eq_true hk, decide_eq_true hs]; rfl
section
variable {w : World} {A : Option Addr} {m c : Nat} {hs : List It}
/-- h may be played: it is short, or longer than a heap may be. -/
def Ok1 (m : Nat) : Prop := m ≤ 200 ∨ (4096 < m ∧ m ≤ 4200)
theorem push_both (hr : Row w w.heap.size A m hs) (hm : Ok1 m) (x : It) :
    ∃ err lb, Says2 w 23 #[.slice A m c, itv x] err (Heaps lb) ∧ Says2 w 24 #[.slice A m c, itv x] err (fun _ l => l = lb) := by
  by_cases hbad : 4096 < m ∨ chk hs = false
  · refine ⟨1, [], fun w' hb => ?_, fun w' hb => ?_⟩
    · exact (push_no A m c w.heap.size hs x w' (hr.below hb) hb.size (by unfold Ok1 at hm; omega) hbad).mono fun e w'' ⟨he, b⟩ => ⟨none, 0, 0, [], he, Row.nil _ _ _, by omega, heaps_nil, b⟩
    · exact (refpush_no A m c w.heap.size hs x w' (hr.below hb) hb.size (by unfold Ok1 at hm; omega) hbad).mono fun e w'' ⟨he, b⟩ => ⟨none, 0, 0, [], he, Row.nil _ _ _, by omega, rfl, b⟩
  · have hc : chk hs = true := by cases e : chk hs; exact absurd (.inr e) hbad; rfl
    have hm2 : m ≤ 200 := by unfold Ok1 at hm; omega
    refine ⟨0, srt (x :: hs), fun w' hb => ?_, fun w' hb => ?_⟩
    · exact (push_ok A m c w.heap.size hs x w' (hr.below hb) hb.size (by omega) ((chk_iff _).1 hc)).mono fun e w'' ⟨A', c', l, he, ⟨h1, h2⟩, own, b⟩ => ⟨A', m + 1, c', l, he, own.row, by omega, heaps_of h1 (by omega) (srt_of_perm h2), b⟩
    · exact (refpush_ok A m c w.heap.size hs x w' (hr.below hb) hb.size (by omega) hc).mono fun e w'' ⟨A', c', l, he, h1, own, b⟩ => ⟨A', m + 1, c', l, he, own.row, by omega, h1, b⟩
theorem first_srt {l : List It} (h : Hp l) (hl : 0 < l.length) : nth (srt l) 0 = nth l 0 := by
  have h1 : nth (srt l) 0 ∈ l := (srt_perm l).mem_iff.1 (nth_mem (by rw [srt_len]; exact hl))
  have h2 : nth l 0 ∈ srt l := (srt_perm l).mem_iff.2 (nth_mem hl)
  refine lt_tri (h.least h1) ?_
  obtain ⟨i, hi, e⟩ := mem_nth h2
  rw [← e]
  by_cases h0 : i = 0
  · subst h0; exact lt_irr _
  · have := List.pairwise_iff_getElem.1 (srt_srt l) 0 i (by omega) hi (by omega)
    have e0 : nth (srt l) 0 = (srt l)[0]'(by omega) := nth_of (List.getElem?_eq_getElem _)
    have ei : nth (srt l) i = (srt l)[i] := nth_of (List.getElem?_eq_getElem _)
    rw [e0, ei]; exact this
theorem srt_tail {l m : List It} {x : It} (h : l.Perm (x :: m)) (hx : nth (srt l) 0 = x) : srt m = (srt l).tail := by
  have hl : 0 < (srt l).length := by rw [srt_len, h.length_eq]; simp
  have e : srt l = x :: (srt l).tail := by
    cases q : srt l with
    | nil => rw [q] at hl; simp at hl
    | cons y t => rw [q] at hx; simp [nth] at hx; subst hx; rfl
  refine srt_uniq (srt_srt m) ?_ ?_
  · have := srt_srt l; rw [e] at this; exact (List.pairwise_cons.1 this).2
  · refine (srt_perm m).trans ?_
    have := ((srt_perm l).trans h)
    rw [e] at this
    exact this.cons_inv.symm
theorem pop_both (hr : Row w w.heap.size A m hs) (hm : Ok1 m) :
    ∃ x err lb, Says3 w 25 #[.slice A m c] x err (Heaps lb) ∧ Says3 w 26 #[.slice A m c] x err (fun _ l => l = lb) := by
  by_cases hbad : 4096 < m ∨ chk hs = false
  · refine ⟨zr, 1, [], fun w' hb => ?_, fun w' hb => ?_⟩
    · exact (pop_no A m c w.heap.size hs w' (hr.below hb) hb.size (by unfold Ok1 at hm; omega) hbad).mono fun e w'' ⟨he, b⟩ => ⟨none, 0, 0, [], he, Row.nil _ _ _, by omega, heaps_nil, (fun _ _ h => by cases h), b⟩
    · exact (refpop_no A m c w.heap.size hs w' (hr.below hb) hb.size (by unfold Ok1 at hm; omega) hbad).mono fun e w'' ⟨he, b⟩ => ⟨none, 0, 0, [], he, Row.nil _ _ _, by omega, rfl, (fun _ _ h => by cases h), b⟩
  · have hc : chk hs = true := by cases e : chk hs; exact absurd (.inr e) hbad; rfl
    have hh := (chk_iff _).1 hc
    have hm2 : m ≤ 200 := by unfold Ok1 at hm; omega
    by_cases h0 : m = 0
    · subst h0
      refine ⟨zr, 8, [], fun w' hb => ?_, fun w' hb => ?_⟩
      · exact (pop_none A c w').mono fun e w'' ⟨he, b⟩ => ⟨none, 0, 0, [], he, Row.nil _ _ _, by omega, heaps_nil, (fun _ _ h => by cases h), b⟩
      · exact (refpop_none A c w').mono fun e w'' ⟨he, b⟩ => ⟨none, 0, 0, [], he, Row.nil _ _ _, by omega, rfl, (fun _ _ h => by cases h), b⟩
    · obtain ⟨k, rfl⟩ : ∃ k, m = k + 1 := ⟨m - 1, by omega⟩
      have hf := first_srt hh (by rw [hr.1]; omega)
      refine ⟨nth hs 0, 0, (srt hs).tail, fun w' hb => ?_, fun w' hb => ?_⟩
      · exact (pop_ok A k c w.heap.size hs (nth hs 0) w' (hr.below hb) hb.size (by omega) hh rfl).mono fun e w'' ⟨A', c', l, he, ⟨h1, h2⟩, own, b⟩ => ⟨A', k, c', l, he, own.row, by omega, heaps_of h1 (by omega) (srt_tail h2 hf), own.new, b⟩
      · have := refpop_ok A k c w.heap.size hs w' (hr.below hb) hb.size (by omega) hc
        rw [hf] at this
        exact this.mono fun e w'' ⟨A', c', he, r, q, b⟩ => ⟨A', k, c', _, he, r, by omega, rfl, q, b⟩
theorem first_least {l : List It} {s : Int} {i : Nat} (h : First (srt l) s i) : Least l s (nth (srt l) i) := by
  refine ⟨(srt_perm l).mem_iff.1 (nth_mem h.1), h.2.1, fun y hy hs => ?_⟩
  obtain ⟨j, hj, rfl⟩ := mem_nth ((srt_perm l).mem_iff.2 hy)
  by_cases hji : j = i
  · subst hji; exact lt_irr _
  · have hij : i < j := by
      rcases Nat.lt_or_ge j i with q | q
      · exact absurd hs (h.2.2 j q)
      · omega
    have := List.pairwise_iff_getElem.1 (srt_srt l) i j h.1 hj hij
    have e0 : nth (srt l) i = (srt l)[i]'h.1 := nth_of (List.getElem?_eq_getElem _)
    have ei : nth (srt l) j = (srt l)[j] := nth_of (List.getElem?_eq_getElem _)
    rw [e0, ei]; exact this
theorem srt_without {l m : List It} {i : Nat} (hi : i < (srt l).length) (h : l.Perm (nth (srt l) i :: m)) : srt m = (srt l).take i ++ (srt l).drop (i + 1) := by
  have e : srt l = (srt l).take i ++ (nth (srt l) i :: (srt l).drop (i + 1)) := by
    conv => lhs; rw [← List.take_append_drop i (srt l)]
    rw [List.drop_eq_getElem_cons hi]
    have : nth (srt l) i = (srt l)[i] := nth_of (List.getElem?_eq_getElem hi)
    rw [this]
  refine srt_uniq (srt_srt m) ?_ ?_
  · have h1 : ((srt l).take i ++ (srt l).drop (i + 1)).Sublist (srt l) := by
      conv => rhs; rw [e]
      exact List.Sublist.append (List.Sublist.refl _) (List.sublist_cons_self _ _)
    exact (srt_srt l).sublist h1
  · refine (srt_perm m).trans ?_
    have h2 := ((srt_perm l).trans h)
    rw [e] at h2
    have h3 := (List.perm_middle (l₁ := (srt l).take i) (a := nth (srt l) i) (l₂ := (srt l).drop (i + 1))).symm.trans (by simpa [← e] using h2)
    exact h3.cons_inv.symm
theorem take_both (hr : Row w w.heap.size A m hs) (hm : Ok1 m) (s : Int) :
    ∃ x err lb, Says3 w 27 #[.slice A m c, .int .u64 s] x err (Heaps lb) ∧ Says3 w 28 #[.slice A m c, .int .u64 s] x err (fun _ l => l = lb) := by
  by_cases hbad : 4096 < m ∨ chk hs = false
  · refine ⟨zr, 1, [], fun w' hb => ?_, fun w' hb => ?_⟩
    · exact (take_no A m c w.heap.size hs s w' (hr.below hb) hb.size (by unfold Ok1 at hm; omega) hbad).mono fun e w'' ⟨he, b⟩ => ⟨none, 0, 0, [], he, Row.nil _ _ _, by omega, heaps_nil, (fun _ _ h => by cases h), b⟩
    · exact (reftake_no A m c w.heap.size hs s w' (hr.below hb) hb.size (by unfold Ok1 at hm; omega) hbad).mono fun e w'' ⟨he, b⟩ => ⟨none, 0, 0, [], he, Row.nil _ _ _, by omega, rfl, (fun _ _ h => by cases h), b⟩
  · have hc : chk hs = true := by cases e : chk hs; exact absurd (.inr e) hbad; rfl
    have hh := (chk_iff _).1 hc
    have hm2 : m ≤ 200 := by unfold Ok1 at hm; omega
    rcases first_or (srt hs) s with ⟨i, hi⟩ | hno
    · have hi2 := hi.1
      rw [srt_len, hr.1] at hi2
      obtain ⟨k, rfl⟩ : ∃ k, m = k + 1 := ⟨m - 1, by omega⟩
      refine ⟨nth (srt hs) i, 0, (srt hs).take i ++ (srt hs).drop (i + 1), fun w' hb => ?_, fun w' hb => ?_⟩
      · exact (take_ok A k c w.heap.size hs s _ w' (hr.below hb) hb.size (by omega) hh (first_least hi)).mono fun e w'' ⟨A', c', l, he, ⟨h1, h2⟩, own, b⟩ => ⟨A', k, c', l, he, own.row, by omega, heaps_of h1 (by omega) (srt_without hi.1 h2), own.new, b⟩
      · exact (reftake_ok A k c w.heap.size i hs s w' (hr.below hb) hb.size (by omega) hc hi).mono fun e w'' ⟨A', c', he, r, q, b⟩ => ⟨A', k, c', _, he, r, by omega, rfl, q, b⟩
    · have hno2 : NoSq hs s := fun j hj e => by
        obtain ⟨q, hq, eq⟩ := mem_nth ((srt_perm hs).mem_iff.2 (nth_mem hj))
        exact hno q hq (by rw [eq]; exact e)
      refine ⟨zr, 8, [], fun w' hb => ?_, fun w' hb => ?_⟩
      · exact (take_none A m c w.heap.size hs s w' (hr.below hb) hb.size (by omega) hc hno2).mono fun e w'' ⟨he, b⟩ => ⟨none, 0, 0, [], he, Row.nil _ _ _, by omega, heaps_nil, (fun _ _ h => by cases h), b⟩
      · exact (reftake_none A m c w.heap.size hs s w' (hr.below hb) hb.size (by omega) hc hno).mono fun e w'' ⟨he, b⟩ => ⟨none, 0, 0, [], he, Row.nil _ _ _, by omega, rfl, (fun _ _ h => by cases h), b⟩
end

/-- What stays through the walk: the boxed thing, the copy of h. -/
def Sta (w : World) (x : It) (Aw : Option Addr) (m : Nat) (hs : List It) (B : Nat) (wx : World) : Prop := Below w.heap.size w wx ∧ w.heap.size < wx.heap.size ∧ wx.rangeAt w.heap.size 0 (enc x) ∧ Row wx B Aw m hs ∧ B ≤ wx.heap.size
theorem Sta.step {w wx wy : World} {x : It} {Aw : Option Addr} {m B : Nat} {hs : List It} (h : Sta w x Aw m hs B wx) (k : Below wx.heap.size wx wy) : Sta w x Aw m hs B wy :=
  ⟨h.1.trans (k.mono h.1.size), Nat.lt_of_lt_of_le h.2.1 k.size, range_keep h.2.2.1 h.2.1 k, h.2.2.2.1.below (k.mono h.2.2.2.2), Nat.le_trans h.2.2.2.2 k.size⟩
theorem Below.tr {a b c : World} (h : Below a.heap.size a b) (k : Below b.heap.size b c) : Below a.heap.size a c := h.trans (k.mono h.size)
/-- A thing stored into a variable, which can be stored into again. -/
theorem wpList_svt {w : World} {ops : Array Oper} {rest : List Oper} {op : Oper} {a : Act} {Q : Exit → Act → World → Prop} (hgd : op.guard = none) (x y : Operand) (ho : op.op = .store 24 x y) {g : Nat} {v : It} (hx : a.eval x = .pointer (some ⟨g, 0, none⟩))
    (hy : a.eval y = itv v) (ht : w.there g 0 6) (h : ∀ w', w'.rangeAt g 0 (enc v) → w'.there g 0 6 → Below g w w' → (∀ k, k ≠ g → w'.heap[k]? = w.heap[k]?) → wpList Try.prog ops Q rest (a.put op.dst undef) w') : wpList Try.prog ops Q (op :: rest) a w := by
  obtain ⟨h1, h2, h3⟩ := stored_var ht v
  exact wpList_store_mid hgd 24 x y ho g 0 (enc v).toArray hx hy ht (by rw [size24]; rfl) (all_oneCell_toArray (enc_one v)) (h _ h1 (World.there_setCells ht g 0 (enc v)) h2 h3)
theorem Row.other {w w' : World} {B n g : Nat} {A : Option Addr} {xs : List It} (h : Row w B A n xs) (hA : ∀ b o, A = some ⟨b, o, Option.none⟩ → b ≠ g) (ho : ∀ k, k ≠ g → w'.heap[k]? = w.heap[k]?) : Row w' B A n xs := by
  refine ⟨h.1, fun hn => ?_⟩
  obtain ⟨b, o, e, hb, hc⟩ := h.2 hn
  exact ⟨b, o, e, hb, fun j u hu => (World.cell?_of_block (a := ⟨b, o + j, Option.none⟩) (ho b (hA b o e))).trans (hc j u hu)⟩
theorem there_other {w w' : World} {b o n g : Nat} (h : w.there b o n) (hb : b ≠ g) (ho : ∀ k, k ≠ g → w'.heap[k]? = w.heap[k]?) : w'.there b o n := fun j hj =>
  ⟨by rw [World.cell?_of_block (a := ⟨b, o + j, none⟩) (ho b hb)]; exact (h j hj).1, by rw [World.frozen?_of_block (a := ⟨b, o + j, none⟩) (ho b hb)]; exact (h j hj).2⟩
theorem lt_rng {w : World} {b o : Nat} {x : It} (h : w.rangeAt b o (enc x)) : b < w.heap.size := World.block_lt_of_cell? w ⟨b, o + 0, none⟩ (h 0 _ rfl)
theorem wpList_ldg {w : World} {ops : Array Oper} {rest : List Oper} {op : Oper} {a : Act} {Q : Exit → Act → World → Prop} (hgd : Region.wanted op (yielded ops a.tmps) = true) (x : Operand) (ho : op.op = .load 24 x) {b o : Nat} {v : It} (hx : a.eval x = .pointer (some ⟨b, o, none⟩))
    (hr : w.rangeAt b o (enc v)) (h : wpList Try.prog ops Q rest (a.put op.dst (itv v)) w) : wpList Try.prog ops Q (op :: rest) a w :=
  wpList_step fun _ hK => by rw [if_pos hgd]; exact wp_load_mid 24 x ho b o hx (enc v) _ hr Try.underlying24 rfl (by rw [size24]; rfl) (hK _ _ h)
theorem range_other {w w' : World} {b o g : Nat} {cs : List Value} (h : w.rangeAt b o cs) (hb : b ≠ g) (ho : ∀ k, k ≠ g → w'.heap[k]? = w.heap[k]?) : w'.rangeAt b o cs := fun j v hv => (World.cell?_of_block (a := ⟨b, o + j, none⟩) (ho b hb)).trans (h j v hv)
theorem two_new (w : World) (u v : Value) : (w.alloc (.cells #[u, v] 25)).cell? ⟨w.heap.size, 0, none⟩ = some u ∧ (w.alloc (.cells #[u, v] 25)).cell? ⟨w.heap.size, 1, none⟩ = some v := by
  rw [cell_of_row _ _ _ #[u, v] 25 (0, 0) (heap_alloc_new w _), cell_of_row _ _ _ #[u, v] 25 (0, 0) (heap_alloc_new w _)]
  exact ⟨rfl, rfl⟩
set_option maxRecDepth 100000 in
set_option maxHeartbeats 8000000 in
theorem does_any (A D : Option Addr) (n c m d : Nat) (ls hs : List It) (x : It) (s : Int) (w : World) (hl : Row w w.heap.size A n ls) (hn63 : n ≤ 9223372036854775807) (hh : Row w w.heap.size D m hs) (hm63 : m ≤ 9223372036854775807) :
    Calls Try.prog 4 #[.slice A n c, .slice D m d, itv x, .int .u64 s] w fun e w' => e = .returned (.bool true) ∧ Below w.heap.size w w' := by
  have HL := hid hl
  have HH := hid hh
  clear hl hh
  obtain ⟨x1, x2, x3, x4, x5, x6⟩ := x
  have R0 := hid (range_new w (x1, x2, x3, x4, x5, x6) 24)
  have B0 : Hid (Below w.heap.size w (w.alloc (.cells (enc (x1, x2, x3, x4, x5, x6)).toArray 24))) := hid ((Below.refl _ _).alloc (Nat.le_refl _) _)
  have S0 : Hid (w.heap.size < (w.alloc (.cells (enc (x1, x2, x3, x4, x5, x6)).toArray 24)).heap.size) := hid (by simp)
  show Calls Try.prog 4 #[.slice A n c, .slice D m d, .agg #[.int .i64 x1, .int .i64 x2, .int .u64 x3, .int .i64 x4, .int .i64 x5, .int .u64 x6], .int .u64 s] w _
  go_enter Try.func4, Try.ntmps4
  go_wp2_with fail
  change Calls Try.prog 10 _ (w.alloc (.cells (enc (x1, x2, x3, x4, x5, x6)).toArray 24)) _
  generalize w.alloc (.cells (enc (x1, x2, x3, x4, x5, x6)).toArray 24) = W at *
  refine (live_any W).mono ?_
  rintro e w1 ⟨rfl, bel1⟩
  have R1 : Hid (w1.rangeAt w.heap.size 0 (enc (x1, x2, x3, x4, x5, x6))) := hid (range_keep R0.out S0.out bel1)
  have B1 : Hid (Below w.heap.size w w1) := hid (B0.out.trans (bel1.mono B0.out.size))
  have S1 : Hid (w.heap.size < w1.heap.size) := hid (Nat.lt_of_lt_of_le S0.out bel1.size)
  clear bel1 R0 B0 S0
  obtain ⟨W2, hW2⟩ : ∃ W2, W2 = w1.alloc (.cells #[.slice A n c, .slice D m d] 25) := ⟨_, rfl⟩
  have CE := two_new w1 (.slice A n c) (.slice D m d)
  rw [← hW2] at CE
  have BE : Hid (Below w1.heap.size w1 W2) := hid (by rw [hW2]; exact (Below.refl _ _).alloc (Nat.le_refl _) _)
  have HW2 := hid hW2
  clear hW2
  by_cases hf : (fewB n && fewB m) = true ∧ ¬(200 < n ∧ n ≤ 4096) ∧ ¬(200 < m ∧ m ≤ 4096)
  · obtain ⟨hf1, hf2, hf3⟩ := hf
    have hok : Ok1 n ∧ Ok1 m := by
      unfold fewB at hf1; simp at hf1; unfold Ok1; omega
    have HF1 := hid hf1
    have HOK := hid hok
    have hn42 : n ≤ 4200 := by have := hok.1; unfold Ok1 at this; omega
    have hm42 : m ≤ 4200 := by have := hok.2; unfold Ok1 at this; omega
    clear hf1 hok
    go_upto_region 2 with fail
    go_cut [42] (fun t wx => t = .bool false ∧ Below w1.heap.size w1 wx)
    case first =>
      rcases (show n ≤ 200 ∨ 4096 < n by omega) with hn | hn <;> rcases (show m ≤ 200 ∨ 4096 < m by omega) with hm | hm
      · have tna : decide (200 < n) = false := decide_eq_false (by omega)
        have una : decide (200 < (n : Int)) = false := decide_eq_false (by omega)
        have tnb : decide (n ≤ 4096) = true := decide_eq_true (by omega)
        have unb : decide ((n : Int) ≤ 4096) = true := decide_eq_true (by omega)
        have tma : decide (200 < m) = false := decide_eq_false (by omega)
        have uma : decide (200 < (m : Int)) = false := decide_eq_false (by omega)
        have tmb : decide (m ≤ 4096) = true := decide_eq_true (by omega)
        have umb : decide ((m : Int) ≤ 4096) = true := decide_eq_true (by omega)
        clear hf2 hf3 hn hm
        go_wp2_with (go_at_call 11; rw [← HW2.out]; refine (few_2 w1.heap.size n c m d A D W2 hn63 hm63 CE.1 CE.2 true HF1.out).mono ?_; rintro e w2 ⟨rfl, rfl⟩)
        go_meet
        exact ⟨rfl, BE.out⟩
      · have tna : decide (200 < n) = false := decide_eq_false (by omega)
        have una : decide (200 < (n : Int)) = false := decide_eq_false (by omega)
        have tnb : decide (n ≤ 4096) = true := decide_eq_true (by omega)
        have unb : decide ((n : Int) ≤ 4096) = true := decide_eq_true (by omega)
        have tma : decide (200 < m) = true := decide_eq_true (by omega)
        have uma : decide (200 < (m : Int)) = true := decide_eq_true (by omega)
        have tmb : decide (m ≤ 4096) = false := decide_eq_false (by omega)
        have umb : decide ((m : Int) ≤ 4096) = false := decide_eq_false (by omega)
        clear hf2 hf3 hn hm
        go_wp2_with (go_at_call 11; rw [← HW2.out]; refine (few_2 w1.heap.size n c m d A D W2 hn63 hm63 CE.1 CE.2 true HF1.out).mono ?_; rintro e w2 ⟨rfl, rfl⟩)
        go_meet
        exact ⟨rfl, BE.out⟩
      · have tna : decide (200 < n) = true := decide_eq_true (by omega)
        have una : decide (200 < (n : Int)) = true := decide_eq_true (by omega)
        have tnb : decide (n ≤ 4096) = false := decide_eq_false (by omega)
        have unb : decide ((n : Int) ≤ 4096) = false := decide_eq_false (by omega)
        have tma : decide (200 < m) = false := decide_eq_false (by omega)
        have uma : decide (200 < (m : Int)) = false := decide_eq_false (by omega)
        have tmb : decide (m ≤ 4096) = true := decide_eq_true (by omega)
        have umb : decide ((m : Int) ≤ 4096) = true := decide_eq_true (by omega)
        clear hf2 hf3 hn hm
        go_wp2_with (go_at_call 11; rw [← HW2.out]; refine (few_2 w1.heap.size n c m d A D W2 hn63 hm63 CE.1 CE.2 true HF1.out).mono ?_; rintro e w2 ⟨rfl, rfl⟩)
        go_meet
        exact ⟨rfl, BE.out⟩
      · have tna : decide (200 < n) = true := decide_eq_true (by omega)
        have una : decide (200 < (n : Int)) = true := decide_eq_true (by omega)
        have tnb : decide (n ≤ 4096) = false := decide_eq_false (by omega)
        have unb : decide ((n : Int) ≤ 4096) = false := decide_eq_false (by omega)
        have tma : decide (200 < m) = true := decide_eq_true (by omega)
        have uma : decide (200 < (m : Int)) = true := decide_eq_true (by omega)
        have tmb : decide (m ≤ 4096) = false := decide_eq_false (by omega)
        have umb : decide ((m : Int) ≤ 4096) = false := decide_eq_false (by omega)
        clear hf2 hf3 hn hm
        go_wp2_with (go_at_call 11; rw [← HW2.out]; refine (few_2 w1.heap.size n c m d A D W2 hn63 hm63 CE.1 CE.2 true HF1.out).mono ?_; rintro e w2 ⟨rfl, rfl⟩)
        go_meet
        exact ⟨rfl, BE.out⟩
    case rest =>
      obtain ⟨rfl, bel2⟩ := hcut
      have SW : Hid (Below w.heap.size w wc) := hid (B1.out.trans (bel2.mono B1.out.size))
      have HHc : Hid (Row wc w.heap.size D m hs) := hid (HH.out.below SW.out)
      have P0 : Hid (w.heap.size < wc.heap.size ∧ wc.rangeAt w.heap.size 0 (enc (x1, x2, x3, x4, x5, x6))) := hid ⟨Nat.lt_of_lt_of_le S1.out bel2.size, range_keep R1.out S1.out bel2⟩
      clear bel2 R1 S1 B1 BE CE HW2 hf2 hf3
      go_upto_region 5 with (at_builtin; refine wpList_ap rfl (.const (.slice none 0 0)) (.tmp 44) rfl (base := wc.heap.size) (l := []) rfl (Own.nil _ _) rfl HHc.out (by omega) (Nat.le_refl _) ?_; intro A3 c3 w3 own3 bel3; rw [Nat.zero_add, List.nil_append] at own3)
      have ST : Hid (Sta w (x1, x2, x3, x4, x5, x6) A3 m hs w3.heap.size w3) := hid ⟨SW.out.trans (bel3.mono SW.out.size), Nat.lt_of_lt_of_le P0.out.1 bel3.size, range_keep P0.out.2 P0.out.1 bel3, own3.row, Nat.le_refl _⟩
      clear own3 bel3 P0 SW HHc
      have HOK1 : Ok1 n := HOK.out.1
      have BS : ∃ err, Calls Try.prog 21 #[.slice A n c] w3 fun e w' => ∃ A4 k4 c4 l4, e = .returned (.tuple #[.slice A4 k4 c4, .int .i64 err]) ∧ Row w' w'.heap.size A4 k4 l4 ∧ k4 ≤ 5000 ∧ Below w3.heap.size w3 w' ∧ ((n ≤ 200 ∧ err = 0 ∧ Heaps (srt ls) k4 l4) ∨ (4096 < n ∧ err = 7 ∧ k4 = 0)) := by
        by_cases h2 : n ≤ 200
        · exact ⟨0, (build_any A n c w.heap.size ls w3 (HL.out.below ST.out.1) ST.out.1.size (by omega)).mono fun e w' ⟨A4, c4, l4, he, ⟨h3, h4⟩, own, b⟩ => ⟨A4, n, c4, l4, he, own.row, by omega, b, .inl ⟨h2, rfl, heaps_of h3 (by omega) (srt_of_perm h4)⟩⟩⟩
        · have h5 : 4096 < n := by unfold Ok1 at HOK1; omega
          exact ⟨7, (build_big A n c w3 h5 hn63).mono fun e w' ⟨he, hw⟩ => ⟨none, 0, 0, [], he, Row.nil _ _ _, by omega, by subst hw; exact Below.refl _ _, .inr ⟨h5, rfl, rfl⟩⟩⟩
      obtain ⟨err, BS⟩ := BS
      have HBS := hid BS
      clear BS HOK1
      go_upto_if 53 with (go_at_call 21; refine HBS.out.mono ?_; rintro e w4 ⟨A4, k4, c4, l4, rfl, row4, hk4, bel4, hor4⟩)
      have ST4 : Hid (Sta w (x1, x2, x3, x4, x5, x6) A3 m hs w3.heap.size w4) := hid (ST.out.step bel4)
      have RO4 := hid row4
      have HO4 := hid hor4
      have BW4 := hid bel4
      have LI : Hid (Row w4 w.heap.size A n ls) := hid (HL.out.below ST4.out.1)
      clear row4 hor4 bel4 HBS
      go_cut [] (fun wx => Below w4.heap.size w4 wx)
      case first =>
        rcases HO4.out with ⟨h2, rfl, hq⟩ | ⟨h2, rfl, rfl⟩
        · have HQ := hid hq
          have ta : decide (4096 < n) = false := decide_eq_false (by omega)
          have tb : decide (4096 < (n : Int)) = false := decide_eq_false (by omega)
          clear hq HO4
          go_wp2_with (first
            | (go_at_call 20; refine (refsorted_any A n c w.heap.size ls w4 LI.out ST4.out.1.size (by omega)).mono ?_; rintro e w5 ⟨A5, c5, l5, rfl, hl5, own5, bel5⟩)
            | (go_at_call 22; refine (is_any A4 A5 k4 c4 n c5 w4.heap.size w5.heap.size l4 l5 true w5 (RO4.out.below bel5) own5.row bel5.size (Nat.le_refl _) (by omega) (by omega) (by rw [hl5]; exact HQ.out)).mono ?_; rintro e w6 ⟨rfl, bel6⟩))
          go_meet
          exact Below.tr bel5 bel6
        · have ta : decide (4096 < n) = true := decide_eq_true (by omega)
          have tb : decide (4096 < (n : Int)) = true := decide_eq_true (by omega)
          clear HO4
          go_wp2
          go_meet
          exact Below.refl _ _
      case rest =>
        have ST5 : Hid (Sta w (x1, x2, x3, x4, x5, x6) A3 m hs w3.heap.size wc) := hid (ST4.out.step hcut)
        clear hcut ST4 RO4 HO4 BW4 LI ST
        obtain ⟨e1, lb1, p1, p2⟩ := push_both (c := d) HH.out HOK.out.2 (x1, x2, x3, x4, x5, x6)
        obtain ⟨y1, e2, lb2, p3, p4⟩ := pop_both (c := d) HH.out HOK.out.2
        obtain ⟨y2, e3, lb3, p5, p6⟩ := take_both (c := d) HH.out HOK.out.2 s
        have P1 := hid p1
        have P2 := hid p2
        have P3 := hid p3
        have P4 := hid p4
        have P5 := hid p5
        have P6 := hid p6
        clear p1 p2 p3 p4 p5 p6 HOK HF1
        have q1 : ∀ w, (binOp .neq 24 (itv y1) (itv y1)).run Try.prog w = .ok (.bool false) w := fun w => by rw [neItv]; simp
        have q2 := fun p q w => guItv .neq p q y1 y1 w
        have q3 : ∀ w, (binOp .eql 24 (itv y2) (itv y2)).run Try.prog w = .ok (.bool true) w := fun w => by rw [eqItv]; simp
        have q4 := fun p q w => guItv .eql p q y2 y2 w
        go_upto_region 14 with (first
          | (refine wpList_ld rfl (.tmp 6) rfl rfl ST5.out.2.2.1 ?_)
          | (go_at_call 23; refine (P1.out wc ST5.out.1).mono ?_; rintro e w6 ⟨A6, k6, c6, l6, rfl, row6, hk6, hq6, bel6⟩; replace ST5 := hid (ST5.out.step bel6))
          | (go_at_call 24; refine (P2.out w6 ST5.out.1).mono ?_; rintro e w7 ⟨A7, k7, c7, l7, rfl, row7, hk7, hq7, bel7⟩; replace ST5 := hid (ST5.out.step bel7))
          | (go_at_call 22; refine (is_any A6 A7 k6 c6 k7 c7 w6.heap.size w7.heap.size l6 l7 true w7 (row6.below bel7) row7 bel7.size (Nat.le_refl _) (by omega) (by omega) (by rw [hq7]; exact hq6)).mono ?_; rintro e w8 ⟨rfl, bel8⟩; replace ST5 := hid (ST5.out.step bel8)))
        clear row6 row7 hq6 hq7 bel6 bel7 bel8 hk6 hk7
        have ST8 := ST5
        go_upto_region 18 with (first
          | (go_at_call 25; refine (P3.out w8 ST5.out.1).mono ?_; rintro e w10 ⟨A10, k10, c10, l10, rfl, row10, hk10, hq10, nw10, bel10⟩; clear nw10; replace ST5 := hid (ST5.out.step bel10))
          | (refine wpList_svt rfl (.tmp 15) (.tmp 94) rfl rfl rfl (there_new w10 zr) ?_; intro w11 r11 t11 bel11 oth11; clear oth11; replace bel11 := ((Below.refl w10.heap.size w10).alloc (Nat.le_refl _) _).trans bel11; replace ST5 := hid (ST5.out.step bel11))
          | (go_at_call 26; refine (P4.out w11 ST5.out.1).mono ?_; rintro e w12 ⟨A12, k12, c12, l12, rfl, row12, hk12, hq12, nw12, bel12⟩; clear nw12; replace ST5 := hid (ST5.out.step bel12))
          | (refine wpList_svt rfl (.tmp 16) (.tmp 100) rfl rfl rfl (there_new w12 zr) ?_; intro w13 r13 t13 bel13 oth13; clear oth13; replace bel13 := ((Below.refl w12.heap.size w12).alloc (Nat.le_refl _) _).trans bel13; replace ST5 := hid (ST5.out.step bel13))
          | (refine wpList_ld rfl (.tmp 15) rfl rfl (range_keep r11 (lt_rng r11) (Below.tr bel12 bel13)) ?_)
          | (refine wpList_ld rfl (.tmp 16) rfl rfl r13 ?_)
          | (go_at_call 22; refine (is_any A10 A12 k10 c10 k12 c12 w10.heap.size w12.heap.size l10 l12 true w13 (row10.below (Below.tr bel11 (Below.tr bel12 bel13))) (row12.below bel13) (Below.tr bel11 (Below.tr bel12 bel13)).size bel13.size (by omega) (by omega) (by rw [hq12]; exact hq10)).mono ?_; rintro e w14 ⟨rfl, bel14⟩; replace ST5 := hid (ST5.out.step bel14)))
        have R11 := hid (range_keep r11 (lt_rng r11) (Below.tr bel12 (Below.tr bel13 bel14)))
        have T11 := hid (there_keep t11 (lt_rng r11) (Below.tr bel12 (Below.tr bel13 bel14)))
        have T13 := hid (there_keep t13 (lt_rng r13) bel14)
        have hz1 : w3.heap.size ≤ w10.heap.size := Nat.le_trans ST8.out.2.2.2.2 bel10.size
        have hz2 : w10.heap.size < w12.heap.size := Nat.lt_of_lt_of_le (lt_rng r11) bel12.size
        have hz3 : w12.heap.size < w14.heap.size := Nat.lt_of_lt_of_le (lt_rng r13) bel14.size
        have hz0 : w.heap.size ≤ w10.heap.size := Nat.le_trans (Nat.le_of_lt ST8.out.2.1) bel10.size
        clear row10 row12 hq10 hq12 hk10 hk12 r11 r13 t11 t13 bel10 bel11 bel12 bel13 bel14 ST8 q1 q2
        generalize w10.heap.size = g1 at *
        generalize w12.heap.size = g2 at *
        go_upto_region 21 with (first
          | (go_at_call 27; refine (P5.out w14 ST5.out.1).mono ?_; rintro e w15 ⟨A15, k15, c15, l15, rfl, row15, hk15, hq15, nw15, bel15⟩; replace ST5 := hid (ST5.out.step bel15))
          | (refine wpList_svt rfl (.tmp 15) (.tmp 121) rfl rfl rfl (there_keep T11.out (by omega) bel15) ?_; intro w16 r16 t16 bel16 oth16; clear t16; have BX : Hid (Below w.heap.size w w16) := hid (ST5.out.1.trans (bel16.mono hz0)); have ROW16 : Hid (Row w16 w15.heap.size A15 k15 l15) := hid (row15.other (fun b o e => by have := nw15 b o e; omega) oth16); have T16 : Hid (w16.there g2 0 6) := hid (there_other (there_keep T13.out (by omega) bel15) (by omega) oth16); have WAS : Hid (Row w16 w3.heap.size A3 m hs) := hid (ST5.out.2.2.2.1.below (bel16.mono hz1)); have hz5 : w14.heap.size ≤ w16.heap.size := Nat.le_trans bel15.size bel16.size; have hz6 : w15.heap.size ≤ w16.heap.size := bel16.size; clear oth16)
          | (go_at_call 28; refine (P6.out w16 BX.out).mono ?_; rintro e w17 ⟨A17, k17, c17, l17, rfl, row17, hk17, hq17, nw17, bel17⟩)
          | (refine wpList_svt rfl (.tmp 16) (.tmp 128) rfl rfl rfl (there_keep T16.out (by omega) bel17) ?_; intro w18 r18 t18 bel18 oth18; clear t18))
        have ROW18 : Hid (Row w18 w15.heap.size A15 k15 l15) := hid ((ROW16.out.below (bel17.mono hz6)).other (fun b o e => by have := nw15 b o e; omega) oth18)
        have ROW19 : Hid (Row w18 w17.heap.size A17 k17 l17) := hid (row17.other (fun b o e => by have := nw17 b o e; omega) oth18)
        have R18 : Hid (w18.rangeAt g1 0 (enc y2)) := hid (range_other (range_keep r16 (by omega) bel17) (by omega) oth18)
        have R19 := hid r18
        have BY : Hid (Below w.heap.size w w18) := hid (BX.out.trans ((bel17.mono BX.out.size).trans (bel18.mono (by omega))))
        have WAS2 : Hid (Row w18 w3.heap.size A3 m hs) := hid ((WAS.out.below (bel17.mono (by omega))).below (bel18.mono (by omega)))
        have hy1 : w15.heap.size ≤ w18.heap.size := Nat.le_trans hz6 (Nat.le_trans bel17.size bel18.size)
        have hy2 : w17.heap.size ≤ w18.heap.size := bel18.size
        have hy3 : w3.heap.size ≤ w18.heap.size := by have := bel17.size; omega
        have HQ := hid hq15
        have HE : Hid (l17 = lb3) := hid hq17
        clear row15 row17 nw15 nw17 bel15 bel16 bel17 bel18 oth18 r16 r18 hq15 hq17 ROW16 T16 WAS BX ST5 T11 T13 R11 P1 P2 P3 P4 P5 P6
        go_wp2_with (first
          | (go_at_call 22; refine (is_any A15 A17 k15 c15 k17 c17 w15.heap.size w17.heap.size l15 l17 true w18 ROW18.out ROW19.out hy1 hy2 (by omega) (by omega) (by rw [HE.out]; exact HQ.out)).mono ?_; rintro e w19 ⟨rfl, bel19⟩)
          | (go_at_call 19; refine (same_any D A3 m d m c3 w.heap.size w3.heap.size hs hs true w19 (HH.out.below (BY.out.trans (bel19.mono BY.out.size))) (WAS2.out.below (bel19.mono hy3)) (Nat.le_trans BY.out.size bel19.size) (Nat.le_trans hy3 bel19.size) (by omega) (by omega) (decide_eq_true rfl)).mono ?_; rintro e w20 ⟨rfl, bel20⟩)
          | (refine wpList_ldg rfl (.tmp 15) rfl rfl R18.out ?_)
          | (refine wpList_ldg rfl (.tmp 16) rfl rfl R19.out ?_))
        go_ret
        exact ⟨rfl, BY.out.trans ((bel19.mono BY.out.size).trans (bel20.mono (Nat.le_trans BY.out.size bel19.size)))⟩
  · cases hr : (fewB n && fewB m)
    · have HR := hid hr
      clear hr hf
      go_wp2_with (go_at_call 11; rw [← HW2.out]; refine (few_2 w1.heap.size n c m d A D W2 hn63 hm63 CE.1 CE.2 false HR.out).mono ?_; rintro e w2 ⟨rfl, rfl⟩)
      go_ret
      exact ⟨rfl, B1.out.trans (BE.out.mono B1.out.size)⟩
    · have HR := hid hr
      rw [hr] at hf
      rcases (show (200 < n ∧ n ≤ 4096) ∨ (n ≤ 200 ∧ 200 < m ∧ m ≤ 4096) ∨ (4096 < n ∧ 200 < m ∧ m ≤ 4096) by
        by_cases h1 : 200 < n ∧ n ≤ 4096
        · exact .inl h1
        · by_cases h2 : 200 < m ∧ m ≤ 4096
          · omega
          · exact absurd ⟨rfl, h1, h2⟩ hf) with h | h | h
      · have tna : decide (200 < n) = true := decide_eq_true (by omega)
        have una : decide (200 < (n : Int)) = true := decide_eq_true (by omega)
        have tnb : decide (n ≤ 4096) = true := decide_eq_true (by omega)
        have unb : decide ((n : Int) ≤ 4096) = true := decide_eq_true (by omega)
        clear hr hf h
        go_wp2_with (go_at_call 11; rw [← HW2.out]; refine (few_2 w1.heap.size n c m d A D W2 hn63 hm63 CE.1 CE.2 true HR.out).mono ?_; rintro e w2 ⟨rfl, rfl⟩)
        go_ret
        exact ⟨rfl, B1.out.trans (BE.out.mono B1.out.size)⟩
      · have tna : decide (200 < n) = false := decide_eq_false (by omega)
        have una : decide (200 < (n : Int)) = false := decide_eq_false (by omega)
        have tnb : decide (n ≤ 4096) = true := decide_eq_true (by omega)
        have unb : decide ((n : Int) ≤ 4096) = true := decide_eq_true (by omega)
        have tma : decide (200 < m) = true := decide_eq_true (by omega)
        have uma : decide (200 < (m : Int)) = true := decide_eq_true (by omega)
        have tmb : decide (m ≤ 4096) = true := decide_eq_true (by omega)
        have umb : decide ((m : Int) ≤ 4096) = true := decide_eq_true (by omega)
        clear hr hf h
        go_wp2_with (go_at_call 11; rw [← HW2.out]; refine (few_2 w1.heap.size n c m d A D W2 hn63 hm63 CE.1 CE.2 true HR.out).mono ?_; rintro e w2 ⟨rfl, rfl⟩)
        go_ret
        exact ⟨rfl, B1.out.trans (BE.out.mono B1.out.size)⟩
      · have tna : decide (200 < n) = true := decide_eq_true (by omega)
        have una : decide (200 < (n : Int)) = true := decide_eq_true (by omega)
        have tnb : decide (n ≤ 4096) = false := decide_eq_false (by omega)
        have unb : decide ((n : Int) ≤ 4096) = false := decide_eq_false (by omega)
        have tma : decide (200 < m) = true := decide_eq_true (by omega)
        have uma : decide (200 < (m : Int)) = true := decide_eq_true (by omega)
        have tmb : decide (m ≤ 4096) = true := decide_eq_true (by omega)
        have umb : decide ((m : Int) ≤ 4096) = true := decide_eq_true (by omega)
        clear hr hf h
        go_wp2_with (go_at_call 11; rw [← HW2.out]; refine (few_2 w1.heap.size n c m d A D W2 hn63 hm63 CE.1 CE.2 true HR.out).mono ?_; rintro e w2 ⟨rfl, rfl⟩)
        go_ret
        exact ⟨rfl, B1.out.trans (BE.out.mono B1.out.size)⟩
theorem does_row {w : World} (A : Option Addr) (n c : Nat) (ls : List It) (hl : Row w w.heap.size A n ls) (_ : n ≤ c) (hc : c ≤ 9223372036854775807) (D : Option Addr) (m d : Nat) (hs : List It) (hh : Row w w.heap.size D m hs) (_ : m ≤ d) (hd : d ≤ 9223372036854775807) (x : It) (s : Int) (_ : 0 ≤ s) (_ : s ≤ 18446744073709551615) :
    Calls Try.prog 4 #[.slice A n c, .slice D m d, itv x, .int .u64 s] w fun e w' => e = .returned (.bool true) ∧ Below w.heap.size w w' := does_any A D n c m d ls hs x s w hl (by omega) hh (by omega)
end Go.Proofs.Ytopdklmhiglehaa
