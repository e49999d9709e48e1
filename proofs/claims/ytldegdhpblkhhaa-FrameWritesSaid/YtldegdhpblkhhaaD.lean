/-
  Contracts: the document's Same, bytes.Equal, bytes.Clone, crc's Turn and the document's. What is asked: slices that read as bytes, of at most 10 million.
-/
import Derived.Test.YtldegdhpblkhhaaC
namespace Go.Proofs.Ytldegdhpblkhhaa
open Go Go.RowKit

theorem same_any (A A2 : Option Addr) (n c m c2 B B2 : Nat) (a b : List Nat) (r : Bool) (w : World) (ha : Row w B A n (bv a)) (hb : Row w B2 A2 m (bv b)) (oa : Oct a) (ob : Oct b) (hr : decide (a = b) = r) :
    Calls Try.prog 14 #[.slice A n c, .slice A2 m c2] w fun e w' => e = .returned (.bool r) ∧ w = w' := by
  have h1 := run_str (P := Try.prog) w 26 5 Try.underlying26 Try.underlying5 B A n c a ha 9 Try.underlying9
  have h2 := run_str (P := Try.prog) w 26 5 Try.underlying26 Try.underlying5 B2 A2 m c2 b hb 9 Try.underlying9
  have HE := hid (str_eq oa ob)
  have HR := hid hr
  clear hr ha hb
  go_enter Try.func14, Try.ntmps14
  go_wp2
  go_ret
  exact ⟨ret_bool (by rw [← HR.out, ← HE.out]), rfl⟩
theorem equal_any (A A2 : Option Addr) (n c m c2 B B2 : Nat) (a b : List Nat) (r : Bool) (w : World) (ha : Row w B A n (bv a)) (hb : Row w B2 A2 m (bv b)) (oa : Oct a) (ob : Oct b) (hr : decide (a = b) = r) :
    Calls Try.prog 52 #[.slice A n c, .slice A2 m c2] w fun e w' => e = .returned (.bool r) ∧ w = w' := by
  have h1 := run_str (P := Try.prog) w 26 5 Try.underlying26 Try.underlying5 B A n c a ha 9 Try.underlying9
  have h2 := run_str (P := Try.prog) w 26 5 Try.underlying26 Try.underlying5 B2 A2 m c2 b hb 9 Try.underlying9
  have HE := hid (str_eq oa ob)
  have HR := hid hr
  clear hr ha hb
  go_enter Try.func52, Try.ntmps52
  go_wp2
  go_ret
  exact ⟨ret_bool (by rw [← HR.out, ← HE.out]), rfl⟩

/-- What is told is a new row of these cells. -/
def RetB (base : Nat) (vs : List Value) (w : World) (e : Ending) (w' : World) : Prop := ∃ A n c, e = .returned (.slice A n c) ∧ Own w' base 5 A n c vs ∧ Below base w w'
/-- A new row, and an error's number. -/
def RetE (base : Nat) (vs : List Value) (er : Nat) (w : World) (e : Ending) (w' : World) : Prop := ∃ A n c, e = .returned (.tuple #[.slice A n c, .int .i64 (er : Int)]) ∧ Own w' base 5 A n c vs ∧ Below base w w'

set_option maxHeartbeats 400000 in
theorem clone_any (A : Option Addr) (n c B : Nat) (bs : List Nat) (w : World) (ha : Row w B A n (bv bs)) (hn : n ≤ 10000000) (hB : B ≤ w.heap.size) :
    Calls Try.prog 39 #[.slice A n c] w (RetB w.heap.size (bv bs) w) := by
  have HA := hid ha
  have q22 : ∀ (w : World) (a : Option Addr) (n c : Nat), (binOp .eql 26 (.slice a n c) (.slice none 0 0)).run Try.prog w = .ok (.bool a.isNone) w := fun w a n c => by
    simp only [binOp]
    simp [run_equal_slice_nil w 26 5 a n c Try.underlying26]
  clear ha
  cases A with
  | none =>
    obtain rfl : n = 0 := by
      rcases Nat.eq_zero_or_pos n with h | h
      · exact h
      · obtain ⟨b, o, e, _⟩ := HA.out.2 h; cases e
    go_enter Try.func39, Try.ntmps39
    go_wp2
    go_ret
    have : bv bs = [] := List.eq_nil_of_length_eq_zero HA.out.1
    exact ⟨none, 0, 0, rfl, by rw [this]; exact Own.nil _ _ _, Below.refl _ _⟩
  | some a =>
    go_enter Try.func39, Try.ntmps39
    go_wp2_with (at_builtin; refine wpList_app _ rfl (.tmp 5) (.tmp 6) 26 rfl w.heap.size 5 (.int .u8 0) 1 Try.underlying26 info5 rfl _ 0 _ [] rfl (World.ownsRow_lit w #[] 0 (Nat.le_refl _) (by decide) rfl) B (some a) n c (bv bs) rfl (HA.out.alloc hB _) (bv_one bs) (by omega) (by omega) (by simp) ?_; intro A1 c1 w2 own2 bel2)
    go_ret
    exact ⟨A1, _, c1, rfl, by simpa using own2, ((Below.refl _ _).alloc (Nat.le_refl _) _).trans bel2⟩
/-- An own row that is not empty: where it lies, its cells, one of them stored anew. -/
theorem Own.at_ {w : World} {base e : Nat} {A : Option Addr} {n c : Nat} {vs : List Value} (h : Own w base e A n c vs) (hn : 0 < n) :
    ∃ g, A = some ⟨g, 0, none⟩ ∧ base ≤ g ∧ (∀ j, j < n → w.cell? ⟨g, j, none⟩ = vs[j]?) ∧ (∀ j, w.frozen? ⟨g, j, none⟩ = false) ∧ ∀ (j : Nat) (u : Value), Own (w.setCell ⟨g, j, none⟩ u) base e A n c (vs.set j u) := by
  rcases h.2 with ⟨_, h0⟩ | ⟨g, cap, cur, hv, hb, _⟩
  · omega
  · have hA : A = some ⟨g, 0, none⟩ := by injection hv
    subst hA
    exact ⟨g, rfl, hb, fun j hj => World.ownsRow.cellAt h j (by omega), fun j => World.ownsRow.frozenAt h j, fun j u => (World.ownsRow.stored h j u).1⟩
theorem bv_set (l : List Nat) (j x : Nat) : (bv l).set j (.int .u8 (x : Int)) = bv (l.set j x) := by simp [bv]
theorem bv_at (l : List Nat) (j : Nat) (h : j < l.length) : (bv l)[j]? = some (.int .u8 ((l.getD j 0 : Nat) : Int)) := by
  simp [bv, List.getElem?_eq_getElem h, List.getD]
theorem xor8 {a b c : Nat} {x y : Int} (hx : x = a) (hy : y = b) (ha : a < 256) (hb : b < 256) (hc : c = a ^^^ b) : bits .xor .u8 x y = (c : Int) := by
  subst hx hy hc; exact u8_xor_nat a b ha hb

set_option maxHeartbeats 1000000 in
theorem turn_ok (A : Option Addr) (n c B q : Nat) (bs : List Nat) (w : World) (ha : Row w B A n (bv bs)) (ho : Oct bs) (hn : n ≤ 10000000) (hB : B ≤ w.heap.size) (hq : q / 8 < n) :
    Calls Try.prog 25 #[.slice A n c, .int .i64 (q : Int)] w (RetE w.heap.size (bv (turned bs q)) 0 w) := by
  have HA := hid ha
  have hl : bs.length = n := by rw [← bv_len]; exact ha.1
  have hx8 : bs.getD (q / 8) 0 < 256 := by
    rw [List.getD_eq_getElem?_getD, List.getElem?_eq_getElem (by omega)]; exact ho _ (List.getElem_mem (by omega))
  have HX : Hid (bits .xor .u8 ((bs.getD (q / 8) 0 : Nat) : Int) (128 / 2 ^ (q % 8)) = ((bs.getD (q / 8) 0 ^^^ 128 / 2 ^ (q % 8) : Nat) : Int)) := hid (xor8 rfl (by norm_cast) hx8 (bit_lt q) rfl)
  have HXL := hid hl
  have HM : Hid (q % 8 < 8) := hid (by omega)
  clear ha ho hl hx8
  have hd : (q : Int).tdiv 8 = ((q / 8 : Nat) : Int) := by rw [Int.tdiv_eq_ediv_of_nonneg (by omega)]; omega
  have hd2 : (q : Int) / 8 = ((q / 8 : Nat) : Int) := by omega
  have hm : (q : Int).tmod 8 = ((q % 8 : Nat) : Int) := by rw [Int.tmod_eq_emod_of_nonneg (by omega)]; omega
  have hm2 : (q : Int) % 8 = ((q % 8 : Nat) : Int) := by omega
  have HTU : Hid (turned bs q = bs.set (q / 8) (bs.getD (q / 8) 0 ^^^ 128 / 2 ^ (q % 8))) := hid rfl
  have hge : decide (((q / 8 : Nat) : Int) ≥ (n : Int)) = false := by rw [decide_eq_false_iff_not]; omega
  have hge2 : decide ((n : Int) ≤ ((q / 8 : Nat) : Int)) = false := by rw [decide_eq_false_iff_not]; omega
  have h0 : decide ((q : Int) < 0) = false := by rw [decide_eq_false_iff_not]; omega
  have HGX : Hid ((bv bs)[q / 8]? = some (.int .u8 ((bs.getD (q / 8) 0 : Nat) : Int))) := hid (bv_at bs _ (by rw [HXL.out]; exact hq))
  generalize bs.getD (q / 8) 0 = x at *
  generalize q / 8 = j at *
  generalize q % 8 = m at *
  have HX2 := HX.out
  generalize x ^^^ 128 / 2 ^ m = y at *
  clear HX
  go_enter Try.func25, Try.ntmps25
  go_wp2_with (go_at_call 39; refine (clone_any A n c B bs w HA.out hn hB).mono ?_; rintro e w1 ⟨A1, n1, c1, rfl, own1, bel1⟩)
  have hn1 : n1 = n := by rw [← own1.len, bv_len, HXL.out]
  subst hn1
  obtain ⟨g, rfl, hg, hcell, hfz, hst⟩ := own1.at_ (by omega)
  have hcj := hcell j hq
  rw [HGX.out] at hcj
  have hfj := hfz j
  have HST : Hid (Own (w1.setCell ⟨g, j, none⟩ (.int .u8 (y : Int))) w.heap.size 5 (some ⟨g, 0, none⟩) n1 c1 (bv (turned bs q))) := hid (by rw [HTU.out, ← bv_set]; exact hst j _)
  have HBL : Hid (Below w.heap.size w (w1.setCell ⟨g, j, none⟩ (.int .u8 (y : Int)))) := hid (bel1.setCell (p := ⟨g, j, none⟩) hg _)
  have hm8 := HM.out
  clear hcell hfz hst own1 bel1 HGX HTU HXL HA
  go_region
  go_wp2
  go_ret2
  exact ⟨_, _, _, rfl, HST.out, HBL.out.drew⟩

set_option maxHeartbeats 1000000 in
theorem turn_bad (A : Option Addr) (n c : Nat) (q : Int) (w : World) (hq : q < 0 ∨ (n : Int) ≤ q / 8) (h1 : -9223372036854775808 ≤ q) (h2 : q ≤ 9223372036854775807) :
    Calls Try.prog 25 #[.slice A n c, .int .i64 q] w (RetE w.heap.size [] 1 w) := by
  by_cases h0 : q < 0
  · have hd : decide (q < 0) = true := by rw [decide_eq_true_eq]; exact h0
    go_enter Try.func25, Try.ntmps25
    go_wp2
    go_ret2
    exact ⟨none, 0, 0, rfl, Own.nil _ _ _, Below.refl _ _⟩
  · have hd : decide (q < 0) = false := by rw [decide_eq_false_iff_not]; exact h0
    have ht : q.tdiv 8 = q / 8 := by rw [Int.tdiv_eq_ediv_of_nonneg (by omega)]
    have hge : (n : Int) ≤ q / 8 := by omega
    have hj0 : 0 ≤ q / 8 := by omega
    have hj1 : q / 8 ≤ 1152921504606846975 := by omega
    generalize q / 8 = j at *
    go_enter Try.func25, Try.ntmps25
    go_wp2
    go_ret2
    exact ⟨none, 0, 0, rfl, Own.nil _ _ _, Below.refl _ _⟩
end Go.Proofs.Ytldegdhpblkhhaa
