/-
  The contract of ref's SameAll; the records of a text and of two texts, in plain words.
-/
import Derived.Test.YtkbcmnheecihiaaN
namespace Go.Proofs.Ytkbcmnheecihiaa
open Go Go.RowKit

theorem below_drew {w w1 : World} (h : Below w.heap.size w w1) : Below w.heap.size w w1.drew := h.drew
def SameP (r : Bool) (w : World) (e : Ending) (w' : World) : Prop := e = .returned (.bool r) ∧ Below w.heap.size w w'

set_option maxRecDepth 100000 in
set_option maxHeartbeats 2000000 in
theorem sameAll_any (A1 A2 : Option Addr) (n1 c1 n2 c2 B1 B2 : Nat) (vs us : List Value) (ls ms : List (List Nat)) (r : Bool) (w : World) (h1 : Row w B1 A1 n1 vs) (hB1 : B1 ≤ w.heap.size) (h2 : Row w B2 A2 n2 us) (hB2 : B2 ≤ w.heap.size)
    (e1 : Els w vs ls) (e2 : Els w us ms) (o1 : ∀ l ∈ ls, Oct l) (o2 : ∀ l ∈ ms, Oct l) (hn1 : n1 ≤ 100000) (hn2 : n2 ≤ 100000) (hr : decide (ls = ms) = r) :
    Calls Try.prog 24 #[.slice A1 n1 c1, .slice A2 n2 c2] w (SameP r w) := by
  have L1 : Hid (ls.length = n1) := hid (by rw [← e1.1, h1.1])
  have L2 : Hid (ms.length = n2) := hid (by rw [← e2.1, h2.1])
  have HR1 := hid h1
  have HR2 := hid h2
  have HE1 := hid e1
  have HE2 := hid e2
  have O1 := hid o1
  have O2 := hid o2
  have HR := hid hr
  clear h1 h2 e1 e2 o1 o2 hr
  by_cases hn : n1 = n2
  · subst hn
    have hne : ((n1 : Int) != (n1 : Int)) = false := by simp
    go_enter Try.func24, Try.ntmps24
    go_wp2
    go_loopw [13] (fun i wr => ∃ k : Nat, k ≤ n1 ∧ i = .int .i64 (k : Int) ∧ ls.take k = ms.take k ∧ Below w.heap.size w wr) (fun i _ => n1 - (intOf i).toNat)
    case atStart => exact ⟨0, Nat.zero_le _, rfl, rfl, Below.refl _ _⟩
    case round =>
      obtain ⟨k, hk, rfl, heq, hbel⟩ := hrel
      have HEQ := hid heq
      have HBL := hid hbel
      clear heq hbel
      by_cases hlt : k < n1
      · obtain ⟨b1, p1, v1, rfl, hb1, hv1, hc1⟩ := (HR1.out.below (HBL.out.mono hB1)).at_ hlt
        obtain ⟨b2, p2, v2, rfl, hb2, hv2, hc2⟩ := (HR2.out.below (HBL.out.mono hB2)).at_ hlt
        have hk1 : k < ls.length := by have := L1.out; omega
        have hk2 : k < ms.length := by have := L2.out; omega
        obtain ⟨l1, hl1⟩ : ∃ l1, l1 = ls[k] := ⟨_, rfl⟩
        obtain ⟨l2, hl2⟩ : ∃ l2, l2 = ms[k] := ⟨_, rfl⟩
        obtain ⟨A3, c3, rfl, own3⟩ := (HE1.out.below HBL.out).2 k v1 l1 hv1 (by rw [hl1, List.getElem?_eq_getElem hk1])
        obtain ⟨A4, c4, rfl, own4⟩ := (HE2.out.below HBL.out).2 k v2 l2 hv2 (by rw [hl2, List.getElem?_eq_getElem hk2])
        have ol1 : Oct l1 := by rw [hl1]; exact O1.out _ (List.getElem_mem hk1)
        have ol2 : Oct l2 := by rw [hl2]; exact O2.out _ (List.getElem_mem hk2)
        have HS : Hid (ls.take (k + 1) = ms.take (k + 1) ↔ l1 = l2) := hid (by
          rw [List.take_succ_eq_append_getElem hk1, List.take_succ_eq_append_getElem hk2, HEQ.out, ← hl1, ← hl2]
          simp)
        have HF : Hid (l1 ≠ l2 → false = r) := hid (fun h => by
          rw [← HR.out]; symm; rw [decide_eq_false_iff_not]; intro e; subst e; exact h (by rw [hl1, hl2]))
        have HCF := hid (same_any A3 A4 l1.length c3 l2.length c4 _ _ l1 l2 (decide (l1 = l2)) wr.drew (own3.row.keep (fun _ _ => rfl)) (own4.row.keep (fun _ _ => rfl)) ol1 ol2 rfl)
        have i1 : (0 : Int) ≤ (k : Int) := Int.natCast_nonneg _
        have i2 : (k : Int) < (n1 : Int) := by omega
        generalize l1.length = m1 at *
        generalize l2.length = m2 at *
        clear own3 own4 hv1 hv2 hl1 hl2 HEQ
        by_cases hll : l1 = l2
        · rw [decide_eq_true hll] at HCF
          have HT := hid (HS.out.2 hll)
          clear hll HS HF ol1 ol2
          go_wp2_with fail
          go_region_held3 (fun w' => w'.cell? ⟨b1, p1 + k, none⟩ = some (.slice A3 m1 c3) ∧ w'.cell? ⟨b2, p2 + k, none⟩ = some (.slice A4 m2 c4))
            (first | exact ⟨hc1, hc2⟩)
            (first | (go_at_call 12; refine (HCF.out).mono ?_; rintro e w1 ⟨rfl, rfl⟩; dsimp only))
          go_wp2
          go_roundw
          case rel => exact ⟨k + 1, by omega, by go_num, HT.out, HBL.out.drew⟩
          case measure => simp [intOf]; omega
        · rw [decide_eq_false hll] at HCF
          have HT := hid (HF.out hll)
          clear hll HS HF ol1 ol2
          go_wp2_with fail
          go_region_held3 (fun w' => w'.cell? ⟨b1, p1 + k, none⟩ = some (.slice A3 m1 c3) ∧ w'.cell? ⟨b2, p2 + k, none⟩ = some (.slice A4 m2 c4))
            (first | exact ⟨hc1, hc2⟩)
            (first | (go_at_call 12; refine (HCF.out).mono ?_; rintro e w1 ⟨rfl, rfl⟩; dsimp only))
          go_wp2
          go_ret
          exact ⟨ret_bool HT.out, HBL.out.drew⟩
      · have HT : Hid (true = r) := hid (by
          rw [← HR.out]; symm; rw [decide_eq_true_eq]
          have := HEQ.out
          rwa [List.take_of_length_le (by have := L1.out; omega), List.take_of_length_le (by have := L2.out; omega)] at this)
        go_wp2
        go_ret
        exact ⟨ret_bool HT.out, HBL.out⟩
  · have hne : ((n1 : Int) != (n2 : Int)) = true := by rw [bne_iff_ne]; omega
    have HT : Hid (false = r) := hid (by
      rw [← HR.out]; symm; rw [decide_eq_false_iff_not]; intro e; subst e; have := L1.out; have := L2.out; omega)
    go_enter Try.func24, Try.ntmps24
    go_wp2
    go_ret
    exact ⟨ret_bool HT.out, Below.refl _ _⟩
theorem Recs.oct {bs : List Nat} (ho : Oct bs) {k e : Nat} {ls : List (List Nat)} (h : Recs bs k e ls) : ∀ l ∈ ls, Oct l := by
  induction h with
  | done _ => intro l hl; cases hl
  | bad _ _ _ => intro l hl; cases hl
  | more _ _ ih =>
    intro l hl
    rcases List.mem_cons.1 hl with rfl | hl
    · exact (ho.take _).drop _
    · exact ih l hl
  | worse _ _ _ _ => intro l hl; cases hl

theorem tv_shift (m : Nat) : ∀ (l : List Nat) (f : Bool) (acc k : Nat), tv f acc (m + k) l = ((tv f acc k l).1, (if (tv f acc k l).2.2 = 0 then m + (tv f acc k l).2.1 else 0), (tv f acc k l).2.2)
  | [], f, acc, k => by simp [tv]
  | x :: r, f, acc, k => by
    simp only [tv]
    split
    · simp
    · split
      · simp; omega
      · rw [Nat.add_assoc]; exact tv_shift m r _ _ _
theorem bod_shift (a b : List Nat) (k p q e : Nat) (h : bod b k = (p, q, e)) : bod (a ++ b) (a.length + k) = (if e = 0 then (a.length + p, a.length + q, 0) else (0, 0, e)) := by
  have hd : (a ++ b).drop (a.length + k + 1) = b.drop (k + 1) := by
    rw [Nat.add_assoc, List.drop_append, List.drop_eq_nil_of_le (by omega)]; simp
  unfold bod at h ⊢
  rw [hd, List.length_append, Nat.add_assoc, tv_shift]
  obtain ⟨x, r, y, hxyz⟩ : ∃ x r y, tv true 0 (k + 1) (b.drop (k + 1)) = (x, r, y) := ⟨_, _, _, rfl⟩
  rw [hxyz] at h ⊢
  simp only at h ⊢
  by_cases h1 : b.length ≤ k
  · rw [if_pos h1] at h
    rw [if_pos (by omega)]
    obtain ⟨rfl, rfl, rfl⟩ : 0 = p ∧ 0 = q ∧ 3 = e := by simpa using h
    rfl
  · rw [if_neg h1] at h
    rw [if_neg (by omega)]
    by_cases h2 : y = 0
    · subst h2
      rw [if_neg (by omega)] at h
      rw [if_neg (by omega), if_pos rfl]
      by_cases h3 : 1048576 < x
      · rw [if_pos h3] at h ⊢
        obtain ⟨rfl, rfl, rfl⟩ : 0 = p ∧ 0 = q ∧ 6 = e := by simpa using h
        rfl
      · rw [if_neg h3] at h ⊢
        by_cases h4 : b.length - r < x
        · rw [if_pos h4] at h
          rw [if_pos (by omega)]
          obtain ⟨rfl, rfl, rfl⟩ : 0 = p ∧ 0 = q ∧ 3 = e := by simpa using h
          rfl
        · rw [if_neg h4] at h
          rw [if_neg (by omega)]
          obtain ⟨rfl, rfl, rfl⟩ : r = p ∧ r + x = q ∧ 0 = e := by simpa using h
          rw [if_pos rfl, Nat.add_assoc]
    · rw [if_pos h2] at h ⊢
      obtain ⟨rfl, rfl, rfl⟩ : 0 = p ∧ 0 = q ∧ y = e := by simpa using h
      rw [if_neg h2]
theorem bod_more (a b : List Nat) (k p q e : Nat) (hk : k < a.length) (h : bod a k = (p, q, e)) (he : e ≠ 3) (ho : Oct a) : bod (a ++ b) k = (p, q, e) := by
  have hd : (a ++ b).drop (k + 1) = a.drop (k + 1) ++ b := by
    rw [List.drop_append, show k + 1 - a.length = 0 by omega, List.drop_zero]
  unfold bod at h ⊢
  rw [if_neg (by omega)] at h
  rw [if_neg (by rw [List.length_append]; omega), hd]
  obtain ⟨x, r, y, hxyz⟩ : ∃ x r y, tv true 0 (k + 1) (a.drop (k + 1)) = (x, r, y) := ⟨_, _, _, rfl⟩
  have hy3 : y ≠ 3 := by
    intro e3; subst e3
    rw [hxyz] at h
    simp only at h
    rw [if_pos (by omega)] at h
    simp at h; omega
  rw [tv_more _ _ _ _ _ (by rw [hxyz]; exact hy3), hxyz]
  rw [hxyz] at h
  simp only at h ⊢
  by_cases h2 : y = 0
  · subst h2
    have hb := (tv_back _ _ _ _ (ho.drop _) hxyz)
    rw [List.length_drop] at hb
    rw [if_neg (by omega)] at h ⊢
    by_cases h3 : 1048576 < x
    · rw [if_pos h3] at h ⊢; exact h
    · rw [if_neg h3] at h ⊢
      by_cases h4 : a.length - r < x
      · rw [if_pos h4] at h; simp at h; omega
      · rw [if_neg h4] at h
        rw [if_neg (by rw [List.length_append]; omega)]; exact h
  · rw [if_pos h2] at h ⊢; exact h

theorem Recs.shift (a : List Nat) {b : List Nat} {k e : Nat} {ls : List (List Nat)} (h : Recs b k e ls) : Recs (a ++ b) (a.length + k) e ls := by
  have hs : ∀ k q : Nat, (b.take q).drop k = ((a ++ b).take (a.length + q)).drop (a.length + k) := fun k q => by
    have e1 : (a ++ b).take (a.length + q) = a ++ b.take q := by rw [List.take_append, List.take_of_length_le (l := a) (by omega), Nat.add_sub_cancel_left]
    rw [e1, ← List.drop_drop, List.drop_left]
  induction h with
  | done h => exact .done (by rw [List.length_append]; omega)
  | bad h1 h2 h3 =>
    have := bod_shift a b _ _ _ _ h2
    rw [if_neg h3] at this
    exact .bad (by rw [List.length_append]; omega) this h3
  | more h1 h2 ih =>
    have := bod_shift a b _ _ _ _ h1
    rw [if_pos rfl] at this
    rw [hs]
    exact .more this ih
  | worse h1 h2 h3 ih =>
    have := bod_shift a b _ _ _ _ h1
    rw [if_pos rfl] at this
    exact .worse this ih h3
/-- What is wrong with the first text is wrong with both, but where it ends too soon. -/
theorem Recs.wrong {a : List Nat} (b : List Nat) (ho : Oct a) {k e : Nat} {ls : List (List Nat)} (h : Recs a k e ls) (he : e ≠ 0) (he3 : e ≠ 3) : Recs (a ++ b) k e [] := by
  induction h with
  | done _ => exact absurd rfl he
  | bad h1 h2 h3 => exact .bad (by rw [List.length_append]; omega) (bod_more a b _ _ _ _ h1 h2 he3 ho) h3
  | more h1 h2 ih => exact absurd rfl he
  | worse h1 h2 h3 ih =>
    obtain ⟨hk, _⟩ := bod_ok ho h1
    exact .worse (bod_more a b _ _ _ _ hk h1 (by omega) ho) (ih he he3) h3
/-- A text of records ahead of another text. -/
theorem Recs.ahead {a b : List Nat} (ho : Oct a) {k f : Nat} {ls ms : List (List Nat)} (h : Recs a k 0 ls) (hk : k ≤ a.length) (hb : Recs (a ++ b) a.length f ms) (hf : f ≠ 0 → ms = []) : Recs (a ++ b) k f (if f = 0 then ls ++ ms else []) := by
  generalize h0 : 0 = e at h
  induction h with
  | @done k h =>
    obtain rfl : k = a.length := by omega
    by_cases hz : f = 0
    · rw [if_pos hz]; exact hb
    · rw [if_neg hz, ← hf hz]; exact hb
  | bad _ _ h3 => exact absurd h0.symm h3
  | @more k p q ls h1 h2 ih =>
    obtain ⟨hk', _, _, hq, _⟩ := bod_ok ho h1
    have ih' := ih hq rfl
    have h1' := bod_more a b _ _ _ _ hk' h1 (by omega) ho
    by_cases hz : f = 0
    · subst hz
      rw [if_pos rfl] at ih' ⊢
      have e : (a.take q).drop k = ((a ++ b).take q).drop k := by rw [List.take_append_of_le_length hq]
      rw [List.cons_append, e]
      exact .more h1' ih'
    · rw [if_neg hz] at ih' ⊢
      exact .worse h1' ih' hz
  | worse _ _ h3 _ => exact absurd h0.symm h3

end Go.Proofs.Ytkbcmnheecihiaa
