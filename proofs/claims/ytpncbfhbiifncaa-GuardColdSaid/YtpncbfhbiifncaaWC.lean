/-
  The walk of GuardCold at its arguments: it returns true at every schedule, period, node, frame and time.
-/
import Derived.Test.YtpncbfhbiifncaaWCA
import Derived.Test.YtpncbfhbiifncaaWCB
namespace Go.Proofs.Ytpncbfhbiifncaa
open Go Go.RowKit
theorem nr_zero (L : Int) (hL : 1 ≤ L) : nrN L 0 = 0 ∧ nrR L 0 = 0 := by
  unfold nrN nrR
  rw [Int.zero_emod, Int.zero_ediv]
  constructor
  · rw [if_neg (by omega)]
  · rw [if_neg (by omega)]
theorem knB_none (o : Bool) : knB ⟨o, false, 0, 0⟩ = false := by unfold knB; rw [decide_eq_true rfl]; rfl
theorem knB_known (o : Bool) (s a : Int) : knB ⟨o, true, s, a⟩ = true := by
  unfold knB; rw [decide_eq_false (fun h => by injection h with _ h2; cases h2)]; rfl
theorem okG_none (o : Bool) : OkG ⟨o, false, 0, 0⟩ := ⟨by show (0 : Int) ≤ 4294967296; decide, by show timeB 0 = true; decide, knB_none o⟩
set_option maxHeartbeats 1000000 in
theorem cold_row {w : World} (n s l f d : Int) (_ : In64 n) (_ : In64 s) (_ : In64 l) (_ : In64 f) (_ : In64 d) (p : Int) (_ : -9223372036854775808 ≤ p) (_ : p ≤ 9223372036854775807) (q : Int) (_ : -9223372036854775808 ≤ q) (_ : q ≤ 9223372036854775807)
    (x : Fr) (_ : In64 x.k) (_ : In64 x.f) (xs : x.s < 18446744073709551616) (_ : x.m < 65536) (t : Int) (_ : -9223372036854775808 ≤ t) (_ : t ≤ 9223372036854775807) :
    Calls Try.prog 5 #[mv ⟨n, s, l, f, d⟩, .int .i64 p, .int .i64 q, fv x, .int .i64 t] w fun e w' => e = .returned (.bool true) ∧ Below w.heap.size w w' := by
  obtain ⟨fk, ff, fs, fm⟩ := x
  simp only at xs
  by_cases h : Ok ⟨n, s, l, f, d⟩
  · by_cases ha : 1 ≤ p ∧ p ≤ 1000000000 ∧ 0 ≤ q ∧ q < n ∧ 0 ≤ t
    · obtain ⟨p1, p2, q1, q2, t1⟩ := ha
      by_cases ht : t ≤ 1152921504606846976
      · have hT := timeB_yes (n := t) (by omega) ht
        have P0 := fun w => pass_any ⟨false, false, 0, 0⟩ ⟨n, s, l, f, d⟩ p q ⟨fk, ff, fs, fm⟩ t w (by decide) ⟨okG_none _, h, p1, p2, q1, q2⟩ t1 ht
        have P1 := fun w => pass_any ⟨true, false, 0, 0⟩ ⟨n, s, l, f, d⟩ p q ⟨fk, ff, fs, fm⟩ t w (by decide) ⟨okG_none _, h, p1, p2, q1, q2⟩ t1 ht
        have e0 : psI ⟨false, false, 0, 0⟩ ⟨n, s, l, f, d⟩ p q ⟨fk, ff, fs, fm⟩ t = true := by unfold psI; rfl
        have e1 : psG ⟨false, false, 0, 0⟩ ⟨n, s, l, f, d⟩ p q ⟨fk, ff, fs, fm⟩ t = ⟨false, false, 0, 0⟩ := if_neg (fun hh => by cases hh.1)
        rw [e0, e1] at P0
        have e2 : ∀ b, slB ⟨true, false, 0, 0⟩ ⟨n, s, l, f, d⟩ p q ⟨fk, ff, fs, fm⟩ b = toldB ⟨n, s, l, f, d⟩ q ⟨fk, ff, fs, fm⟩ := fun b => if_neg (by rw [knB_none]; simp)
        cases hB : toldB ⟨n, s, l, f, d⟩ q ⟨fk, ff, fs, fm⟩ with
        | false =>
          have e3 : psI ⟨true, false, 0, 0⟩ ⟨n, s, l, f, d⟩ p q ⟨fk, ff, fs, fm⟩ t = false := by unfold psI; rw [e2, hB]; rfl
          have e4 : psG ⟨true, false, 0, 0⟩ ⟨n, s, l, f, d⟩ p q ⟨fk, ff, fs, fm⟩ t = ⟨true, false, 0, 0⟩ := if_neg (fun hh => by have := hh.2; rw [e2, hB] at this; cases this)
          rw [e3, e4] at P1
          unfold toldB ownB at hB
          simp only [Bool.and_eq_false_iff, decide_eq_false_iff_not] at hB
          by_cases hs : (fs : Int) ≤ 4294967296
          · refine cold_no n s l f d p q fk ff fs fm t w ((fs : Int) % n) 0 h p1 p2 q1 q2 t1 hT P0 P1 (fun w => own_ok n s l f d _ _ w h (by omega) hs rfl) ?_
            by_cases k1 : fk = 2
            · by_cases k2 : ff = q
              · refine .inr (.inr (.inr ⟨by simpa using k1, by simpa using k2, rfl, ?_⟩))
                rcases hB with hB | hB | hB
                · exact absurd k1 hB
                · exact absurd k2 hB
                · simp only [beq_eq_false_iff_ne, ne_eq]
                  exact fun hh => hB ⟨h, hs, hh⟩
              · exact .inr (.inl ⟨by simpa using k1, by simpa using k2⟩)
            · exact .inl k1
          · refine cold_no n s l f d p q fk ff fs fm t w 0 1 h p1 p2 q1 q2 t1 hT P0 P1 (fun w => own_bad _ _ w (fun hh => hs hh.2)) ?_
            by_cases k1 : fk = 2
            · by_cases k2 : ff = q
              · exact .inr (.inr (.inl ⟨by simpa using k1, by simpa using k2, rfl⟩))
              · exact .inr (.inl ⟨by simpa using k1, by simpa using k2⟩)
            · exact .inl k1
        | true =>
          have e3 : psI ⟨true, false, 0, 0⟩ ⟨n, s, l, f, d⟩ p q ⟨fk, ff, fs, fm⟩ t = true := by unfold psI; rw [e2, hB]; rfl
          have e4 : psG ⟨true, false, 0, 0⟩ ⟨n, s, l, f, d⟩ p q ⟨fk, ff, fs, fm⟩ t = ⟨true, true, (fs : Int), t - l * p⟩ := by
            unfold psG
            rw [if_pos ⟨rfl, (e2 _).trans hB⟩]
            congr 1
          rw [e3, e4] at P1
          have hO : ownB ⟨n, s, l, f, d⟩ q (fs : Int) = true := by
            unfold toldB at hB; simp only [Bool.and_eq_true] at hB; exact hB.2.2
          unfold toldB ownB at hB
          simp only [Bool.and_eq_true, decide_eq_true_eq] at hB
          obtain ⟨k1, k2, _, hs, k3⟩ := hB
          have hh := h
          obtain ⟨o1, o2, o3, o4, o5, o6, o7, o8, o9⟩ := hh
          simp only at o1 o2 o3 o4 o5 o6 o7 o8 o9
          obtain ⟨W0, W1⟩ := win_in o5 (by omega) o4 p1 p2
          obtain ⟨V0, V1⟩ := win_in o7 (by omega) o4 p1 p2
          obtain ⟨L0, L1⟩ := len_in o3 o4 p1 p2
          have hG : OkG ⟨true, true, (fs : Int), t - l * p⟩ := ⟨hs, timeB_yes (n := t - l * p) (by omega) (by omega), knB_known _ _ _⟩
          have P2 := fun w => pass_any ⟨true, true, (fs : Int), t - l * p⟩ ⟨n, s, l, f, d⟩ p q ⟨0, 0, 0, 0⟩ t w (by show (0 : Int) ≤ (fs : Int); omega) ⟨hG, h, p1, p2, q1, q2⟩ t1 ht
          have e5 : slB ⟨true, true, (fs : Int), t - l * p⟩ ⟨n, s, l, f, d⟩ p q ⟨0, 0, 0, 0⟩ (t - l * p) = true := by
            unfold slB recB
            rw [if_pos (knB_known _ _ _)]
            simp only [Int.sub_self, (nr_zero (s * p) (by omega)).1, (nr_zero (s * p) (by omega)).2, Int.add_zero, hO, Bool.and_true]
            rw [timeB_yes (by omega) (by omega)]
            simp only [Bool.true_and, Bool.and_eq_true, decide_eq_true_eq]
            omega
          have e6 : psI ⟨true, true, (fs : Int), t - l * p⟩ ⟨n, s, l, f, d⟩ p q ⟨0, 0, 0, 0⟩ t = true := by unfold psI; simp only [e5]; rfl
          have e7 : psG ⟨true, true, (fs : Int), t - l * p⟩ ⟨n, s, l, f, d⟩ p q ⟨0, 0, 0, 0⟩ t = ⟨true, true, (fs : Int), t - l * p⟩ := by
            unfold psG
            rw [if_pos ⟨rfl, e5⟩]
            congr 1
            unfold slS
            rw [if_pos (knB_known _ _ _)]
            simp only [Int.sub_self, (nr_zero (s * p) (by omega)).1, Int.add_zero]
          rw [e6, e7] at P2
          have GC := fun w => gcheck_any ⟨true, true, (fs : Int), t - l * p⟩ w
          rw [show okgE ⟨true, true, (fs : Int), t - l * p⟩ = 0 from if_pos hG] at GC
          exact cold_yes n s l f d p q fk ff fs fm t w q (t - l * p) h p1 p2 q1 q2 t1 hT P0 P1 (fun w => own_ok n s l f d _ _ w h (by omega) hs k3) P2 GC (by simpa using k1) (by simpa using k2) (by simp)
      · exact cold_time n s l f d p q fk ff fs fm t w h p1 p2 q1 q2 t1 (timeB_no (by omega))
    · refine cold_args n s l f d p q fk ff fs fm t w h ?_
      simp only [decide_eq_true_eq, decide_eq_false_iff_not]
      omega
  · exact cold_sched n s l f d p q fk ff fs fm t w h
end Go.Proofs.Ytpncbfhbiifncaa
