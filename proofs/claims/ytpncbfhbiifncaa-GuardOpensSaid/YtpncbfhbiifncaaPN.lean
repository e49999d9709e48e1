/-
  What passes near a slot's beginning: guard.Pass at times so many lengths behind, and little more or less.
-/
import Derived.Test.YtpncbfhbiifncaaWC
namespace Go.Proofs.Ytpncbfhbiifncaa
open Go Go.RowKit
theorem nr_near (L K x : Int) (hL : 1 ≤ L) (h1 : -L ≤ 2 * (x - K * L)) (h2 : 2 * (x - K * L) < L) : nrN L x = K ∧ nrR L x = x - K * L := by
  have a := nr_whole L x
  obtain ⟨b1, b2⟩ := nr_half L x hL
  generalize nrN L x = N at *
  generalize nrR L x = R at *
  have e : N = K := by
    by_cases c1 : N ≤ K - 1
    · have := Int.mul_le_mul_of_nonneg_right c1 (show 0 ≤ L by omega)
      rw [Int.sub_mul, Int.one_mul] at this
      generalize N * L = P at *
      generalize K * L = Q at *
      omega
    · by_cases c2 : K + 1 ≤ N
      · have := Int.mul_le_mul_of_nonneg_right c2 (show 0 ≤ L by omega)
        rw [Int.add_mul, Int.one_mul] at this
        generalize N * L = P at *
        generalize K * L = Q at *
        omega
      · omega
  subst e
  exact ⟨rfl, by omega⟩
theorem recB_near (g : Gd) (m : Md) (p q b K : Int) (hK : 0 ≤ K) (hL : 1 ≤ m.s * p) (h1 : -(m.s * p) ≤ 2 * (b - g.a - K * (m.s * p))) (h2 : 2 * (b - g.a - K * (m.s * p)) < m.s * p) (t1 : -1152921504606846976 ≤ b - g.a) (t2 : b - g.a ≤ 1152921504606846976) :
    recB g m p q b = (decide (-(m.d * p) ≤ b - g.a - K * (m.s * p)) && (decide (b - g.a - K * (m.s * p) ≤ m.d * p) && ownB m q (g.s + K))) := by
  obtain ⟨e1, e2⟩ := nr_near (m.s * p) K (b - g.a) hL h1 h2
  unfold recB
  rw [e1, e2, timeB_yes t1 t2, decide_eq_true hK, Bool.true_and, Bool.true_and]
theorem ps_of (g : Gd) (m : Md) (p q : Int) (f : Fr) (t : Int) (ho : g.o = true) (hk : knB g = true) (B : Bool) (h : recB g m p q (t - m.l * p) = B) : psI g m p q f t = B ∧ (B = false → psG g m p q f t = g) := by
  have e : slB g m p q f (t - m.l * p) = B := by unfold slB; rw [if_pos hk, h]
  refine ⟨by unfold psI; rw [e, ho]; rfl, fun hb => ?_⟩
  subst hb
  exact if_neg (fun hh => by rw [e] at hh; cases hh.2)
theorem ps_near (g : Gd) (m : Md) (p q : Int) (f : Fr) (t K : Int) (ho : g.o = true) (hk : knB g = true) (hK : 0 ≤ K) (hL : 1 ≤ m.s * p) (h1 : -(m.s * p) ≤ 2 * (t - m.l * p - g.a - K * (m.s * p))) (h2 : 2 * (t - m.l * p - g.a - K * (m.s * p)) < m.s * p)
    (t1 : -1152921504606846976 ≤ t - m.l * p - g.a) (t2 : t - m.l * p - g.a ≤ 1152921504606846976) (d1 : -(m.d * p) ≤ t - m.l * p - g.a - K * (m.s * p)) (d2 : t - m.l * p - g.a - K * (m.s * p) ≤ m.d * p) (hB : ownB m q (g.s + K) = true) :
    psI g m p q f t = true ∧ psG g m p q f t = ⟨true, true, g.s + K, t - m.l * p⟩ := by
  have e : recB g m p q (t - m.l * p) = true := by
    rw [recB_near g m p q _ K hK hL h1 h2 t1 t2, decide_eq_true d1, decide_eq_true d2, hB]; rfl
  have e2 : slB g m p q f (t - m.l * p) = true := by unfold slB; rw [if_pos hk, e]
  refine ⟨by unfold psI; rw [e2, ho]; rfl, ?_⟩
  unfold psG
  rw [if_pos ⟨ho, e2⟩]
  congr 1
  unfold slS
  rw [if_pos hk, (nr_near (m.s * p) K (t - m.l * p - g.a) hL h1 h2).1]
end Go.Proofs.Ytpncbfhbiifncaa
