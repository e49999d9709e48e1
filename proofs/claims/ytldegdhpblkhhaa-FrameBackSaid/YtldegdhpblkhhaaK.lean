/-
  What opens, and what turned bits do to it.
-/
import Derived.Test.YtldegdhpblkhhaaF
namespace Go.Proofs.Ytldegdhpblkhhaa
open Go Go.RowKit

theorem three_of {l : List Nat} (h : l.length = 3) : ∃ a b c, l = [a, b, c] := by
  match l, h with
  | [a, b, c], _ => exact ⟨a, b, c, rfl⟩
theorem four_of {l : List Nat} (h : l.length = 4) : ∃ a b c d, l = [a, b, c, d] := by
  match l, h with
  | [a, b, c, d], _ => exact ⟨a, b, c, d, rfl⟩
theorem open24_iff {ss : List Nat} {L : Nat} (hl : ss.length = L) (h3 : 3 ≤ L) (ho : Oct ss) : tail24 (ss.take (L - 3)) = ss.drop (L - 3) ↔ sum24 ss = 0 := by
  obtain ⟨a, b, c, hd⟩ := three_of (l := ss.drop (L - 3)) (by rw [List.length_drop]; omega)
  have od := ho.drop (L - 3)
  rw [hd] at od ⊢
  rw [whole24 (ss.take (L - 3)) a b c (ho.take _) od.head od.tail.head od.tail.tail.head, ← hd, List.take_append_drop]
theorem open32_iff {ss : List Nat} {L : Nat} (hl : ss.length = L) (h4 : 4 ≤ L) (ho : Oct ss) : tail32 (ss.take (L - 4)) = ss.drop (L - 4) ↔ reg st32 e32 4294967295 ss = k32 := by
  obtain ⟨a, b, c, d, hd⟩ := four_of (l := ss.drop (L - 4)) (by rw [List.length_drop]; omega)
  have od := ho.drop (L - 4)
  rw [hd] at od ⊢
  rw [whole32 (ss.take (L - 4)) a b c d (ho.take _) od.head od.tail.head od.tail.tail.head od.tail.tail.tail.head, ← hd, List.take_append_drop]
theorem open24_sealed (A : Option Addr) (n c B : Nat) (bs : List Nat) (w : World) (ha : Row w B A n (bv (bs ++ tail24 bs))) (hB : B ≤ w.heap.size) (ho : Oct bs) (hn : n = bs.length + 3) (hb : bs.length ≤ 1048576) (hnc : n ≤ c) :
    Calls Try.prog 30 #[.slice A n c] w (RetE w.heap.size (bv bs) 0 w) := by
  have e1 : (bs ++ tail24 bs).take (n - 3) = bs := by rw [hn, Nat.add_sub_cancel, List.take_left]
  have e2 : (bs ++ tail24 bs).drop (n - 3) = tail24 bs := by rw [hn, Nat.add_sub_cancel, List.drop_left]
  have := open24_ok A n c B (bs ++ tail24 bs) w ha hB (ho.app (tail24_oct _)) (by omega) (by omega) hnc (by rw [e1, e2])
  rwa [e1] at this
theorem turn_at (A : Option Addr) (n c B q : Nat) (z : Int) (bs : List Nat) (w : World) (hz : z = (q : Int)) (ha : Row w B A n (bv bs)) (ho : Oct bs) (hn : n ≤ 10000000) (hB : B ≤ w.heap.size) (hq : q / 8 < n) :
    Calls Try.prog 25 #[.slice A n c, .int .i64 z] w (RetE w.heap.size (bv (turned bs q)) 0 w) := by
  subst hz; exact turn_ok A n c B q bs w ha ho hn hB hq

def BurRel (base : Nat) (w : World) (L M o : Nat) (s t met i : Value) (wr : World) : Prop :=
  ∃ (k c1 c2 : Nat) (A1 A2 : Option Addr) (ss ts : List Nat) (m : Bool), k ≤ 24 ∧ i = .int .i64 (k : Int) ∧ s = .slice A1 L c1 ∧ t = .slice A2 M c2 ∧ met = .bool m ∧
    Row wr wr.heap.size A1 L (bv ss) ∧ Row wr wr.heap.size A2 M (bv ts) ∧ L ≤ c1 ∧ M ≤ c2 ∧ Burst L o ss ts k m ∧ Below base w wr

theorem wrapped (q : Int) (M : Nat) (hM : 0 < M) : ∃ (a : Int) (o : Nat), q.tmod (M : Int) = a ∧ -(M : Int) < a ∧ a < (M : Int) ∧ (a + (M : Int)).tmod (M : Int) = (o : Int) ∧ o < M := by
  have h1 := Int.tmod_lt_of_pos q (show (0 : Int) < (M : Int) by omega)
  have h2 : -(M : Int) < q.tmod (M : Int) := by
    have := Int.lt_tmod_of_pos q (show (0 : Int) < (M : Int) by omega); exact this
  refine ⟨q.tmod M, ((q.tmod M + M) % M).toNat, rfl, h2, h1, ?_, ?_⟩
  · rw [Int.tmod_eq_emod_of_nonneg (by omega)]
    have := Int.emod_nonneg (q.tmod M + M) (show (M : Int) ≠ 0 by omega)
    omega
  · have := Int.emod_nonneg (q.tmod M + M) (show (M : Int) ≠ 0 by omega)
    have := Int.emod_lt_of_pos (q.tmod M + M) (show (0 : Int) < (M : Int) by omega)
    omega

end Go.Proofs.Ytldegdhpblkhhaa
