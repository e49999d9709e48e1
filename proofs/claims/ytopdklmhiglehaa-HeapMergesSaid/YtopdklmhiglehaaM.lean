/-
  The law's live, few and is: what they answer.
-/
import Derived.Test.YtopdklmhiglehaaL
import Derived.LoopN
namespace Go.Proofs.Ytopdklmhiglehaa
open Go Go.RowKit

set_option maxHeartbeats 1000000 in
theorem is_any (A A2 : Option Addr) (n c m c2 B B2 : Nat) (a b : List It) (r : Bool) (w : World) (ha : Row w B A n a) (hb : Row w B2 A2 m b) (hB : B ≤ w.heap.size) (hB2 : B2 ≤ w.heap.size) (hn : n ≤ 10000) (hm : m ≤ 1000000000) (hr : (chk a && decide (n ≤ 4096) && decide (srt a = b)) = r) :
    Calls Try.prog 22 #[.slice A n c, .slice A2 m c2] w fun e w' => e = .returned (.bool r) ∧ Below w.heap.size w w' := by
  have HA := hid ha
  have HB := hid hb
  have HR := hid hr
  clear ha hb hr
  obtain ⟨q, hq⟩ : ∃ q, (chk a && decide (n ≤ 4096)) = q := ⟨_, rfl⟩
  have HQ := hid hq
  have HR' : Hid ((q && decide (srt a = b)) = r) := hid (by rw [← HQ.out]; exact HR.out)
  clear hq HR
  go_enter Try.func22, Try.ntmps22
  go_wp2_with fail
  refine (refcheck_any A n c B a q w HA.out hB (by omega) HQ.out).mono ?_
  rintro e w1 ⟨rfl, bel1⟩
  have B1 := hid bel1
  clear bel1
  cases q
  · have HF : Hid (r = false) := hid (by rw [← HR'.out]; rfl)
    go_wp2
    go_ret
    exact ⟨ret_bool HF.out.symm, B1.out⟩
  · have HF : Hid (decide (srt a = b) = r) := hid (by rw [← HR'.out]; rfl)
    go_wp2_with (first
      | (go_at_call 20; refine (refsorted_any A n c B a w1 (HA.out.below (B1.out.mono hB)) (Nat.le_trans hB B1.out.size) hn).mono ?_; rintro e w2 ⟨A3, c3, l3, rfl, rfl, own3, bel3⟩)
      | (go_at_call 19; refine (same_any A3 A2 n c3 m c2 w2.heap.size B2 _ b r w2 own3.row (HB.out.below ((B1.out.trans (bel3.mono B1.out.size)).mono hB2)) (Nat.le_refl _) (Nat.le_trans hB2 (Nat.le_trans B1.out.size bel3.size)) (by omega) hm HF.out).mono ?_; rintro e w4 ⟨rfl, bel4⟩))
    go_ret
    exact ⟨rfl, B1.out.trans ((bel3.mono B1.out.size).trans (bel4.mono (Nat.le_trans B1.out.size bel3.size)))⟩

theorem perm3 {l : List It} (h : Hp l) (hp : l.Perm [(3, 0, 0, 0, 0, 0), (1, 0, 0, 0, 0, 0), (2, 0, 0, 0, 0, 0)]) : nth l 0 = (1, 0, 0, 0, 0, 0) := by
  have h1 : lt (1, 0, 0, 0, 0, 0) (nth l 0) = false := h.least (hp.mem_iff.2 (by simp))
  have h2 : nth l 0 ∈ [(3, 0, 0, 0, 0, 0), (1, 0, 0, 0, 0, 0), (2, 0, 0, 0, 0, 0)] := hp.mem_iff.1 (nth_mem (by rw [hp.length_eq]; simp))
  simp only [List.mem_cons, List.not_mem_nil, or_false] at h2
  rcases h2 with e | e | e
  · rw [e] at h1; exact absurd h1 (by decide)
  · exact e
  · rw [e] at h1; exact absurd h1 (by decide)
theorem row_lit (w : World) (l : List It) : Row (w.alloc (.cells (flat l).toArray 24)) (w.heap.size + 1) (some ⟨w.heap.size, 0, none⟩) l.length l := by
  refine ⟨rfl, fun _ => ⟨w.heap.size, 0, rfl, by omega, fun j u hu => ?_⟩⟩
  rw [cell_of_row (w.alloc (.cells (flat l).toArray 24)) w.heap.size (0 + j) (flat l).toArray 24 (0, 0) (heap_alloc_new w _)]
  simpa using hu
def l3 : List It := [(3, 0, 0, 0, 0, 0), (1, 0, 0, 0, 0, 0), (2, 0, 0, 0, 0, 0)]
set_option maxHeartbeats 1000000 in
theorem live_any (w : World) : Calls Try.prog 10 #[] w fun e w' => e = .returned (.bool true) ∧ Below w.heap.size w w' := by
  have R0 := hid (row_lit w l3)
  have B0 : Hid (Below w.heap.size w (w.alloc (.cells (flat l3).toArray 24))) := hid ((Below.refl _ _).alloc (Nat.le_refl _) _)
  have S0 : Hid (w.heap.size + 1 ≤ (w.alloc (.cells (flat l3).toArray 24)).heap.size) := hid (by simp)
  go_enter Try.func10, Try.ntmps10
  go_wp2_with fail
  change Calls Try.prog 21 _ (w.alloc (.cells (flat l3).toArray 24)) _
  generalize w.alloc (.cells (flat l3).toArray 24) = W at *
  refine (build_any _ 3 3 (w.heap.size + 1) l3 W R0.out S0.out (by omega)).mono ?_
  rintro e w1 ⟨A1, c1, l1, rfl, ⟨hh, hp⟩, own1, bel1⟩
  have B1 : Hid (Below w.heap.size w w1) := hid (B0.out.trans (bel1.mono B0.out.size))
  have HH := hid hh
  have HP := hid hp
  have O1 := hid own1
  clear hh hp own1 bel1 R0 B0 S0
  go_wp2_with fail
  refine (pop_ok A1 2 c1 w1.heap.size l1 (1, 0, 0, 0, 0, 0) w1 O1.out.row (Nat.le_refl _) (by omega) HH.out (perm3 HH.out HP.out)).mono ?_
  rintro e w2 ⟨A2, c2, l2, rfl, _, own2, bel2⟩
  have B2 : Hid (Below w.heap.size w w2) := hid (B1.out.trans (bel2.mono B1.out.size))
  clear own2 bel2
  unfold itv enc
  go_wp2
  go_ret
  exact ⟨rfl, B2.out.alloc B2.out.size _⟩
def fewB (n : Nat) : Bool := decide (n ≤ 200) || decide (4096 ≤ n ∧ n ≤ 4200)
set_option maxHeartbeats 1000000 in
theorem few_1 (g n c : Nat) (A : Option Addr) (w : World) (hn : n ≤ 9223372036854775807) (hc : w.cell? ⟨g, 0, none⟩ = some (.slice A n c)) (r : Bool) (hr : fewB n = r) : Calls Try.prog 11 #[.slice (some ⟨g, 0, none⟩) 1 1] w fun e w' => e = .returned (.bool r) ∧ w = w' := by
  have HR : Hid (fewB n = r) := hid hr
  clear hr
  rcases (show n ≤ 200 ∨ (200 < n ∧ n < 4096) ∨ (4096 ≤ n ∧ n ≤ 4200) ∨ 4200 < n by omega) with h1 | h1 | h1 | h1
  · have HF : Hid (fewB n = true) := hid (by unfold fewB; simp; omega)
    have tna : decide (200 < n) = false := decide_eq_false (by omega)
    have una : decide (200 < (n : Int)) = false := decide_eq_false (by omega)
    have tnb : decide (n < 4096) = true := decide_eq_true (by omega)
    have unb : decide ((n : Int) < 4096) = true := decide_eq_true (by omega)
    have tnc : decide (4200 < n) = false := decide_eq_false (by omega)
    have unc : decide (4200 < (n : Int)) = false := decide_eq_false (by omega)
    clear h1
    go_enter Try.func11, Try.ntmps11
    go_wp2
    refine wp_loop_rounds 2 ?_
    rw [rounds_succ]
    go_wp2
    rw [rounds_succ]
    go_wp2
    go_ret
    exact ⟨ret_bool (by rw [← HR.out, HF.out]), rfl⟩
  · have HF : Hid (fewB n = false) := hid (by unfold fewB; simp; omega)
    have tna : decide (200 < n) = true := decide_eq_true (by omega)
    have una : decide (200 < (n : Int)) = true := decide_eq_true (by omega)
    have tnb : decide (n < 4096) = true := decide_eq_true (by omega)
    have unb : decide ((n : Int) < 4096) = true := decide_eq_true (by omega)
    have tnc : decide (4200 < n) = false := decide_eq_false (by omega)
    have unc : decide (4200 < (n : Int)) = false := decide_eq_false (by omega)
    clear h1
    go_enter Try.func11, Try.ntmps11
    go_wp2
    refine wp_loop_rounds 2 ?_
    rw [rounds_succ]
    go_wp2
    go_ret
    exact ⟨ret_bool (by rw [← HR.out, HF.out]), rfl⟩
  · have HF : Hid (fewB n = true) := hid (by unfold fewB; simp; omega)
    have tna : decide (200 < n) = true := decide_eq_true (by omega)
    have una : decide (200 < (n : Int)) = true := decide_eq_true (by omega)
    have tnb : decide (n < 4096) = false := decide_eq_false (by omega)
    have unb : decide ((n : Int) < 4096) = false := decide_eq_false (by omega)
    have tnc : decide (4200 < n) = false := decide_eq_false (by omega)
    have unc : decide (4200 < (n : Int)) = false := decide_eq_false (by omega)
    clear h1
    go_enter Try.func11, Try.ntmps11
    go_wp2
    refine wp_loop_rounds 2 ?_
    rw [rounds_succ]
    go_wp2
    rw [rounds_succ]
    go_wp2
    go_ret
    exact ⟨ret_bool (by rw [← HR.out, HF.out]), rfl⟩
  · have HF : Hid (fewB n = false) := hid (by unfold fewB; simp; omega)
    have tna : decide (200 < n) = true := decide_eq_true (by omega)
    have una : decide (200 < (n : Int)) = true := decide_eq_true (by omega)
    have tnb : decide (n < 4096) = false := decide_eq_false (by omega)
    have unb : decide ((n : Int) < 4096) = false := decide_eq_false (by omega)
    have tnc : decide (4200 < n) = true := decide_eq_true (by omega)
    have unc : decide (4200 < (n : Int)) = true := decide_eq_true (by omega)
    clear h1
    go_enter Try.func11, Try.ntmps11
    go_wp2
    refine wp_loop_rounds 2 ?_
    rw [rounds_succ]
    go_wp2
    go_ret
    exact ⟨ret_bool (by rw [← HR.out, HF.out]), rfl⟩
set_option maxHeartbeats 2000000 in
theorem few_2 (g n c m d : Nat) (A D : Option Addr) (w : World) (hn : n ≤ 9223372036854775807) (hm : m ≤ 9223372036854775807) (hc : w.cell? ⟨g, 0, none⟩ = some (.slice A n c)) (hd : w.cell? ⟨g, 1, none⟩ = some (.slice D m d)) (r : Bool) (hr : (fewB n && fewB m) = r) : Calls Try.prog 11 #[.slice (some ⟨g, 0, none⟩) 2 2] w fun e w' => e = .returned (.bool r) ∧ w = w' := by
  have HR : Hid ((fewB n && fewB m) = r) := hid hr
  clear hr
  rcases (show n ≤ 200 ∨ (200 < n ∧ n < 4096) ∨ (4096 ≤ n ∧ n ≤ 4200) ∨ 4200 < n by omega) with h1 | h1 | h1 | h1
  · have HF : Hid (fewB n = true) := hid (by unfold fewB; simp; omega)
    have tna : decide (200 < n) = false := decide_eq_false (by omega)
    have una : decide (200 < (n : Int)) = false := decide_eq_false (by omega)
    have tnb : decide (n < 4096) = true := decide_eq_true (by omega)
    have unb : decide ((n : Int) < 4096) = true := decide_eq_true (by omega)
    have tnc : decide (4200 < n) = false := decide_eq_false (by omega)
    have unc : decide (4200 < (n : Int)) = false := decide_eq_false (by omega)
    clear h1
    rcases (show m ≤ 200 ∨ (200 < m ∧ m < 4096) ∨ (4096 ≤ m ∧ m ≤ 4200) ∨ 4200 < m by omega) with h1 | h1 | h1 | h1
    · have HG : Hid (fewB m = true) := hid (by unfold fewB; simp; omega)
      have tma : decide (200 < m) = false := decide_eq_false (by omega)
      have uma : decide (200 < (m : Int)) = false := decide_eq_false (by omega)
      have tmb : decide (m < 4096) = true := decide_eq_true (by omega)
      have umb : decide ((m : Int) < 4096) = true := decide_eq_true (by omega)
      have tmc : decide (4200 < m) = false := decide_eq_false (by omega)
      have umc : decide (4200 < (m : Int)) = false := decide_eq_false (by omega)
      clear h1
      go_enter Try.func11, Try.ntmps11
      go_wp2
      refine wp_loop_rounds 3 ?_
      rw [rounds_succ]
      go_wp2
      rw [rounds_succ]
      go_wp2
      rw [rounds_succ]
      go_wp2
      go_ret
      exact ⟨ret_bool (by rw [← HR.out, HF.out, HG.out]; rfl), rfl⟩
    · have HG : Hid (fewB m = false) := hid (by unfold fewB; simp; omega)
      have tma : decide (200 < m) = true := decide_eq_true (by omega)
      have uma : decide (200 < (m : Int)) = true := decide_eq_true (by omega)
      have tmb : decide (m < 4096) = true := decide_eq_true (by omega)
      have umb : decide ((m : Int) < 4096) = true := decide_eq_true (by omega)
      have tmc : decide (4200 < m) = false := decide_eq_false (by omega)
      have umc : decide (4200 < (m : Int)) = false := decide_eq_false (by omega)
      clear h1
      go_enter Try.func11, Try.ntmps11
      go_wp2
      refine wp_loop_rounds 3 ?_
      rw [rounds_succ]
      go_wp2
      rw [rounds_succ]
      go_wp2
      go_ret
      exact ⟨ret_bool (by rw [← HR.out, HF.out, HG.out]; rfl), rfl⟩
    · have HG : Hid (fewB m = true) := hid (by unfold fewB; simp; omega)
      have tma : decide (200 < m) = true := decide_eq_true (by omega)
      have uma : decide (200 < (m : Int)) = true := decide_eq_true (by omega)
      have tmb : decide (m < 4096) = false := decide_eq_false (by omega)
      have umb : decide ((m : Int) < 4096) = false := decide_eq_false (by omega)
      have tmc : decide (4200 < m) = false := decide_eq_false (by omega)
      have umc : decide (4200 < (m : Int)) = false := decide_eq_false (by omega)
      clear h1
      go_enter Try.func11, Try.ntmps11
      go_wp2
      refine wp_loop_rounds 3 ?_
      rw [rounds_succ]
      go_wp2
      rw [rounds_succ]
      go_wp2
      rw [rounds_succ]
      go_wp2
      go_ret
      exact ⟨ret_bool (by rw [← HR.out, HF.out, HG.out]; rfl), rfl⟩
    · have HG : Hid (fewB m = false) := hid (by unfold fewB; simp; omega)
      have tma : decide (200 < m) = true := decide_eq_true (by omega)
      have uma : decide (200 < (m : Int)) = true := decide_eq_true (by omega)
      have tmb : decide (m < 4096) = false := decide_eq_false (by omega)
      have umb : decide ((m : Int) < 4096) = false := decide_eq_false (by omega)
      have tmc : decide (4200 < m) = true := decide_eq_true (by omega)
      have umc : decide (4200 < (m : Int)) = true := decide_eq_true (by omega)
      clear h1
      go_enter Try.func11, Try.ntmps11
      go_wp2
      refine wp_loop_rounds 3 ?_
      rw [rounds_succ]
      go_wp2
      rw [rounds_succ]
      go_wp2
      go_ret
      exact ⟨ret_bool (by rw [← HR.out, HF.out, HG.out]; rfl), rfl⟩
  · have HF : Hid (fewB n = false) := hid (by unfold fewB; simp; omega)
    have tna : decide (200 < n) = true := decide_eq_true (by omega)
    have una : decide (200 < (n : Int)) = true := decide_eq_true (by omega)
    have tnb : decide (n < 4096) = true := decide_eq_true (by omega)
    have unb : decide ((n : Int) < 4096) = true := decide_eq_true (by omega)
    have tnc : decide (4200 < n) = false := decide_eq_false (by omega)
    have unc : decide (4200 < (n : Int)) = false := decide_eq_false (by omega)
    clear h1
    go_enter Try.func11, Try.ntmps11
    go_wp2
    refine wp_loop_rounds 3 ?_
    rw [rounds_succ]
    go_wp2
    go_ret
    exact ⟨ret_bool (by rw [← HR.out, HF.out]; rfl), rfl⟩
  · have HF : Hid (fewB n = true) := hid (by unfold fewB; simp; omega)
    have tna : decide (200 < n) = true := decide_eq_true (by omega)
    have una : decide (200 < (n : Int)) = true := decide_eq_true (by omega)
    have tnb : decide (n < 4096) = false := decide_eq_false (by omega)
    have unb : decide ((n : Int) < 4096) = false := decide_eq_false (by omega)
    have tnc : decide (4200 < n) = false := decide_eq_false (by omega)
    have unc : decide (4200 < (n : Int)) = false := decide_eq_false (by omega)
    clear h1
    rcases (show m ≤ 200 ∨ (200 < m ∧ m < 4096) ∨ (4096 ≤ m ∧ m ≤ 4200) ∨ 4200 < m by omega) with h1 | h1 | h1 | h1
    · have HG : Hid (fewB m = true) := hid (by unfold fewB; simp; omega)
      have tma : decide (200 < m) = false := decide_eq_false (by omega)
      have uma : decide (200 < (m : Int)) = false := decide_eq_false (by omega)
      have tmb : decide (m < 4096) = true := decide_eq_true (by omega)
      have umb : decide ((m : Int) < 4096) = true := decide_eq_true (by omega)
      have tmc : decide (4200 < m) = false := decide_eq_false (by omega)
      have umc : decide (4200 < (m : Int)) = false := decide_eq_false (by omega)
      clear h1
      go_enter Try.func11, Try.ntmps11
      go_wp2
      refine wp_loop_rounds 3 ?_
      rw [rounds_succ]
      go_wp2
      rw [rounds_succ]
      go_wp2
      rw [rounds_succ]
      go_wp2
      go_ret
      exact ⟨ret_bool (by rw [← HR.out, HF.out, HG.out]; rfl), rfl⟩
    · have HG : Hid (fewB m = false) := hid (by unfold fewB; simp; omega)
      have tma : decide (200 < m) = true := decide_eq_true (by omega)
      have uma : decide (200 < (m : Int)) = true := decide_eq_true (by omega)
      have tmb : decide (m < 4096) = true := decide_eq_true (by omega)
      have umb : decide ((m : Int) < 4096) = true := decide_eq_true (by omega)
      have tmc : decide (4200 < m) = false := decide_eq_false (by omega)
      have umc : decide (4200 < (m : Int)) = false := decide_eq_false (by omega)
      clear h1
      go_enter Try.func11, Try.ntmps11
      go_wp2
      refine wp_loop_rounds 3 ?_
      rw [rounds_succ]
      go_wp2
      rw [rounds_succ]
      go_wp2
      go_ret
      exact ⟨ret_bool (by rw [← HR.out, HF.out, HG.out]; rfl), rfl⟩
    · have HG : Hid (fewB m = true) := hid (by unfold fewB; simp; omega)
      have tma : decide (200 < m) = true := decide_eq_true (by omega)
      have uma : decide (200 < (m : Int)) = true := decide_eq_true (by omega)
      have tmb : decide (m < 4096) = false := decide_eq_false (by omega)
      have umb : decide ((m : Int) < 4096) = false := decide_eq_false (by omega)
      have tmc : decide (4200 < m) = false := decide_eq_false (by omega)
      have umc : decide (4200 < (m : Int)) = false := decide_eq_false (by omega)
      clear h1
      go_enter Try.func11, Try.ntmps11
      go_wp2
      refine wp_loop_rounds 3 ?_
      rw [rounds_succ]
      go_wp2
      rw [rounds_succ]
      go_wp2
      rw [rounds_succ]
      go_wp2
      go_ret
      exact ⟨ret_bool (by rw [← HR.out, HF.out, HG.out]; rfl), rfl⟩
    · have HG : Hid (fewB m = false) := hid (by unfold fewB; simp; omega)
      have tma : decide (200 < m) = true := decide_eq_true (by omega)
      have uma : decide (200 < (m : Int)) = true := decide_eq_true (by omega)
      have tmb : decide (m < 4096) = false := decide_eq_false (by omega)
      have umb : decide ((m : Int) < 4096) = false := decide_eq_false (by omega)
      have tmc : decide (4200 < m) = true := decide_eq_true (by omega)
      have umc : decide (4200 < (m : Int)) = true := decide_eq_true (by omega)
      clear h1
      go_enter Try.func11, Try.ntmps11
      go_wp2
      refine wp_loop_rounds 3 ?_
      rw [rounds_succ]
      go_wp2
      rw [rounds_succ]
      go_wp2
      go_ret
      exact ⟨ret_bool (by rw [← HR.out, HF.out, HG.out]; rfl), rfl⟩
  · have HF : Hid (fewB n = false) := hid (by unfold fewB; simp; omega)
    have tna : decide (200 < n) = true := decide_eq_true (by omega)
    have una : decide (200 < (n : Int)) = true := decide_eq_true (by omega)
    have tnb : decide (n < 4096) = false := decide_eq_false (by omega)
    have unb : decide ((n : Int) < 4096) = false := decide_eq_false (by omega)
    have tnc : decide (4200 < n) = true := decide_eq_true (by omega)
    have unc : decide (4200 < (n : Int)) = true := decide_eq_true (by omega)
    clear h1
    go_enter Try.func11, Try.ntmps11
    go_wp2
    refine wp_loop_rounds 3 ?_
    rw [rounds_succ]
    go_wp2
    go_ret
    exact ⟨ret_bool (by rw [← HR.out, HF.out]; rfl), rfl⟩
end Go.Proofs.Ytopdklmhiglehaa
