/-
  Contracts of the document's own Check, and of its Line; under no condition but forests of at most 209,715 statements.
-/
import Derived.Test.YtkfnkieljcipnaaGreatDoorZXA
import Derived.Test.YtkfnkieljcipnaaGreatDoorK8
import Derived.Test.YtkfnkieljcipnaaGreatDoorZSB
import Derived.Test.YtkfnkieljcipnaaGreatDoorZMU
import Derived.Test.YtkfnkieljcipnaaGreatDoorZWE
namespace Go.Proofs.YtkfnkieljcipnaaGreatDoor
open Go Go.RowKit Go.Joins

theorem okA_of : ∀ (f : Fo) (k : Int), f.eachB = true → (f.depth : Int) ≤ k → f.okA k
  | .nil, _, _, _ => trivial
  | .cons wd ns bl y n, k, h, hd => by
    simp only [Fo.eachB, Bool.and_eq_true, Bool.not_eq_true', decide_eq_true_eq] at h
    obtain ⟨⟨⟨⟨⟨h1, h2⟩, h3⟩, h4⟩, h5⟩, h6⟩ := h
    simp only [Fo.depth] at hd
    refine ⟨by simp only [fitB, h1, h5, decide_eq_true h2, Bool.not_false, Bool.true_and]; exact h3, fun hb => ?_, okA_of y (k - 1) h4 (by split at hd <;> omega), okA_of n k h6 (by omega)⟩
    subst hb
    simp at hd
    omega
theorem of_okA : ∀ (f : Fo) (k : Int), f.okA k → 1 ≤ k → f.eachB = true ∧ (f.depth : Int) ≤ k
  | .nil, k, _, hk => ⟨rfl, by simp [Fo.depth]; omega⟩
  | .cons wd ns bl y n, k, h, hk => by
    obtain ⟨h1, h2, h3, h4⟩ := h
    obtain ⟨a1, a2, a3, a4⟩ := fit_of h1
    obtain ⟨n1, n2⟩ := of_okA n k h4 hk
    cases bl with
    | true =>
      have := h2 rfl
      obtain ⟨y1, y2⟩ := of_okA y (k - 1) h3 (by omega)
      refine ⟨by simp [Fo.eachB, a1, a2, a3, y1, n1], ?_⟩
      simp only [Fo.depth, if_true]
      omega
    | false =>
      have hy : y = .nil := by
        match y, a4 rfl with
        | .nil, _ => rfl
      subst hy
      refine ⟨by simp [Fo.eachB, a1, a2, a3, n1, Fo.len], ?_⟩
      simp only [Fo.depth, Bool.false_eq_true, if_false]
      omega
def rchk (f : Fo) : Bool := decide ((2000 : Int) < (f.count : Nat)) || (decide ((6 : Int) < (f.depth : Nat)) || !f.eachB)
theorem rchk_is (f : Fo) : chkE f = if rchk f = true then 1 else 0 := by
  rcases chk_01 f with h | h
  · obtain ⟨h1, h2⟩ := chk_ok h
    obtain ⟨h3, h4⟩ := of_okA f 6 h1 (by decide)
    have : rchk f = false := by
      unfold rchk
      rw [decide_eq_false (by omega), decide_eq_false (by omega), h3]; rfl
    rw [h, this]; rfl
  · have : rchk f = true := by
      cases hr : rchk f with
      | true => rfl
      | false =>
        unfold rchk at hr
        simp only [Bool.or_eq_false_iff, decide_eq_false_iff_not, Bool.not_eq_false'] at hr
        have h1 := okA_of f 6 hr.2.2 (by omega)
        rw [ok_chk h1 (by omega)] at h
        cases h
    rw [h, this]; rfl
set_option maxRecDepth 100000 in
theorem rcheck_any (f : Fo) (w : World) (K : Nat → Prop) (A : Option Addr) (n c : Nat) (ht : TrS w K A n f) (hL : f.okL) (hS : f.okS) (hc : f.count ≤ 209715) :
    Calls Tryz.prog 21 #[.slice A n c] w fun e w' => e = .returned (.int .i64 (chkE f : Nat)) ∧ Below w.heap.size w w' := by
  have HC := hid (fun w1 (hb : Below w.heap.size w w1) => rcount_any f w1 K A n c (ht.below hb) (by omega))
  have HD := hid (fun w1 (hb : Below w.heap.size w w1) => rdepth_any f w1 K A n c (ht.below hb) (by omega))
  have HE := hid (fun w1 (hb : Below w.heap.size w w1) => each_any f w1 K A n c (ht.below hb) hL hS)
  rw [rchk_is]
  have HR := hid (show rchk f = (decide ((2000 : Int) < (f.count : Nat)) || (decide ((6 : Int) < (f.depth : Nat)) || !f.eachB)) from rfl)
  generalize rchk f = R at *
  generalize f.count = C at *
  generalize f.depth = D at *
  generalize f.eachB = E at *
  clear ht hL hS hc
  by_cases h1 : (2000 : Int) < (C : Nat)
  · obtain rfl : R = true := by rw [HR.out, decide_eq_true h1]; rfl
    go_enter Tryz.func21, Tryz.ntmps21
    go_wp2_with (go_at_call 17; refine (HC.out w (Below.refl _ _)).mono ?_; rintro e w1 ⟨rfl, b⟩; have B1 := hid b; clear b)
    go_ret
    exact ⟨rfl, B1.out⟩
  by_cases h2 : (6 : Int) < (D : Nat)
  · obtain rfl : R = true := by rw [HR.out, decide_eq_true h2]; simp
    go_enter Tryz.func21, Tryz.ntmps21
    go_wp2_with (first
      | (go_at_call 24; refine (HD.out w1 B1.out).mono ?_; rintro e w2 ⟨rfl, b⟩; have B2 := hid (B1.out.trans (b.mono B1.out.size)); clear b)
      | (go_at_call 17; refine (HC.out w (Below.refl _ _)).mono ?_; rintro e w1 ⟨rfl, b⟩; have B1 := hid b; clear b))
    go_ret
    exact ⟨rfl, B2.out⟩
  obtain rfl : R = !E := by rw [HR.out, decide_eq_false h1, decide_eq_false h2]; rfl
  cases E
  all_goals
    go_enter Tryz.func21, Tryz.ntmps21
    go_wp2_with (first
      | (go_at_call 45; refine (HE.out w2 B2.out).mono ?_; rintro e w3 ⟨rfl, b⟩; have B3 := hid (B2.out.trans (b.mono B2.out.size)); clear b)
      | (go_at_call 24; refine (HD.out w1 B1.out).mono ?_; rintro e w2 ⟨rfl, b⟩; have B2 := hid (B1.out.trans (b.mono B1.out.size)); clear b)
      | (go_at_call 17; refine (HC.out w (Below.refl _ _)).mono ?_; rintro e w1 ⟨rfl, b⟩; have B1 := hid b; clear b))
    go_ret
    exact ⟨rfl, B3.out⟩
end Go.Proofs.YtkfnkieljcipnaaGreatDoor
