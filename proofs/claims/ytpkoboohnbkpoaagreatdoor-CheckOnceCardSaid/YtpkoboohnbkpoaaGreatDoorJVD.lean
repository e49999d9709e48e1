/-
  What palletref17.World tells.
-/
import Derived.Test.YtpkoboohnbkpoaaGreatDoorJVB
import Derived.Test.YtpkoboohnbkpoaaGreatDoorK9
namespace Go.Proofs.YtpkoboohnbkpoaaGreatDoor
open Go Go.RowKit Go.Maps

theorem tl_strB (l : List UInt8) : (strB l).toList = l := by rw [ByteArray.toList_eq]; rfl
theorem eq_dec (u v : List UInt8) : (u == v) = decide (u = v) := by by_cases h : u = v <;> simp [h]
set_option maxRecDepth 100000 in
set_option maxHeartbeats 1000000 in
theorem world17_any (xw : List UInt8) (w : World) : Calls Tryz.prog 37 #[.string (strB xw)] w fun e w' => e = .returned (.bool (St.world ⟨xw, [], false⟩)) ∧ Below w.heap.size w w' := by
  have q0 : ([110, 111, 100, 101, 115] == (strB xw).toList) = decide (wNodes = xw) := by rw [tl_strB, eq_dec]; rfl
  have q1 : ([116, 105, 99, 107] == (strB xw).toList) = decide (wTick = xw) := by rw [tl_strB, eq_dec]; rfl
  have q2 : ([115, 108, 111, 116] == (strB xw).toList) = decide (wSlot = xw) := by rw [tl_strB, eq_dec]; rfl
  have q3 : ([104, 111, 114, 105, 122, 111, 110] == (strB xw).toList) = decide (wHorizon = xw) := by rw [tl_strB, eq_dec]; rfl
  have q4 : ([100, 114, 105, 102, 116] == (strB xw).toList) = decide (wDrift = xw) := by rw [tl_strB, eq_dec]; rfl
  have q5 : ([100, 101, 108, 97, 121] == (strB xw).toList) = decide (wDelay = xw) := by rw [tl_strB, eq_dec]; rfl
  have q6 : ([112, 111, 119, 101, 114] == (strB xw).toList) = decide (wPower = xw) := by rw [tl_strB, eq_dec]; rfl
  have q7 : ([103, 117, 97, 114, 100] == (strB xw).toList) = decide (wGuard = xw) := by rw [tl_strB, eq_dec]; rfl
  have HW := hid (show St.world ⟨xw, [], false⟩ = true → xw = wNodes ∨ xw = wTick ∨ xw = wSlot ∨ xw = wHorizon ∨ xw = wDrift ∨ xw = wDelay ∨ xw = wPower ∨ xw = wGuard from fun h => word_world h)
  by_cases h0 : wNodes = xw
  · have HV : Hid (St.world ⟨xw, [], false⟩ = true) := hid (by rw [← h0]; rfl)
    rw [decide_eq_true h0] at q0
    generalize St.world ⟨xw, [], false⟩ = R at *
    clear HW h0
    go_enter Tryz.func37, Tryz.ntmps37
    go_wp2
    refine wp_loop_rounds 1 ?_
    iterate 1 (rw [rounds_succ]; go_wp2)
    go_ret
    exact ⟨ret_bool HV.out.symm, (Below.refl _ _).alloc (Nat.le_refl _) _⟩
  rw [decide_eq_false h0] at q0
  by_cases h1 : wTick = xw
  · have HV : Hid (St.world ⟨xw, [], false⟩ = true) := hid (by rw [← h1]; rfl)
    rw [decide_eq_true h1] at q1
    generalize St.world ⟨xw, [], false⟩ = R at *
    clear HW h1
    go_enter Tryz.func37, Tryz.ntmps37
    go_wp2
    refine wp_loop_rounds 2 ?_
    iterate 2 (rw [rounds_succ]; go_wp2)
    go_ret
    exact ⟨ret_bool HV.out.symm, (Below.refl _ _).alloc (Nat.le_refl _) _⟩
  rw [decide_eq_false h1] at q1
  by_cases h2 : wSlot = xw
  · have HV : Hid (St.world ⟨xw, [], false⟩ = true) := hid (by rw [← h2]; rfl)
    rw [decide_eq_true h2] at q2
    generalize St.world ⟨xw, [], false⟩ = R at *
    clear HW h2
    go_enter Tryz.func37, Tryz.ntmps37
    go_wp2
    refine wp_loop_rounds 3 ?_
    iterate 3 (rw [rounds_succ]; go_wp2)
    go_ret
    exact ⟨ret_bool HV.out.symm, (Below.refl _ _).alloc (Nat.le_refl _) _⟩
  rw [decide_eq_false h2] at q2
  by_cases h3 : wHorizon = xw
  · have HV : Hid (St.world ⟨xw, [], false⟩ = true) := hid (by rw [← h3]; rfl)
    rw [decide_eq_true h3] at q3
    generalize St.world ⟨xw, [], false⟩ = R at *
    clear HW h3
    go_enter Tryz.func37, Tryz.ntmps37
    go_wp2
    refine wp_loop_rounds 4 ?_
    iterate 4 (rw [rounds_succ]; go_wp2)
    go_ret
    exact ⟨ret_bool HV.out.symm, (Below.refl _ _).alloc (Nat.le_refl _) _⟩
  rw [decide_eq_false h3] at q3
  by_cases h4 : wDrift = xw
  · have HV : Hid (St.world ⟨xw, [], false⟩ = true) := hid (by rw [← h4]; rfl)
    rw [decide_eq_true h4] at q4
    generalize St.world ⟨xw, [], false⟩ = R at *
    clear HW h4
    go_enter Tryz.func37, Tryz.ntmps37
    go_wp2
    refine wp_loop_rounds 5 ?_
    iterate 5 (rw [rounds_succ]; go_wp2)
    go_ret
    exact ⟨ret_bool HV.out.symm, (Below.refl _ _).alloc (Nat.le_refl _) _⟩
  rw [decide_eq_false h4] at q4
  by_cases h5 : wDelay = xw
  · have HV : Hid (St.world ⟨xw, [], false⟩ = true) := hid (by rw [← h5]; rfl)
    rw [decide_eq_true h5] at q5
    generalize St.world ⟨xw, [], false⟩ = R at *
    clear HW h5
    go_enter Tryz.func37, Tryz.ntmps37
    go_wp2
    refine wp_loop_rounds 6 ?_
    iterate 6 (rw [rounds_succ]; go_wp2)
    go_ret
    exact ⟨ret_bool HV.out.symm, (Below.refl _ _).alloc (Nat.le_refl _) _⟩
  rw [decide_eq_false h5] at q5
  by_cases h6 : wPower = xw
  · have HV : Hid (St.world ⟨xw, [], false⟩ = true) := hid (by rw [← h6]; rfl)
    rw [decide_eq_true h6] at q6
    generalize St.world ⟨xw, [], false⟩ = R at *
    clear HW h6
    go_enter Tryz.func37, Tryz.ntmps37
    go_wp2
    refine wp_loop_rounds 7 ?_
    iterate 7 (rw [rounds_succ]; go_wp2)
    go_ret
    exact ⟨ret_bool HV.out.symm, (Below.refl _ _).alloc (Nat.le_refl _) _⟩
  rw [decide_eq_false h6] at q6
  by_cases h7 : wGuard = xw
  · have HV : Hid (St.world ⟨xw, [], false⟩ = true) := hid (by rw [← h7]; rfl)
    rw [decide_eq_true h7] at q7
    generalize St.world ⟨xw, [], false⟩ = R at *
    clear HW h7
    go_enter Tryz.func37, Tryz.ntmps37
    go_wp2
    refine wp_loop_rounds 8 ?_
    iterate 8 (rw [rounds_succ]; go_wp2)
    go_ret
    exact ⟨ret_bool HV.out.symm, (Below.refl _ _).alloc (Nat.le_refl _) _⟩
  rw [decide_eq_false h7] at q7
  have HV : Hid (St.world ⟨xw, [], false⟩ = false) := hid (by
    cases hq : St.world ⟨xw, [], false⟩ with
    | false => rfl
    | true =>
      have := HW.out hq
      rcases this with h | h | h | h | h | h | h | h
      · exact absurd h.symm h0
      · exact absurd h.symm h1
      · exact absurd h.symm h2
      · exact absurd h.symm h3
      · exact absurd h.symm h4
      · exact absurd h.symm h5
      · exact absurd h.symm h6
      · exact absurd h.symm h7)
  generalize St.world ⟨xw, [], false⟩ = R at *
  clear HW h0 h1 h2 h3 h4 h5 h6 h7
  go_enter Tryz.func37, Tryz.ntmps37
  go_wp2
  refine wp_loop_rounds 9 ?_
  iterate 9 (rw [rounds_succ]; go_wp2)
  go_ret
  exact ⟨ret_bool HV.out.symm, (Below.refl _ _).alloc (Nat.le_refl _) _⟩
end Go.Proofs.YtpkoboohnbkpoaaGreatDoor
