/-
  The document's Delays, the statements' few: what they answer. What is asked: what each head says.
-/
import Derived.Test.YtjmkhhmibkiijaaE
namespace Go.Proofs.Ytjmkhhmibkiijaa
open Go Go.RowKit

theorem delE_row {m : Nat} {rs : List Ro} (hl : rs.length = m) {i : Nat} (hi : i < m) (h : rowW m rs i = true) : delE (m : Int) rs = 1 := by
  unfold delE delB; rw [hl, anyB_yes hi h]; simp
theorem rowW_len {m : Nat} {rs : List Ro} {i : Nat} (h : (rth rs i).n ≠ m) : rowW m rs i = true := by
  unfold rowW; simp [h]
theorem rowW_in {m : Nat} {rs : List Ro} {i k : Nat} (hk : k < m) (h : mb (i : Int) (k : Int) (zth (rth rs i).zs k) = false) : rowW m rs i = true := by
  unfold rowW; rw [anyB_yes hk (by unfold inW; rw [h]; rfl)]; simp
theorem rowW_ok {m : Nat} {rs : List Ro} {i : Nat} (h : (rth rs i).n = m) (h2 : ∀ k, k < m → mb (i : Int) (k : Int) (zth (rth rs i).zs k) = true) : rowW m rs i = false := by
  unfold rowW; rw [anyB_no fun k hk => by unfold inW; rw [h2 k hk]; rfl]; simp [h]
theorem delE_ok {m : Nat} {rs : List Ro} (hl : rs.length = m) (h1 : 1 ≤ m) (h2 : m ≤ 16) (h : ∀ i, i < m → rowW m rs i = false) : delE (m : Int) rs = 0 := by
  unfold delE delB; rw [hl, anyB_no h]; simp; omega
set_option maxRecDepth 100000 in
set_option maxHeartbeats 4000000 in
theorem rdelays_any (A : Option Addr) (m c B : Nat) (n : Int) (rs : List Ro) (w : World) (ha : Mx w B A m rs) (hB : B ≤ w.heap.size) (hm : m ≤ 9223372036854775807) :
    Calls Try.prog 13 #[.int .i64 n, .slice A m c] w fun e w' => e = .returned (.int .i64 (delE n rs)) ∧ Below w.heap.size w w' := by
  have HL := hid ha.len
  have HE : Hid (delE n rs = if delB n rs then 0 else 1) := hid rfl
  have HD : Hid (delB n rs = ((decide (1 ≤ n) && decide (n ≤ 16)) && (decide ((m : Int) = n) && !anyB (rowW m rs) m))) := hid (by unfold delB; rw [HL.out])
  by_cases h1 : n < 1
  · generalize delE n rs = E at *
    have hd1 : decide (n < 1) = true := decide_eq_true h1
    rw [HD.out, decide_eq_false (by omega : ¬ 1 ≤ n)] at HE
    clear h1
    go_enter Try.func13, Try.ntmps13
    go_wp2
    go_ret
    exact ⟨ret_int (by rw [HE.out]; rfl), Below.refl _ _⟩
  have hd1 : decide (n < 1) = false := decide_eq_false h1
  by_cases h2 : 16 < n
  · generalize delE n rs = E at *
    have hd2 : decide (16 < n) = true := decide_eq_true h2
    rw [HD.out, decide_eq_false (by omega : ¬ n ≤ 16), Bool.and_false] at HE
    clear h1 h2
    go_enter Try.func13, Try.ntmps13
    go_wp2
    go_ret
    exact ⟨ret_int (by rw [HE.out]; rfl), Below.refl _ _⟩
  have hd2 : decide (16 < n) = false := decide_eq_false h2
  by_cases h3 : (m : Int) = n
  · subst h3
    have hm1 : 1 ≤ m := by omega
    have hm16 : m ≤ 16 := by omega
    have HA := hid ha
    have HNO : Hid (∀ i, i < m → rowW m rs i = true → delE (m : Int) rs = 1) := hid fun i hi h => delE_row HL.out hi h
    have HOK : Hid ((∀ i, i < m → rowW m rs i = false) → delE (m : Int) rs = 0) := hid fun h => delE_ok HL.out hm1 hm16 h
    obtain ⟨b, o, rfl, hb, hc⟩ := ha.all (by omega)
    have HC := hid hc
    have hne : ((m : Int) != (m : Int)) = false := by simp
    generalize delE (m : Int) rs = E at *
    clear ha hc hb h1 h2 HE HD
    go_enter Try.func13, Try.ntmps13
    go_wp2
    go_loopw [23] (fun t wr => ∃ i : Nat, t = .int .i64 (i : Int) ∧ i ≤ m ∧ wr = w ∧ ∀ j, j < i → rowW m rs j = false) (fun t _ => m - (intOf t).toNat)
    case atStart => exact ⟨0, rfl, by omega, rfl, fun j hj => by omega⟩
    case round =>
      obtain ⟨i, rfl, hi, rfl, hok⟩ := hrel
      have HO := hid hok
      clear hok
      by_cases hlt : i < m
      · have hr := HC.out i hlt
        have hi' : (i : Int) < (m : Int) := by omega
        have HRR : Hid (Row wr B (rth rs i).A (rth rs i).n (sv (rth rs i).zs)) := hid (HA.out.2 _ (rth_mem (by rw [HL.out]; exact hlt)))
        by_cases hq : (rth rs i).n = m
        · obtain ⟨b2, o2, h2, hb2, hz⟩ := zrow_all HRR.out (by omega)
          have HQ := hid hq
          rw [hq] at hr hz
          rw [h2] at hr
          have HZ := hid hz
          have HIN : Hid (∀ k, k < m → mb (i : Int) (k : Int) (zth (rth rs i).zs k) = false → E = 1) := hid fun k hk h => HNO.out i hlt (rowW_in hk h)
          have HIK : Hid ((∀ k, k < m → mb (i : Int) (k : Int) (zth (rth rs i).zs k) = true) → ∀ j, j < i + 1 → rowW m rs j = false) := hid fun h j hj => by
            by_cases e : j = i
            · subst e; exact rowW_ok HQ.out h
            · exact HO.out j (by omega)
          clear hz hb2 h2 hq HRR
          generalize rth rs i = r at *
          go_wp2
          go_loopw [34] (fun t wr' => ∃ k : Nat, t = .int .i64 (k : Int) ∧ k ≤ m ∧ wr' = wr ∧ ∀ j, j < k → mb (i : Int) (j : Int) (zth r.zs j) = true) (fun t _ => m - (intOf t).toNat)
          case atStart => exact ⟨0, rfl, by omega, rfl, fun j hj => by omega⟩
          case round =>
            obtain ⟨k, rfl, hk, rfl, hin⟩ := hrel
            have HI := hid hin
            clear hin
            by_cases hlk : k < m
            · have hzk := HZ.out k hlk
              have hk' : (k : Int) < (m : Int) := by omega
              have HX : Hid (mb (i : Int) (k : Int) (zth r.zs k) = false → E = 1) := hid (HIN.out k hlk)
              have HY : Hid (mb (i : Int) (k : Int) (zth r.zs k) = true → ∀ j, j < k + 1 → mb (i : Int) (j : Int) (zth r.zs j) = true) := hid fun h j hj => by
                by_cases e : j = k
                · subst e; exact h
                · exact HI.out j (by omega)
              generalize zth r.zs k = z at *
              by_cases z1 : z < 0
              · have d1 : decide (z < 0) = true := decide_eq_true z1
                have HN : Hid (E = 1) := hid (HX.out (by unfold mb; split <;> simp <;> omega))
                clear z1
                go_wp2
                go_ret
                exact ⟨ret_int HN.out.symm, Below.refl _ _⟩
              have d1 : decide (z < 0) = false := decide_eq_false z1
              by_cases z2 : 1099511627776 < z
              · have d2 : decide (1099511627776 < z) = true := decide_eq_true z2
                have HN : Hid (E = 1) := hid (HX.out (by unfold mb; split <;> simp <;> omega))
                clear z1 z2
                go_wp2
                go_ret
                exact ⟨ret_int HN.out.symm, Below.refl _ _⟩
              have d2 : decide (1099511627776 < z) = false := decide_eq_false z2
              by_cases hik : i = k
              · have d3 : ((i : Int) == (k : Int)) = true := by simp [hik]
                by_cases hz0 : z = 0
                · have d4 : (z != 0) = false := by simp [hz0]
                  have HN := hid (HY.out (by unfold mb; rw [if_pos (by omega)]; simp [hz0]))
                  clear z1 z2 hz0 hik
                  go_wp2
                  exact ⟨⟨k + 1, by go_num, by omega, trivial, HN.out⟩, by simp [intOf]; omega⟩
                · have d4 : (z != 0) = true := by simp [hz0]
                  have HN : Hid (E = 1) := hid (HX.out (by unfold mb; rw [if_pos (by omega)]; simp [hz0]))
                  clear z1 z2 hz0 hik
                  go_wp2
                  go_ret
                  exact ⟨ret_int HN.out.symm, Below.refl _ _⟩
              · have d3 : ((i : Int) == (k : Int)) = false := by simp; omega
                have HN := hid (HY.out (by unfold mb; rw [if_neg (by omega)]; simp; omega))
                clear z1 z2 hik
                go_wp2
                exact ⟨⟨k + 1, by go_num, by omega, trivial, HN.out⟩, by simp [intOf]; omega⟩
            · have HN := hid (HIK.out fun j hj => HI.out j (by omega))
              go_wp2
              exact ⟨⟨i + 1, by go_num, by omega, trivial, HN.out⟩, by simp [intOf]; omega⟩
        · have HN : Hid (E = 1) := hid (HNO.out i hlt (rowW_len hq))
          have hne2 : (((rth rs i).n : Int) != (m : Int)) = true := by simp; omega
          generalize rth rs i = r at *
          clear hq
          go_wp2
          go_ret
          exact ⟨ret_int HN.out.symm, Below.refl _ _⟩
      · have HN : Hid (E = 0) := hid (HOK.out fun j hj => HO.out j (by omega))
        go_wp2
        go_ret
        exact ⟨ret_int HN.out.symm, Below.refl _ _⟩
  · generalize delE n rs = E at *
    have hd3 : ((m : Int) != n) = true := by simp; omega
    rw [HD.out, decide_eq_false h3, Bool.false_and, Bool.and_false] at HE
    clear h1 h2 h3
    go_enter Try.func13, Try.ntmps13
    go_wp2
    go_ret
    exact ⟨ret_int (by rw [HE.out]; rfl), Below.refl _ _⟩
/-- Few enough to be played. -/
def dfew (rs : List Ro) : Bool := rs.all (fun r => decide (r.n ≤ 40)) && decide (rs.length ≤ 40)
theorem dfew_all {rs : List Ro} (h : ∀ i, i < rs.length → (rth rs i).n ≤ 40) : rs.all (fun x => decide (x.n ≤ 40)) = true := by
  rw [List.all_eq_true]
  intro x hx
  obtain ⟨i, hi, rfl⟩ := List.getElem_of_mem hx
  have := h i hi
  have e : rth rs i = rs[i] := by simp [rth, List.getD, hi]
  rw [e] at this
  simpa using this
theorem dfew_no {rs : List Ro} {i : Nat} (hi : i < rs.length) (h : 40 < (rth rs i).n) : dfew rs = false := by
  have : rs.all (fun x => decide (x.n ≤ 40)) = false := by
    rw [List.all_eq_false]; exact ⟨rth rs i, rth_mem hi, by simp; omega⟩
  simp [dfew, this]
set_option maxHeartbeats 2000000 in
theorem dfew_any (A : Option Addr) (m c B : Nat) (rs : List Ro) (w : World) (ha : Mx w B A m rs) (hm : m ≤ 9223372036854775807) :
    Calls Try.prog 9 #[.slice A m c] w fun e w' => e = .returned (.bool (dfew rs)) ∧ w = w' := by
  have HA := hid ha
  have HL := hid ha.len
  clear ha
  go_enter Try.func9, Try.ntmps9
  go_wp2
  go_loopw [7] (fun t wr => ∃ i : Nat, t = .int .i64 (i : Int) ∧ i ≤ m ∧ wr = w ∧ ∀ j, j < i → (rth rs j).n ≤ 40) (fun t _ => m - (intOf t).toNat)
  case atStart => exact ⟨0, rfl, by omega, rfl, fun j hj => by omega⟩
  case round =>
    obtain ⟨i, rfl, hi, rfl, hok⟩ := hrel
    have HO := hid hok
    clear hok
    by_cases hlt : i < m
    · obtain ⟨b, o, rfl, hb, hc⟩ := HA.out.all (by omega)
      have hr := hc i hlt
      have hi' : (i : Int) < (m : Int) := by omega
      have HX : Hid (40 < (rth rs i).n → dfew rs = false) := hid (dfew_no (by rw [HL.out]; exact hlt))
      have HY : Hid ((rth rs i).n ≤ 40 → ∀ j, j < i + 1 → (rth rs j).n ≤ 40) := hid fun h j hj => by
        by_cases e : j = i
        · subst e; exact h
        · exact HO.out j (by omega)
      clear hc
      generalize rth rs i = r at *
      by_cases h4 : 40 < r.n
      · have d : decide ((40 : Int) < (r.n : Int)) = true := decide_eq_true (by omega)
        have HN := hid (HX.out h4)
        clear h4
        go_wp2
        go_ret
        exact ⟨ret_bool HN.out.symm, rfl⟩
      · have d : decide ((40 : Int) < (r.n : Int)) = false := decide_eq_false (by omega)
        have HN := hid (HY.out (by omega))
        clear h4
        go_wp2
        exact ⟨⟨i + 1, by go_num, by omega, trivial, HN.out⟩, by simp [intOf]; omega⟩
    · have HN : Hid (dfew rs = decide ((m : Int) ≤ 40)) := hid (by
        unfold dfew
        rw [dfew_all (fun j hj => HO.out j (by rw [HL.out] at hj; omega)), Bool.true_and, HL.out]
        by_cases h : m ≤ 40
        · rw [decide_eq_true h, decide_eq_true (by omega)]
        · rw [decide_eq_false h, decide_eq_false (by omega)])
      go_wp2
      go_ret
      exact ⟨ret_bool HN.out.symm, rfl⟩
end Go.Proofs.Ytjmkhhmibkiijaa
