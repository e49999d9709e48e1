/-
  pico.May and what it calls, kernel.fits, the document's own May: whether numbers are times. No condition but that the cells hold them.
-/
import Derived.Test.YtpfidohneddgkaaKA
namespace Go.Proofs.Ytpfidohneddgkaa
open Go Go.RowKit

def timeB (x : Int) : Bool := decide (-1152921504606846976 ≤ x ∧ x ≤ 1152921504606846976)


theorem may1_yes (x : Int) (w : World) (h1 : -1152921504606846976 ≤ x) (h2 : x ≤ 1152921504606846976) : Calls Try.prog 57 #[.int .i64 x] w fun e w' => e = .returned (.bool false) ∧ w = w' := by
  go_enter Try.func57, Try.ntmps57
  go_wp2
  all_goals (go_ret; exact ⟨ret_bool (by simp; omega), rfl⟩)

theorem may1_no (x : Int) (w : World) (h1 : x < -1152921504606846976 ∨ 1152921504606846976 < x) : Calls Try.prog 57 #[.int .i64 x] w fun e w' => e = .returned (.bool true) ∧ w = w' := by
  rcases h1 with h | h
  · go_enter Try.func57, Try.ntmps57
    go_wp2
    all_goals (go_ret; exact ⟨rfl, rfl⟩)
  · have h' : ¬ x < -1152921504606846976 := by omega
    go_enter Try.func57, Try.ntmps57
    go_wp2
    all_goals (go_ret; exact ⟨ret_bool (by simp <;> omega), rfl⟩)

theorem may1_any (x : Int) (w : World) : Calls Try.prog 57 #[.int .i64 x] w fun e w' => e = .returned (.bool (!timeB x)) ∧ w = w' := by
  by_cases h : -1152921504606846976 ≤ x ∧ x ≤ 1152921504606846976
  · exact (may1_yes x w h.1 h.2).mono fun e w' ⟨he, hw⟩ => ⟨by rw [he]; simp [timeB, h], hw⟩
  · exact (may1_no x w (by omega)).mono fun e w' ⟨he, hw⟩ => ⟨by rw [he]; simp [timeB, h], hw⟩

/-- all of the first k are times -/
def allB (zs : List Int) : Bool := zs.all timeB

def TIdxPost (zs : List Int) (w : World) (e : Ending) (w' : World) : Prop := ∃ r : Int, e = .returned (.int .i64 r) ∧ decide (0 ≤ r) = !allB zs ∧ w = w'

theorem allB_of {zs : List Int} (h : ∀ j, j < zs.length → timeB zs[j]! = true) : allB zs = true := by
  unfold allB; rw [List.all_eq_true]; intro x hx
  obtain ⟨j, hj, rfl⟩ := List.getElem_of_mem hx
  have := h j hj
  rwa [getElem!_pos zs j hj] at this
theorem not_allB_of {zs : List Int} (k : Nat) (hk : k < zs.length) (h : timeB zs[k]! = false) : allB zs = false := by
  unfold allB
  rw [getElem!_pos zs k hk] at h
  rw [List.all_eq_false]; exact ⟨zs[k], List.getElem_mem hk, by simp [h]⟩

set_option maxHeartbeats 400000 in
theorem tidx_any (b off c : Nat) (zs : List Int) (w : World) (hn : zs.length ≤ 9223372036854775807) (hc : ∀ j, j < zs.length → w.cell? ⟨b, off + j, none⟩ = some (.int .i64 zs[j]!)) :
    Calls Try.prog 64 #[.slice (some ⟨b, off, none⟩) zs.length c, .func (.func 57) #[] #[]] w (TIdxPost zs w) := by
  go_enter Try.func64, Try.ntmps64
  go_wp2
  go_loop [8] (fun i => ∃ k : Nat, k ≤ zs.length ∧ i = .int .i64 k ∧ (∀ j, j < k → timeB zs[j]! = true)) (fun i => zs.length - (intOf i).toNat)
  case atStart => exact ⟨0, Nat.zero_le _, rfl, by intro j hj; omega⟩
  case round =>
    obtain ⟨k, hk, rfl, hall⟩ := hrel
    by_cases hlt : k < zs.length
    · have hcell := hc k hlt
      by_cases ht : -1152921504606846976 ≤ zs[k]! ∧ zs[k]! ≤ 1152921504606846976
      · have HC : Hid (∀ j, j < k + 1 → timeB zs[j]! = true) := by
          refine hid (fun j hj => ?_)
          rcases Nat.lt_succ_iff_lt_or_eq.1 hj with h | rfl
          · exact hall j h
          · simp only [timeB, decide_eq_true_eq]; exact ht
        clear hc hall
        obtain ⟨h1, h2⟩ := ht
        generalize zs[k]! = z at h1 h2 hcell
        go_wp2_with (go_at_call 57; refine (may1_yes _ _ h1 h2).mono ?_; rintro e w' ⟨rfl, rfl⟩)
        exact ⟨⟨k + 1, by omega, by go_num, HC.out⟩, by simp [intOf]; omega⟩
      · have HF : Hid (allB zs = false) := hid (not_allB_of k hlt (by simp only [timeB, decide_eq_false_iff_not]; exact ht))
        have h1 : zs[k]! < -1152921504606846976 ∨ 1152921504606846976 < zs[k]! := by omega
        clear hc hall ht
        generalize zs[k]! = z at h1 hcell
        have H1 : Hid (z < -1152921504606846976 ∨ 1152921504606846976 < z) := hid h1
        clear h1
        go_wp2_with (go_at_call 57; refine (may1_no _ _ H1.out).mono ?_; rintro e w' ⟨rfl, rfl⟩)
        go_ret
        exact ⟨(k : Int), rfl, by rw [HF.out]; simp, rfl⟩
    · have HF : Hid (allB zs = true) := hid (allB_of fun j hj => hall j (by omega))
      clear hc hall
      go_wp2
      go_ret
      exact ⟨-1, rfl, by rw [HF.out]; decide, rfl⟩

theorem tcontains_any (b off c : Nat) (zs : List Int) (ok : Bool) (hok : allB zs = ok) (w : World) (hn : zs.length ≤ 9223372036854775807) (hc : ∀ j, j < zs.length → w.cell? ⟨b, off + j, none⟩ = some (.int .i64 zs[j]!)) :
    Calls Try.prog 56 #[.slice (some ⟨b, off, none⟩) zs.length c, .func (.func 57) #[] #[]] w fun e w' => e = .returned (.bool (!ok)) ∧ w = w' := by
  have HI := hid (tidx_any b off c zs w hn hc)
  have HK := hid hok
  clear hc hok
  go_enter Try.func56, Try.ntmps56
  go_wp2_with fail
  refine HI.out.mono ?_
  rintro e w' ⟨r, rfl, hr, rfl⟩
  have HR := hid hr
  clear hr
  go_wp2
  go_ret
  exact ⟨ret_bool (by rw [← HK.out, ← HR.out]), rfl⟩

theorem may_any (b off c : Nat) (zs : List Int) (ok : Bool) (hok : allB zs = ok) (w : World) (hn : zs.length ≤ 9223372036854775807) (hc : ∀ j, j < zs.length → w.cell? ⟨b, off + j, none⟩ = some (.int .i64 zs[j]!)) :
    Calls Try.prog 42 #[.slice (some ⟨b, off, none⟩) zs.length c] w fun e w' => e = .returned (.bool ok) ∧ w = w' := by
  have HI := hid (tcontains_any b off c zs ok hok w hn hc)
  clear hc hok
  go_enter Try.func42, Try.ntmps42
  go_wp2_with fail
  refine HI.out.mono ?_
  rintro e w' ⟨rfl, rfl⟩
  go_wp2
  go_ret
  exact ⟨ret_bool (by simp), rfl⟩

theorem may_1 (b c : Nat) (x : Int) (ok : Bool) (hok : timeB x = ok) (w : World) (hc : w.cell? ⟨b, 0, none⟩ = some (.int .i64 x)) :
    Calls Try.prog 42 #[.slice (some ⟨b, 0, none⟩) 1 c] w fun e w' => e = .returned (.bool ok) ∧ w = w' :=
  may_any b 0 c [x] ok (by simp [allB, hok]) w (by simp) (fun j hj => by
    match j, hj with
    | 0, _ => exact hc)
theorem may_2 (b c : Nat) (x y : Int) (ok : Bool) (hok : (timeB x && timeB y) = ok) (w : World) (hc : w.cell? ⟨b, 0, none⟩ = some (.int .i64 x)) (hc1 : w.cell? ⟨b, 1, none⟩ = some (.int .i64 y)) :
    Calls Try.prog 42 #[.slice (some ⟨b, 0, none⟩) 2 c] w fun e w' => e = .returned (.bool ok) ∧ w = w' :=
  may_any b 0 c [x, y] ok (by simpa [allB] using hok) w (by simp) (fun j hj => by
    match j, hj with
    | 0, _ => exact hc
    | 1, _ => exact hc1)

/-- Two new cells. -/
theorem two_new (w : World) (u v : Value) (t : TypeId) : (w.alloc (.cells #[u, v] t)).cell? ⟨w.heap.size, 0, none⟩ = some u ∧ (w.alloc (.cells #[u, v] t)).cell? ⟨w.heap.size, 1, none⟩ = some v := by
  rw [cell_of_row _ _ _ #[u, v] t (0, 0) (heap_alloc_new w _), cell_of_row _ _ _ #[u, v] t (0, 0) (heap_alloc_new w _)]
  exact ⟨rfl, rfl⟩
theorem one_new (w : World) (u : Value) (t : TypeId) : (w.alloc (.cells #[u] t)).cell? ⟨w.heap.size, 0, none⟩ = some u := by
  rw [cell_of_row _ _ _ #[u] t (0, 0) (heap_alloc_new w _)]
  rfl

/-- Something of that time and class may be in a queue. -/
def fitB (at_ cl : Int) : Bool := timeB at_ && (decide (0 ≤ cl) && decide (cl ≤ 15))
theorem fits_any (at_ cl : Int) (w : World) : Calls Try.prog 46 #[.int .i64 at_, .int .i64 cl] w fun e w' => e = .returned (.bool (fitB at_ cl)) ∧ Below w.heap.size w w' := by
  obtain ⟨t, ht⟩ : ∃ t, timeB at_ = t := ⟨_, rfl⟩
  have B0 := hid ((Below.refl w.heap.size w).alloc (Nat.le_refl _) (.cells #[.int .i64 at_] 2))
  have C0 := hid (one_new w (.int .i64 at_) 2)
  have HT := hid ht
  have HF : Hid (fitB at_ cl = (t && (decide (0 ≤ cl) && decide (cl ≤ 15)))) := hid (by rw [← ht]; rfl)
  clear ht
  go_enter Try.func46, Try.ntmps46
  go_wp2_with (go_at_call 42; refine (may_1 w.heap.size 1 at_ t HT.out _ C0.out).mono ?_; rintro e w1 ⟨rfl, rfl⟩)
  all_goals
    go_ret
    exact ⟨ret_bool (by rw [HF.out]; simp_all <;> omega), B0.out⟩

/-- The document's own May. -/
theorem refmay_any (b off c : Nat) (zs : List Int) (ok : Bool) (hok : allB zs = ok) (w : World) (hn : zs.length ≤ 1000) (hc : ∀ j, j < zs.length → w.cell? ⟨b, off + j, none⟩ = some (.int .i64 zs[j]!)) :
    Calls Try.prog 34 #[.slice (some ⟨b, off, none⟩) zs.length c] w fun e w' => e = .returned (.bool ok) ∧ w = w' := by
  have HO := hid hok
  clear hok
  go_enter Try.func34, Try.ntmps34
  go_wp2
  go_loop [7] (fun i => ∃ k : Nat, k ≤ zs.length ∧ i = .int .i64 k ∧ (∀ j, j < k → timeB zs[j]! = true)) (fun i => zs.length - (intOf i).toNat)
  case atStart => exact ⟨0, Nat.zero_le _, rfl, by intro j hj; omega⟩
  case round =>
    obtain ⟨k, hk, rfl, hall⟩ := hrel
    by_cases hlt : k < zs.length
    · have hcell := hc k hlt
      by_cases ht : -1152921504606846976 ≤ zs[k]! ∧ zs[k]! ≤ 1152921504606846976
      · have HC : Hid (∀ j, j < k + 1 → timeB zs[j]! = true) := by
          refine hid (fun j hj => ?_)
          rcases Nat.lt_succ_iff_lt_or_eq.1 hj with h | rfl
          · exact hall j h
          · simp only [timeB, decide_eq_true_eq]; exact ht
        clear hc hall
        obtain ⟨h1, h2⟩ := ht
        generalize zs[k]! = z at h1 h2 hcell
        have t1 : decide (1152921504606846976 < z) = false := decide_eq_false (by omega)
        have t2 : decide (z < -1152921504606846976) = false := decide_eq_false (by omega)
        clear h1 h2
        go_wp2
        exact ⟨⟨k + 1, by omega, by go_num, HC.out⟩, by simp [intOf]; omega⟩
      · have HF : Hid (allB zs = false) := hid (not_allB_of k hlt (by simp only [timeB, decide_eq_false_iff_not]; exact ht))
        have h1 : 1152921504606846976 < zs[k]! ∨ (¬ 1152921504606846976 < zs[k]! ∧ zs[k]! < -1152921504606846976) := by omega
        clear hc hall ht
        generalize zs[k]! = z at h1 hcell
        rcases h1 with h1 | ⟨h0, h1⟩
        · have t1 : decide (1152921504606846976 < z) = true := decide_eq_true h1
          clear h1
          go_wp2
          go_ret
          exact ⟨ret_bool (by rw [← HO.out, HF.out]), rfl⟩
        · have t1 : decide (1152921504606846976 < z) = false := decide_eq_false h0
          have t2 : decide (z < -1152921504606846976) = true := decide_eq_true h1
          clear h1 h0
          go_wp2
          go_ret
          exact ⟨ret_bool (by rw [← HO.out, HF.out]), rfl⟩
    · have HF : Hid (allB zs = true) := hid (allB_of fun j hj => hall j (by omega))
      clear hc hall
      go_wp2
      go_ret
      exact ⟨ret_bool (by rw [← HO.out, HF.out]), rfl⟩
theorem refmay_1 (b c : Nat) (x : Int) (ok : Bool) (hok : timeB x = ok) (w : World) (hc : w.cell? ⟨b, 0, none⟩ = some (.int .i64 x)) :
    Calls Try.prog 34 #[.slice (some ⟨b, 0, none⟩) 1 c] w fun e w' => e = .returned (.bool ok) ∧ w = w' :=
  refmay_any b 0 c [x] ok (by simp [allB, hok]) w (by simp) (fun j hj => by
    match j, hj with
    | 0, _ => exact hc)
theorem refmay_2 (b c : Nat) (x y : Int) (ok : Bool) (hok : (timeB x && timeB y) = ok) (w : World) (hc : w.cell? ⟨b, 0, none⟩ = some (.int .i64 x)) (hc1 : w.cell? ⟨b, 1, none⟩ = some (.int .i64 y)) :
    Calls Try.prog 34 #[.slice (some ⟨b, 0, none⟩) 2 c] w fun e w' => e = .returned (.bool ok) ∧ w = w' :=
  refmay_any b 0 c [x, y] ok (by simpa [allB] using hok) w (by simp) (fun j hj => by
    match j, hj with
    | 0, _ => exact hc
    | 1, _ => exact hc1)
end Go.Proofs.Ytpfidohneddgkaa
