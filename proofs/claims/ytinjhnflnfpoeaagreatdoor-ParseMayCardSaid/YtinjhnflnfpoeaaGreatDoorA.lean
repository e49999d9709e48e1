/-
  Contracts of pico.May and of what it calls: whether all of one, two or three given numbers are times; no condition but that the cells hold them. A first part of the proofs of the Pico statements.
-/
import Derived.Test.YtinjhnflnfpoeaaGreatDoorProg
import Derived.WalkKit
import Derived.WalkSpells
import Derived.WalkLawsBesides
import Derived.LoopTactic
namespace Go.Proofs.YtinjhnflnfpoeaaGreatDoor
open Go Go.RowKit

def timeB (x : Int) : Bool := decide (-1152921504606846976 ≤ x ∧ x ≤ 1152921504606846976)

theorem hid {p : Prop} (h : p) : Hid p := h
theorem ret_bool {a b : Bool} (h : a = b) : Ending.returned (.bool a) = .returned (.bool b) := by rw [h]
theorem ret_int {k : IntKind} {a b : Int} (h : a = b) : Ending.returned (.int k a) = .returned (.int k b) := by rw [h]

theorem may1_yes (x : Int) (w : World) (h1 : -1152921504606846976 ≤ x) (h2 : x ≤ 1152921504606846976) : Calls Tryz.prog 105 #[.int .i64 x] w fun e w' => e = .returned (.bool false) ∧ w = w' := by
  go_enter Tryz.func105, Tryz.ntmps105
  go_wp2
  all_goals (go_ret; exact ⟨ret_bool (by simp; omega), rfl⟩)

theorem may1_no (x : Int) (w : World) (h1 : x < -1152921504606846976 ∨ 1152921504606846976 < x) : Calls Tryz.prog 105 #[.int .i64 x] w fun e w' => e = .returned (.bool true) ∧ w = w' := by
  rcases h1 with h | h
  · go_enter Tryz.func105, Tryz.ntmps105
    go_wp2
    all_goals (go_ret; exact ⟨rfl, rfl⟩)
  · have h' : ¬ x < -1152921504606846976 := by omega
    go_enter Tryz.func105, Tryz.ntmps105
    go_wp2
    all_goals (go_ret; exact ⟨ret_bool (by simp <;> omega), rfl⟩)

theorem may1_any (x : Int) (w : World) : Calls Tryz.prog 105 #[.int .i64 x] w fun e w' => e = .returned (.bool (!timeB x)) ∧ w = w' := by
  by_cases h : -1152921504606846976 ≤ x ∧ x ≤ 1152921504606846976
  · exact (may1_yes x w h.1 h.2).mono fun e w' ⟨he, hw⟩ => ⟨by rw [he]; simp [timeB, h], hw⟩
  · exact (may1_no x w (by omega)).mono fun e w' ⟨he, hw⟩ => ⟨by rw [he]; simp [timeB, h], hw⟩

theorem size_any (t : Int) (w : World) (h1 : -1152921504606846976 ≤ t) (h2 : t ≤ 1152921504606846976) : Calls Tryz.prog 118 #[.int .i64 t] w fun e w' => e = .returned (.int .u64 (t.natAbs : Nat)) ∧ w = w' := by
  go_enter Tryz.func118, Tryz.ntmps118
  go_wp2
  all_goals (go_ret; exact ⟨ret_int (by omega), rfl⟩)

/-- all of the first k are times -/
def allB (zs : List Int) : Bool := zs.all timeB

def IdxPost (zs : List Int) (w : World) (e : Ending) (w' : World) : Prop := ∃ r : Int, e = .returned (.int .i64 r) ∧ decide (0 ≤ r) = !allB zs ∧ w = w'

theorem allB_of {zs : List Int} (h : ∀ j, j < zs.length → timeB zs[j]! = true) : allB zs = true := by
  unfold allB; rw [List.all_eq_true]; intro x hx
  obtain ⟨j, hj, rfl⟩ := List.getElem_of_mem hx
  have := h j hj
  rwa [getElem!_pos zs j hj] at this
theorem not_allB_of {zs : List Int} (k : Nat) (hk : k < zs.length) (h : timeB zs[k]! = false) : allB zs = false := by
  unfold allB
  rw [getElem!_pos zs k hk] at h
  rw [List.all_eq_false]; exact ⟨zs[k], List.getElem_mem hk, by simp [h]⟩

set_option maxHeartbeats 400000 in
theorem idx_any (b off c : Nat) (zs : List Int) (w : World) (hn : zs.length ≤ 9223372036854775807) (hc : ∀ j, j < zs.length → w.cell? ⟨b, off + j, none⟩ = some (.int .i64 zs[j]!)) :
    Calls Tryz.prog 116 #[.slice (some ⟨b, off, none⟩) zs.length c, .func (.func 105) #[] #[]] w (IdxPost zs w) := by
  go_enter Tryz.func116, Tryz.ntmps116
  go_wp2
  go_loop [8] (fun i => ∃ k : Nat, k ≤ zs.length ∧ i = .int .i64 k ∧ (∀ j, j < k → timeB zs[j]! = true)) (fun i => zs.length - (intOf i).toNat)
  case atStart => exact ⟨0, Nat.zero_le _, rfl, by intro j hj; omega⟩
  case round =>
    obtain ⟨k, hk, rfl, hall⟩ := hrel
    by_cases hlt : k < zs.length
    · have hcell := hc k hlt
      by_cases ht : -1152921504606846976 ≤ zs[k]! ∧ zs[k]! ≤ 1152921504606846976
      · have HC : Hid (∀ j, j < k + 1 → timeB zs[j]! = true) := by
          refine hid (fun j hj => ?_)
          rcases Nat.lt_succ_iff_lt_or_eq.1 hj with h | rfl
          · exact hall j h
          · simp only [timeB, decide_eq_true_eq]; exact ht
        clear hc hall
        obtain ⟨h1, h2⟩ := ht
        generalize zs[k]! = z at h1 h2 hcell
        go_wp2_with (go_at_call 105; refine (may1_yes _ _ h1 h2).mono ?_; rintro e w' ⟨rfl, rfl⟩)
        exact ⟨⟨k + 1, by omega, by go_num, HC.out⟩, by simp [intOf]; omega⟩
      · have HF : Hid (allB zs = false) := hid (not_allB_of k hlt (by simp only [timeB, decide_eq_false_iff_not]; exact ht))
        have h1 : zs[k]! < -1152921504606846976 ∨ 1152921504606846976 < zs[k]! := by omega
        clear hc hall ht
        generalize zs[k]! = z at h1 hcell
        have H1 : Hid (z < -1152921504606846976 ∨ 1152921504606846976 < z) := hid h1
        clear h1
        go_wp2_with (go_at_call 105; refine (may1_no _ _ H1.out).mono ?_; rintro e w' ⟨rfl, rfl⟩)
        go_ret
        exact ⟨(k : Int), rfl, by rw [HF.out]; simp, rfl⟩
    · have HF : Hid (allB zs = true) := hid (allB_of fun j hj => hall j (by omega))
      clear hc hall
      go_wp2
      go_ret
      exact ⟨-1, rfl, by rw [HF.out]; decide, rfl⟩

theorem contains_any (b off c : Nat) (zs : List Int) (ok : Bool) (hok : allB zs = ok) (w : World) (hn : zs.length ≤ 9223372036854775807) (hc : ∀ j, j < zs.length → w.cell? ⟨b, off + j, none⟩ = some (.int .i64 zs[j]!)) :
    Calls Tryz.prog 104 #[.slice (some ⟨b, off, none⟩) zs.length c, .func (.func 105) #[] #[]] w fun e w' => e = .returned (.bool (!ok)) ∧ w = w' := by
  have HI := hid (idx_any b off c zs w hn hc)
  have HK := hid hok
  clear hc hok
  go_enter Tryz.func104, Tryz.ntmps104
  go_wp2_with fail
  refine HI.out.mono ?_
  rintro e w' ⟨r, rfl, hr, rfl⟩
  have HR := hid hr
  clear hr
  go_wp2
  go_ret
  exact ⟨ret_bool (by rw [← HK.out, ← HR.out]), rfl⟩

theorem may_any (b off c : Nat) (zs : List Int) (ok : Bool) (hok : allB zs = ok) (w : World) (hn : zs.length ≤ 9223372036854775807) (hc : ∀ j, j < zs.length → w.cell? ⟨b, off + j, none⟩ = some (.int .i64 zs[j]!)) :
    Calls Tryz.prog 91 #[.slice (some ⟨b, off, none⟩) zs.length c] w fun e w' => e = .returned (.bool ok) ∧ w = w' := by
  have HI := hid (contains_any b off c zs ok hok w hn hc)
  clear hc hok
  go_enter Tryz.func91, Tryz.ntmps91
  go_wp2_with fail
  refine HI.out.mono ?_
  rintro e w' ⟨rfl, rfl⟩
  go_wp2
  go_ret
  exact ⟨ret_bool (by simp), rfl⟩

theorem may_1 (b c : Nat) (x : Int) (ok : Bool) (hok : timeB x = ok) (w : World) (hc : w.cell? ⟨b, 0, none⟩ = some (.int .i64 x)) :
    Calls Tryz.prog 91 #[.slice (some ⟨b, 0, none⟩) 1 c] w fun e w' => e = .returned (.bool ok) ∧ w = w' :=
  may_any b 0 c [x] ok (by simp [allB, hok]) w (by simp) (fun j hj => by
    match j, hj with
    | 0, _ => exact hc)
theorem may_2 (b c : Nat) (x y : Int) (ok : Bool) (hok : (timeB x && timeB y) = ok) (w : World) (hc : w.cell? ⟨b, 0, none⟩ = some (.int .i64 x)) (hc1 : w.cell? ⟨b, 1, none⟩ = some (.int .i64 y)) :
    Calls Tryz.prog 91 #[.slice (some ⟨b, 0, none⟩) 2 c] w fun e w' => e = .returned (.bool ok) ∧ w = w' :=
  may_any b 0 c [x, y] ok (by simpa [allB] using hok) w (by simp) (fun j hj => by
    match j, hj with
    | 0, _ => exact hc
    | 1, _ => exact hc1)
theorem may_3 (b c : Nat) (x y z : Int) (ok : Bool) (hok : (timeB x && (timeB y && timeB z)) = ok) (w : World) (hc : w.cell? ⟨b, 0, none⟩ = some (.int .i64 x)) (hc1 : w.cell? ⟨b, 1, none⟩ = some (.int .i64 y)) (hc2 : w.cell? ⟨b, 2, none⟩ = some (.int .i64 z)) :
    Calls Tryz.prog 91 #[.slice (some ⟨b, 0, none⟩) 3 c] w fun e w' => e = .returned (.bool ok) ∧ w = w' :=
  may_any b 0 c [x, y, z] ok (by simpa [allB] using hok) w (by simp) (fun j hj => by
    match j, hj with
    | 0, _ => exact hc
    | 1, _ => exact hc1
    | 2, _ => exact hc2)

end Go.Proofs.YtinjhnflnfpoeaaGreatDoor
