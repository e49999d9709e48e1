/-
  The contract of the document's own Word (palletref14.Word), and of its letter and digit: as lex's.
-/
import Derived.Test.YtkfnkieljcipnaaGreatDoorK1
namespace Go.Proofs.YtkfnkieljcipnaaGreatDoor
open Go Go.RowKit

theorem rletter_any (r : Nat) (w : World) : Calls Tryz.prog 62 #[.int .i32 r] w fun e w' => e = .returned (.bool (decide (97 ≤ r) && decide (r ≤ 122))) ∧ w' = w := by
  go_enter Tryz.func62, Tryz.ntmps62
  go_wp2
  all_goals (go_ret; exact ⟨ret_bool (by rw [Bool.eq_iff_iff]; simp; try omega), rfl⟩)
theorem rdigit_any (r : Nat) (w : World) : Calls Tryz.prog 63 #[.int .i32 r] w fun e w' => e = .returned (.bool (decide (48 ≤ r) && decide (r ≤ 57))) ∧ w' = w := by
  go_enter Tryz.func63, Tryz.ntmps63
  go_wp2
  all_goals (go_ret; exact ⟨ret_bool (by rw [Bool.eq_iff_iff]; simp; try omega), rfl⟩)
set_option maxRecDepth 100000 in
theorem rword_any (s : ByteArray) (w : World) (hs : s.size ≤ 4611686018427387904) : Calls Tryz.prog 70 #[.string s] w (WordPost s w) := by
  go_enter Tryz.func70, Tryz.ntmps70
  go_wp2
  go_loopw [] (fun wr => ∃ pos : Nat, wr = w.iter s pos ∧ pos ≤ s.size ∧ wordP (s.data.toList.take pos) = true) (fun wr => s.size - wr.iterPos w.heap.size)
  case atStart => exact ⟨0, rfl, Nat.zero_le _, rfl⟩
  case round =>
    obtain ⟨pos, rfl, hp, hw⟩ := hrel
    by_cases hlt : pos < s.size
    · obtain ⟨c, r, hd, ht⟩ := drop_cons (l := s.data.toList) (k := pos) (by simpa using hlt)
      have h1 := let_rune c r
      have h2 := dig_rune c r
      have h3 := ld_width (c := c) r
      have h4 := dec_top (c :: r)
      have hne := ne_size s.data.toList pos (by simpa using hp)
      have hsn := wordP_snoc (s.data.toList.take pos) c
      rw [← ht, hw, hne, Bool.true_and] at hsn
      have hnx : ∀ ty, (Instr.next (.pointer (some ⟨w.heap.size, 0, none⟩)) true ty).run Tryz.prog (w.iter s pos) = _ := fun ty => run_next_any w s pos ty hlt
      rw [dec_of, hd] at hnx
      generalize (dec (c :: r)).1 = x at *
      generalize (dec (c :: r)).2 = n at *
      have HL : ∀ w, Calls Tryz.prog 62 #[.int .i32 x] w fun e w' => e = .returned (.bool (letB c)) ∧ w' = w := fun w => by have := rletter_any x w; rwa [h1] at this
      have HD : ∀ w, Calls Tryz.prog 63 #[.int .i32 x] w fun e w' => e = .returned (.bool (digB c)) ∧ w' = w := fun w => by have := rdigit_any x w; rwa [h2] at this
      have HL := hid HL
      have HD := hid HD
      have HS := hid hsn
      have HT := hid (show wordP (s.data.toList.take (pos + 1)) = false → wordB s.data.toList = false from fun h => by rw [wordB_eq, wordP_take _ h]; simp)
      have HN := hid (show letB c = true ∨ digB c = true → n = 1 from fun h => h3 (by unfold ldB; rcases h with h | h <;> simp [h]))
      clear h1 h2 h3 hne hsn hd ht hw
      by_cases hl : letB c = true
      · have hn := HN.out (.inl hl)
        subst hn
        rw [hl] at HL HS
        have hok : Hid (wordP (s.data.toList.take (pos + 1)) = true) := hid (by rw [HS.out]; simp)
        clear HN HT HD HS
        go_wp2_with (first | (go_at_call 62; refine (HL.out _).mono ?_; rintro e w' ⟨rfl, rfl⟩))
        go_roundw
        case rel => exact ⟨pos + 1, rfl, by omega, hok.out⟩
        case measure => simp; omega
      · have hl : letB c = false := by simpa using hl
        rw [hl] at HL HS
        by_cases h0 : (pos : Int) = 0
        · have hok : Hid (wordB s.data.toList = false) := hid (HT.out (by rw [HS.out]; simp [h0]))
          obtain rfl : pos = 0 := by omega
          clear HN HT HD HS
          go_wp2_with (first | (go_at_call 62; refine (HL.out _).mono ?_; rintro e w' ⟨rfl, rfl⟩))
          go_ret
          exact ⟨ret_bool hok.out.symm, below_iter _ _ _⟩
        · by_cases hdg : digB c = true
          · have hn := HN.out (.inr hdg)
            subst hn
            rw [hdg] at HD HS
            have hok : Hid (wordP (s.data.toList.take (pos + 1)) = true) := hid (by rw [HS.out, decide_eq_false h0]; rfl)
            clear HN HT HS
            go_wp2_with (first | (go_at_call 62; refine (HL.out _).mono ?_; rintro e w' ⟨rfl, rfl⟩) | (go_at_call 63; refine (HD.out _).mono ?_; rintro e w' ⟨rfl, rfl⟩))
            go_roundw
            case rel => exact ⟨pos + 1, rfl, by omega, hok.out⟩
            case measure => simp; omega
          · have hdg : digB c = false := by simpa using hdg
            rw [hdg] at HD HS
            have hok : Hid (wordB s.data.toList = false) := hid (HT.out (by rw [HS.out]; simp))
            clear HN HT HS
            go_wp2_with (first | (go_at_call 62; refine (HL.out _).mono ?_; rintro e w' ⟨rfl, rfl⟩) | (go_at_call 63; refine (HD.out _).mono ?_; rintro e w' ⟨rfl, rfl⟩))
            go_ret
            exact ⟨ret_bool hok.out.symm, below_iter _ _ _⟩
    · have hnx : ∀ ty, (Instr.next (.pointer (some ⟨w.heap.size, 0, none⟩)) true ty).run Tryz.prog (w.iter s pos) = _ := fun ty => run_next_end w s pos ty hlt
      have HE : Hid (wordB s.data.toList = (decide (s.data.toList ≠ []) && decide (s.size ≤ 16))) := hid (by
        rw [List.take_of_length_le (by simp; omega)] at hw
        rw [wordB_eq, hw, Bool.true_and]
        rfl)
      clear hw
      have he : decide (s.data.toList ≠ []) = decide (1 ≤ s.size) := by
        have h1 : s.data.toList.length = s.size := rfl
        generalize s.data.toList = l at *
        cases l with
        | nil => simp at h1; simp [← h1]
        | cons c r => simp at h1; simp [← h1]
      have HE : Hid (wordB s.data.toList = (decide (1 ≤ s.size) && decide (s.size ≤ 16))) := hid (by rw [HE.out, he])
      clear he
      by_cases h1 : 1 ≤ s.size
      · have h1' : (1 : Int) ≤ s.size := by omega
        go_wp2
        go_ret
        exact ⟨ret_bool (by rw [HE.out, decide_eq_true h1, Bool.true_and]; exact decide_eq_decide.2 (by omega)), below_iter _ _ _⟩
      · have h1' : ¬ (1 : Int) ≤ s.size := by omega
        go_wp2
        go_ret
        exact ⟨ret_bool (by rw [HE.out, decide_eq_false h1]; rfl), below_iter _ _ _⟩
end Go.Proofs.YtkfnkieljcipnaaGreatDoor
