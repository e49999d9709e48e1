/-
  The contract of lex.Word: whether any text is a word (P14.1); under: the text has fewer than 2^62 bytes.
-/
import Derived.Test.YtinjhnflnfpoeaaGreatDoorLA
import Derived.Laws.RangeAny
namespace Go.Proofs.YtinjhnflnfpoeaaGreatDoor
open Go Go.RowKit

def wordP : List UInt8 → Bool
  | [] => true
  | c :: r => letB c && r.all ldB
theorem wordB_eq (l : List UInt8) : wordB l = (decide (l ≠ []) && (wordP l && decide (l.length ≤ 16))) := by
  cases l with
  | nil => rfl
  | cons c r => simp only [wordB, wordP, List.length_cons]; simp [Bool.and_assoc]
theorem let_rune (c : UInt8) (r : List UInt8) : (decide (97 ≤ (dec (c :: r)).1) && decide ((dec (c :: r)).1 ≤ 122)) = letB c := by
  by_cases h : c.toNat < 128
  · rw [dec_ascii c r h]; rfl
  · have := dec_high c r (by omega)
    unfold letB
    rw [Bool.eq_iff_iff]; simp; omega
theorem dig_rune (c : UInt8) (r : List UInt8) : (decide (48 ≤ (dec (c :: r)).1) && decide ((dec (c :: r)).1 ≤ 57)) = digB c := by
  by_cases h : c.toNat < 128
  · rw [dec_ascii c r h]; rfl
  · have := dec_high c r (by omega)
    unfold digB
    rw [Bool.eq_iff_iff]; simp; omega
theorem ld_width {c : UInt8} (r : List UInt8) (h : ldB c = true) : (dec (c :: r)).2 = 1 := by rw [dec_ascii c r (ld_ascii h).1]
theorem drop_cons {l : List UInt8} {k : Nat} (h : k < l.length) : ∃ c r, l.drop k = c :: r ∧ l.take (k + 1) = l.take k ++ [c] := by
  refine ⟨l[k], l.drop (k + 1), List.drop_eq_getElem_cons h, ?_⟩
  rw [List.take_succ_eq_append_getElem h]
theorem wordP_snoc (l : List UInt8) (c : UInt8) : wordP (l ++ [c]) = (wordP l && (letB c || (decide (l ≠ []) && digB c))) := by
  cases l with
  | nil => simp [wordP]
  | cons d r => simp [wordP, ldB, Bool.and_assoc]
theorem wordP_take {l : List UInt8} (k : Nat) (h : wordP (l.take k) = false) : wordP l = false := by
  rw [← List.take_append_drop k l]
  generalize l.take k = a at *
  cases a with
  | nil => cases h
  | cons d r =>
    simp only [wordP, List.cons_append, List.all_append, Bool.and_eq_false_iff] at h ⊢
    rcases h with h | h
    · exact .inl h
    · exact .inr (.inl h)
theorem ne_size (l : List UInt8) (k : Nat) (h : k ≤ l.length) : decide (l.take k ≠ []) = !decide ((k : Int) = 0) := by
  cases k with
  | zero => simp
  | succ k =>
    cases l with
    | nil => simp at h
    | cons c r => simp; omega

def WordPost (s : ByteArray) (w : World) (e : Ending) (w' : World) : Prop := e = .returned (.bool (wordB s.data.toList)) ∧ Below w.heap.size w w'
theorem below_iter (w : World) (s : ByteArray) (pos : Nat) : Below w.heap.size w (w.iter s pos) := (Below.refl _ _).alloc (Nat.le_refl _) _

set_option maxRecDepth 100000 in
theorem word_any (s : ByteArray) (w : World) (hs : s.size ≤ 4611686018427387904) : Calls Tryz.prog 53 #[.string s] w (WordPost s w) := by
  go_enter Tryz.func53, Tryz.ntmps53
  go_wp2
  go_loopw [] (fun wr => ∃ pos : Nat, wr = w.iter s pos ∧ pos ≤ s.size ∧ wordP (s.data.toList.take pos) = true) (fun wr => s.size - wr.iterPos w.heap.size)
  case atStart => exact ⟨0, rfl, Nat.zero_le _, rfl⟩
  case round =>
    obtain ⟨pos, rfl, hp, hw⟩ := hrel
    by_cases hlt : pos < s.size
    · obtain ⟨c, r, hd, ht⟩ := drop_cons (l := s.data.toList) (k := pos) (by simpa using hlt)
      have h1 := let_rune c r
      have h2 := dig_rune c r
      have h3 := ld_width (c := c) r
      have h4 := dec_top (c :: r)
      have hne := ne_size s.data.toList pos (by simpa using hp)
      have hsn := wordP_snoc (s.data.toList.take pos) c
      rw [← ht, hw, hne, Bool.true_and] at hsn
      have hnx : ∀ ty, (Instr.next (.pointer (some ⟨w.heap.size, 0, none⟩)) true ty).run Tryz.prog (w.iter s pos) = _ := fun ty => run_next_any w s pos ty hlt
      rw [dec_of, hd] at hnx
      generalize (dec (c :: r)).1 = x at *
      generalize (dec (c :: r)).2 = n at *
      have HL : ∀ w, Calls Tryz.prog 55 #[.int .i32 x] w fun e w' => e = .returned (.bool (letB c)) ∧ w' = w := fun w => by have := letter_any x w; rwa [h1] at this
      have HD : ∀ w, Calls Tryz.prog 56 #[.int .i32 x] w fun e w' => e = .returned (.bool (digB c)) ∧ w' = w := fun w => by have := digit_any x w; rwa [h2] at this
      have HL := hid HL
      have HD := hid HD
      have HS := hid hsn
      have HT := hid (show wordP (s.data.toList.take (pos + 1)) = false → wordB s.data.toList = false from fun h => by rw [wordB_eq, wordP_take _ h]; simp)
      have HN := hid (show letB c = true ∨ digB c = true → n = 1 from fun h => h3 (by unfold ldB; rcases h with h | h <;> simp [h]))
      clear h1 h2 h3 hne hsn hd ht hw
      by_cases hl : letB c = true
      · have hn := HN.out (.inl hl)
        subst hn
        rw [hl] at HL HS
        have hok : Hid (wordP (s.data.toList.take (pos + 1)) = true) := hid (by rw [HS.out]; simp)
        clear HN HT HD HS
        go_wp2_with (first | (go_at_call 55; refine (HL.out _).mono ?_; rintro e w' ⟨rfl, rfl⟩))
        go_roundw
        case rel => exact ⟨pos + 1, rfl, by omega, hok.out⟩
        case measure => simp; omega
      · have hl : letB c = false := by simpa using hl
        rw [hl] at HL HS
        by_cases h0 : (pos : Int) = 0
        · have hok : Hid (wordB s.data.toList = false) := hid (HT.out (by rw [HS.out]; simp [h0]))
          obtain rfl : pos = 0 := by omega
          clear HN HT HD HS
          go_wp2_with (first | (go_at_call 55; refine (HL.out _).mono ?_; rintro e w' ⟨rfl, rfl⟩))
          go_ret
          exact ⟨ret_bool hok.out.symm, below_iter _ _ _⟩
        · by_cases hdg : digB c = true
          · have hn := HN.out (.inr hdg)
            subst hn
            rw [hdg] at HD HS
            have hok : Hid (wordP (s.data.toList.take (pos + 1)) = true) := hid (by rw [HS.out, decide_eq_false h0]; rfl)
            clear HN HT HS
            go_wp2_with (first | (go_at_call 55; refine (HL.out _).mono ?_; rintro e w' ⟨rfl, rfl⟩) | (go_at_call 56; refine (HD.out _).mono ?_; rintro e w' ⟨rfl, rfl⟩))
            go_roundw
            case rel => exact ⟨pos + 1, rfl, by omega, hok.out⟩
            case measure => simp; omega
          · have hdg : digB c = false := by simpa using hdg
            rw [hdg] at HD HS
            have hok : Hid (wordB s.data.toList = false) := hid (HT.out (by rw [HS.out]; simp))
            clear HN HT HS
            go_wp2_with (first | (go_at_call 55; refine (HL.out _).mono ?_; rintro e w' ⟨rfl, rfl⟩) | (go_at_call 56; refine (HD.out _).mono ?_; rintro e w' ⟨rfl, rfl⟩))
            go_ret
            exact ⟨ret_bool hok.out.symm, below_iter _ _ _⟩
    · have hnx : ∀ ty, (Instr.next (.pointer (some ⟨w.heap.size, 0, none⟩)) true ty).run Tryz.prog (w.iter s pos) = _ := fun ty => run_next_end w s pos ty hlt
      have HE : Hid (wordB s.data.toList = (decide (s.data.toList ≠ []) && decide (s.size ≤ 16))) := hid (by
        rw [List.take_of_length_le (by simp; omega)] at hw
        rw [wordB_eq, hw, Bool.true_and]
        rfl)
      clear hw
      go_wp2
      · rename_i h
        rw [ByteArray.toList_eq] at h
        go_ret
        exact ⟨ret_bool (by rw [HE.out, h]; rfl), below_iter _ _ _⟩
      · rename_i h
        rw [ByteArray.toList_eq] at h
        go_ret
        refine ⟨ret_bool ?_, below_iter _ _ _⟩
        rw [HE.out, ByteArray.toList_eq]
        congr 1
        · rw [decide_eq_true h]
          cases hh : s.data.toList with
          | nil => exact absurd hh h
          | cons _ _ => rfl
        · exact decide_eq_decide.2 (by omega)
end Go.Proofs.YtinjhnflnfpoeaaGreatDoor
