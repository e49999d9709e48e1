/-
  Contracts of lex.piece, lex.token: what a text begins with, cut as far as it goes, and what a piece is (of at most 2^47 bytes); token under: the tables hold what the program lays (LaidW).
-/
import Derived.Test.YtinjhnflnfpoeaaGreatDoorLE
namespace Go.Proofs.YtinjhnflnfpoeaaGreatDoor
open Go Go.RowKit Go.Joins

/-- Where the cutting of a piece has come to. -/
def PI (l : List UInt8) (pos : Nat) : Prop := pos = 0 ∨ ((dec l).2 ≤ pos ∧ ((l.take pos).drop (dec l).2).all ldB = true ∧ ((dec l).2 < pos → signL (l.take (dec l).2) = false))

theorem takeWhile_stop (f : UInt8 → Bool) (a b : List UInt8) (ha : a.all f = true) (hb : b = [] ∨ ∃ c r, b = c :: r ∧ f c = false) : (a ++ b).takeWhile f = a := by
  induction a with
  | nil =>
    rcases hb with rfl | ⟨c, r, rfl, h⟩
    · rfl
    · rw [List.nil_append, List.takeWhile_cons_of_neg (by rw [h]; decide)]
  | cons d a ih =>
    rw [List.all_cons, Bool.and_eq_true] at ha
    rw [List.cons_append, List.takeWhile_cons_of_pos ha.1, ih ha.2]

theorem pi_zero (c : UInt8) (r : List UInt8) : PI (c :: r) (dec (c :: r)).2 := by
  refine .inr ⟨Nat.le_refl _, ?_, fun h => absurd h (Nat.lt_irrefl _)⟩
  rw [List.drop_of_length_le (by rw [List.length_take]; omega)]
  rfl
theorem pi_sign (l : List UInt8) (pos : Nat) (h : signL (l.take pos) = true) : pieceF l = l.take pos := by
  match l with
  | [] => cases pos <;> cases h
  | c :: r =>
    match pos with
    | 0 => cases h
    | k + 1 =>
      rw [List.take_succ_cons] at h ⊢
      match hk : r.take k with
      | [] =>
        rw [hk] at h
        have h : sgB c = true := h
        rw [pieceF_cons, if_pos h]
      | d :: e => rw [hk] at h; cases h
theorem pi_nosign (c : UInt8) (r : List UInt8) (pos : Nat) (h0 : 0 < pos) (h : PI (c :: r) pos) (hs : signL ((c :: r).take pos) = false) : sgB c = false := by
  rcases h with h | ⟨h1, h2, h3⟩
  · omega
  · cases hc : sgB c with
    | false => rfl
    | true =>
      rw [dec_ascii c r (sg_ascii hc).1] at h3
      by_cases hp : pos = 1
      · subst hp
        have : sgB c = false := hs
        rw [this] at hc; exact hc.symm
      · have : sgB c = false := h3 (show 1 < pos by omega)
        rw [this] at hc; exact hc.symm
theorem pi_whole (l : List UInt8) (pos : Nat) (h0 : 0 < pos) (hl : l ≠ []) (h : PI l pos) (hs : signL (l.take pos) = false) (hb : l.drop pos = [] ∨ ∃ c r, l.drop pos = c :: r ∧ ldB c = false) : pieceF l = l.take pos := by
  match l, hl with
  | c :: r, _ =>
    have hc := pi_nosign c r pos h0 h hs
    rcases h with h | ⟨h1, h2, h3⟩
    · omega
    · rw [pieceF_cons, if_neg (by rw [hc]; decide)]
      generalize dec (c :: r) = dd at *
      have e : (c :: r).drop dd.2 = ((c :: r).take pos).drop dd.2 ++ (c :: r).drop pos := by
        conv => lhs; rw [← List.take_append_drop pos (c :: r)]
        by_cases hp : pos ≤ (c :: r).length
        · rw [List.drop_append_of_le_length (by rw [List.length_take]; omega)]
        · rw [List.drop_of_length_le (i := pos) (by omega), List.append_nil, List.append_nil]
      rw [e, takeWhile_stop ldB _ _ h2 hb]
      have e2 : (c :: r).take dd.2 = ((c :: r).take pos).take dd.2 := by rw [List.take_take, Nat.min_eq_left h1]
      rw [e2, List.take_append_drop]
theorem pi_step (l : List UInt8) (pos : Nat) (h0 : 0 < pos) (h : PI l pos) (hs : signL (l.take pos) = false) (c : UInt8) (ht : l.take (pos + 1) = l.take pos ++ [c]) (hp : pos < l.length) (hc : ldB c = true) : PI l (pos + 1) := by
  rcases h with h | ⟨h1, h2, h3⟩
  · omega
  · refine .inr ⟨by omega, ?_, fun h4 => ?_⟩
    · rw [ht, List.drop_append_of_le_length (by rw [List.length_take]; omega), List.all_append, h2]
      simp [hc]
    · by_cases h5 : (dec l).2 < pos
      · exact h3 h5
      · have : (dec l).2 = pos := by omega
        rw [this]; exact hs
theorem extract_take (s : ByteArray) (k : Nat) : (s.extract 0 k).data.toList = s.data.toList.take k := by
  rw [ByteArray.data_extract, Array.toList_extract]
  simp [List.extract_eq_take_drop]
theorem extract_bA (s : ByteArray) (k : Nat) : s.extract 0 k = bA (s.data.toList.take k) := by
  rw [← extract_take, bA_data]

def PiecePost (s : ByteArray) (w : World) (e : Ending) (w' : World) : Prop := e = .returned (.string (bA (pieceF s.data.toList))) ∧ Below w.heap.size w w'

set_option maxRecDepth 100000 in
theorem piece_any (s : ByteArray) (w : World) (_ : s.size ≤ 140737488355328) : Calls Tryz.prog 37 #[.string s] w (PiecePost s w) := by
  go_enter Tryz.func37, Tryz.ntmps37
  go_wp2
  go_loopw [] (fun wr => ∃ pos : Nat, wr = w.iter s pos ∧ pos ≤ s.size ∧ PI s.data.toList pos) (fun wr => s.size - wr.iterPos w.heap.size)
  case atStart => exact ⟨0, rfl, Nat.zero_le _, .inl rfl⟩
  case round =>
    obtain ⟨pos, rfl, hp, hw⟩ := hrel
    by_cases hlt : pos < s.size
    · obtain ⟨c, r, hd, ht⟩ := drop_cons (l := s.data.toList) (k := pos) (by simpa using hlt)
      have hnx : ∀ ty, (Instr.next (.pointer (some ⟨w.heap.size, 0, none⟩)) true ty).run Tryz.prog (w.iter s pos) = _ := fun ty => run_next_any w s pos ty hlt
      rw [dec_of, hd] at hnx
      by_cases h0 : pos = 0
      · subst h0
        have hok : Hid (PI s.data.toList (dec (c :: r)).2 ∧ 0 < (dec (c :: r)).2 ∧ (dec (c :: r)).2 ≤ s.size) := hid (by
          have hd' : s.data.toList = c :: r := by simpa using hd
          have h1 := pi_zero c r
          have h2 := dec_le c r
          have h3 := dec_pos (c :: r)
          rw [← hd'] at h1 ⊢
          refine ⟨h1, by rw [← hd'] at h3; omega, ?_⟩
          have : s.data.toList.length = r.length + 1 := by rw [hd']; rfl
          rw [hd']
          show _ ≤ s.data.toList.length
          omega)
        clear hd ht hw
        generalize (dec (c :: r)).1 = x at *
        generalize (dec (c :: r)).2 = n at *
        have hn := hok.out.2
        go_wp2
        go_roundw
        case rel => exact ⟨n, by simp, hn.2, hok.out.1⟩
        case measure => simp; omega
      · have h1 := let_rune c r
        have h2 := dig_rune c r
        have h3 := ld_width (c := c) r
        have hex := extract_bA s pos
        have hne : s.data.toList ≠ [] := by
          intro h; rw [h] at hd; simp at hd
        have HX := hid (fun w => by have := sign_any (bA (s.data.toList.take pos)) w; rwa [bA_list] at this)
        have hA := hid (fun h => pi_sign s.data.toList pos h)
        have hB := hid (fun hs hc => pi_whole s.data.toList pos (by omega) hne hw hs (.inr ⟨c, r, hd, hc⟩))
        have hC := hid (fun hs hc => pi_step s.data.toList pos (by omega) hw hs c ht (by simpa using hlt) hc)
        clear hd ht hw hne
        generalize (dec (c :: r)).1 = x at *
        generalize (dec (c :: r)).2 = n at *
        have HL := hid (fun w => by have := letter_any x w; rwa [h1] at this)
        have HD := hid (fun w => by have := digit_any x w; rwa [h2] at this)
        have HN := hid (show ldB c = true → n = 1 from h3)
        clear h1 h2 h3
        have hp0 : 0 < pos := by omega
        generalize signL (s.data.toList.take pos) = sb at *
        have hld : ldB c = (letB c || digB c) := rfl
        generalize ldB c = lb at *
        generalize letB c = la at *
        generalize digB c = da at *
        subst hld
        cases sb
        · cases la
          · cases da
            · have hok := hid (hB.out rfl rfl)
              clear hA hB hC HN
              go_wp2_with (first
            | (go_at_call 52; refine (HX.out _).mono ?_; rintro e w' ⟨rfl, rfl⟩)
            | (go_at_call 55; refine (HL.out _).mono ?_; rintro e w' ⟨rfl, rfl⟩)
            | (go_at_call 56; refine (HD.out _).mono ?_; rintro e w' ⟨rfl, rfl⟩))
              go_ret
              exact ⟨by rw [hok.out]; rfl, below_iter _ _ _⟩
            · have hok := hid (hC.out rfl rfl)
              obtain rfl : n = 1 := HN.out rfl
              clear hA hB hC HN
              go_wp2_with (first
            | (go_at_call 52; refine (HX.out _).mono ?_; rintro e w' ⟨rfl, rfl⟩)
            | (go_at_call 55; refine (HL.out _).mono ?_; rintro e w' ⟨rfl, rfl⟩)
            | (go_at_call 56; refine (HD.out _).mono ?_; rintro e w' ⟨rfl, rfl⟩))
              go_roundw
              case rel => exact ⟨pos + 1, rfl, by omega, hok.out⟩
              case measure => simp; omega
          · have hok := hid (hC.out rfl rfl)
            obtain rfl : n = 1 := HN.out rfl
            clear hA hB hC HN
            go_wp2_with (first
            | (go_at_call 52; refine (HX.out _).mono ?_; rintro e w' ⟨rfl, rfl⟩)
            | (go_at_call 55; refine (HL.out _).mono ?_; rintro e w' ⟨rfl, rfl⟩))
            go_roundw
            case rel => exact ⟨pos + 1, rfl, by omega, hok.out⟩
            case measure => simp; omega
        · have hok := hid (hA.out rfl)
          clear hA hB hC HN
          go_wp2_with (first
            | (go_at_call 52; refine (HX.out _).mono ?_; rintro e w' ⟨rfl, rfl⟩))
          go_ret
          exact ⟨by rw [hok.out]; rfl, below_iter _ _ _⟩
    · have hnx : ∀ ty, (Instr.next (.pointer (some ⟨w.heap.size, 0, none⟩)) true ty).run Tryz.prog (w.iter s pos) = _ := fun ty => run_next_end w s pos ty hlt
      have hok : Hid (pieceF s.data.toList = s.data.toList) := hid (by
        obtain rfl : pos = s.size := by omega
        have et : s.data.toList.take s.size = s.data.toList := List.take_of_length_le (Nat.le_refl _)
        have ed : s.data.toList.drop s.size = [] := List.drop_of_length_le (Nat.le_refl _)
        match hl : s.data.toList with
        | [] => rfl
        | c :: r =>
          have h0 : 0 < s.size := by
            show 0 < s.data.toList.length
            rw [hl]; simp
          cases hs1 : signL s.data.toList with
          | true => rw [← hl]; have := pi_sign s.data.toList s.size (by rw [et]; exact hs1); rwa [et] at this
          | false => rw [← hl]; have := pi_whole s.data.toList s.size h0 (by rw [hl]; simp) hw (by rw [et]; exact hs1) (.inl ed); rwa [et] at this)
      clear hw
      go_wp2
      go_ret
      exact ⟨by rw [hok.out, bA_data]; rfl, below_iter _ _ _⟩

set_option maxRecDepth 100000 in
theorem token_any (p : List UInt8) (w : World) (hL : LaidW w) (hne : p ≠ []) (hsz : p.length ≤ 140737488355328) :
    Calls Tryz.prog 36 #[.string (bA p)] w fun e w' => e = .returned (tokR (tokF p)) ∧ Below w.heap.size w w' := by
  match p, hne with
  | c :: r, _ =>
  have h1 := hid (show tokF (c :: r) = (if r = [] ∧ sgB c then .ok ⟨3, c :: r, 0, false⟩ else if wordB (c :: r) then .ok ⟨1, c :: r, 0, false⟩ else if letB c then .error 6 else numF (c :: r)) from rfl)
  have hrl : r.length + 1 ≤ 140737488355328 := by simpa using hsz
  have hm : (bA (c :: r)).size = r.length + 1 := bA_size _
  have hex : (bA (c :: r)).extract 0 1 = bA [c] := by rw [extract_bA, bA_list]; rfl
  have HX := hid (fun w => by have := sign_any (bA (c :: r)) w; rwa [bA_list] at this)
  have HW := hid (fun w => word_any (bA (c :: r)) w (by omega))
  have HV := hid (fun w => word_any (bA [c]) w (by rw [bA_size]; simp))
  have hv : wordB (bA [c]).data.toList = letB c := by rw [bA_list]; simp [wordB]
  have HN := hid (fun w hL => lnum_any (c :: r) w hL hsz)
  have HC := hid (fun w => clone_any (bA (c :: r)) w (by rw [hm]; omega))
  have hsg : signL (c :: r) = decide (r = [] ∧ sgB c = true) := by
    cases r with
    | nil => show sgB c = _; simp
    | cons d r => show false = _; simp
  unfold WordPost at HW HV
  rw [hv] at HV
  rw [bA_list] at HW
  rw [hsg] at HX
  have HL := hid hL
  have hbs : encT = fun t => [.int .i64 t.kind, .string (bA t.s), .int .i64 t.n, .bool t.time] := rfl
  clear hbs
  obtain ⟨s, hs⟩ : ∃ s, bA (c :: r) = s := ⟨_, rfl⟩
  obtain ⟨s1, hs1⟩ : ∃ s, bA [c] = s := ⟨_, rfl⟩
  rw [hs] at HX HW HN HC hm hex ⊢
  rw [hs1] at hex HV
  have hbs : strB (c :: r) = s := hs
  by_cases hA : r = [] ∧ sgB c = true
  · rw [if_pos hA] at h1
    rw [decide_eq_true hA] at HX
    have hv2 : tkS.val ⟨3, c :: r, 0, false⟩ = .agg #[.int .i64 3, .string s, .int .i64 0, .bool false] := by rw [← hbs]; rfl
    clear hA hs hs1 HW HV HN hv hsg hex hm
    go_enter Tryz.func36, Tryz.ntmps36
    go_wp2_with (first
      | (refine Sh.wp_sv tkS (x := ⟨3, c :: r, 0, false⟩) rfl (.tmp 2) (.tmp 9) rfl rfl (by rw [hv2]; rfl) q2 ?_; intro w9 q9 b9 o9 _)
      | (go_at_call 47; refine (HC.out _).mono ?_; rintro e w2 ⟨rfl, g2⟩; have q2 := q1.keep g2; have b2 := b1.trans (g2.mono b1.size); clear q1 g2 b1)
      | (go_at_call 52; refine (HX.out _).mono ?_; rintro e w' ⟨rfl, rfl⟩)
      | (refine Sh.wp_al tkS rfl rfl ?_; intro w1 q1 b1 s1; clear s1))
    exact bodyPost_ret (results_t1 Tryz.results36 _ rfl q9) rfl ⟨by rw [h1.out]; rfl, b2.trans (b9.mono (Nat.le_refl _))⟩
  rw [if_neg hA] at h1
  rw [decide_eq_false hA] at HX
  cases hw : wordB (c :: r) with
  | true =>
    rw [if_pos hw] at h1
    rw [hw] at HW
    have hv2 : tkS.val ⟨1, c :: r, 0, false⟩ = .agg #[.int .i64 1, .string s, .int .i64 0, .bool false] := by rw [← hbs]; rfl
    clear hA hs hs1 HV HN hv hsg hex hm hw
    go_enter Tryz.func36, Tryz.ntmps36
    go_wp2_with (first
      | (refine Sh.wp_sv tkS (x := ⟨1, c :: r, 0, false⟩) rfl (.tmp 2) (.tmp 15) rfl rfl (by rw [hv2]; rfl) q3 ?_; intro w9 q9 b9 o9 _)
      | (go_at_call 47; refine (HC.out _).mono ?_; rintro e w3 ⟨rfl, g3⟩; have q3 := q2.keep g3; have b3 := b2.trans (g3.mono b2.size); clear q2 g3 b2)
      | (go_at_call 53; refine (HW.out _).mono ?_; rintro e w2 ⟨rfl, g2⟩; have q2 := q1.keep g2; have b2 := b1.trans (g2.mono b1.size); clear q1 g2 b1)
      | (go_at_call 52; refine (HX.out _).mono ?_; rintro e w' ⟨rfl, rfl⟩)
      | (refine Sh.wp_al tkS rfl rfl ?_; intro w1 q1 b1 s1; clear s1))
    exact bodyPost_ret (results_t1 Tryz.results36 _ rfl q9) rfl ⟨by rw [h1.out]; rfl, b3.trans (b9.mono (Nat.le_refl _))⟩
  | false =>
    rw [if_neg (by rw [hw]; decide)] at h1
    rw [hw] at HW
    cases hl : letB c with
    | true =>
      rw [if_pos hl] at h1
      rw [hl] at HV
      clear hA hs hs1 HC HN hv hsg hw hl
      go_enter Tryz.func36, Tryz.ntmps36
      go_wp2_with (first
        | (refine Sh.wp_sv tkS (x := ⟨0, [], 0, false⟩) rfl (.tmp 2) (.tmp 20) rfl rfl (by rfl) q3 ?_; intro w9 q9 b9 o9 _)
        | (go_at_call 53; (with_reducible refine (HV.out _).mono ?_); rintro e w3 ⟨rfl, g3⟩; have q3 := q2.keep g3; have b3 := b2.trans (g3.mono b2.size); clear q2 g3 b2)
        | (go_at_call 53; refine (HW.out _).mono ?_; rintro e w2 ⟨rfl, g2⟩; have q2 := q1.keep g2; have b2 := b1.trans (g2.mono b1.size); clear q1 g2 b1)
        | (go_at_call 52; refine (HX.out _).mono ?_; rintro e w' ⟨rfl, rfl⟩)
        | (refine Sh.wp_al tkS rfl rfl ?_; intro w1 q1 b1 s1; clear s1))
      exact bodyPost_ret (results_t1 Tryz.results36 _ rfl q9) rfl ⟨by rw [h1.out]; rfl, b3.trans (b9.mono (Nat.le_refl _))⟩
    | false =>
      rw [if_neg (by rw [hl]; decide)] at h1
      rw [hl] at HV
      clear hA hs hs1 HC hv hsg hw hl
      obtain ⟨t, e, ht⟩ : ∃ t e, tokR (numF (c :: r)) = .tuple #[tkV t, .int .i64 e] := by
        cases numF (c :: r) with
        | ok t => exact ⟨t, 0, rfl⟩
        | error e => exact ⟨⟨0, [], 0, false⟩, e, rfl⟩
      rw [ht] at HN
      have h1 := hid (show tokR (tokF (c :: r)) = .tuple #[tkV t, .int .i64 e] by rw [h1.out, ht])
      clear ht
      go_enter Tryz.func36, Tryz.ntmps36
      go_wp2_with (first
        | (refine Sh.wp_sv tkS (x := t) rfl (.tmp 2) (.tmp 23) rfl rfl (by rfl) q4 ?_; intro w9 q9 b9 o9 _)
        | (go_at_call 54; refine (HN.out _ (HL.out.below b3)).mono ?_; rintro e w4 ⟨rfl, g4⟩; have q4 := q3.keep g4; have b4 := b3.trans (g4.mono b3.size); clear q3 g4 b3)
        | (go_at_call 53; (with_reducible refine (HV.out _).mono ?_); rintro e w3 ⟨rfl, g3⟩; have q3 := q2.keep g3; have b3 := b2.trans (g3.mono b2.size); clear q2 g3 b2)
        | (go_at_call 53; refine (HW.out _).mono ?_; rintro e w2 ⟨rfl, g2⟩; have q2 := q1.keep g2; have b2 := b1.trans (g2.mono b1.size); clear q1 g2 b1)
        | (go_at_call 52; refine (HX.out _).mono ?_; rintro e w' ⟨rfl, rfl⟩)
        | (refine Sh.wp_al tkS rfl rfl ?_; intro w1 q1 b1 s1; clear s1))
      exact bodyPost_ret (results_t1 Tryz.results36 _ rfl q9) rfl ⟨by rw [h1.out]; rfl, b4.trans (b9.mono (Nat.le_refl _))⟩
end Go.Proofs.YtinjhnflnfpoeaaGreatDoor
