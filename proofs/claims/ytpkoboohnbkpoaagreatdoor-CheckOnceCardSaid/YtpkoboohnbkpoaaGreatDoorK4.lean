/-
  LF: Contracts of lex.piece, lex.token: what a text begins with, cut as far as it goes, and what a piece is (of at most 2^47 bytes); token under: the tables hold what the program lays (LaidW).
  LG: The contract of lex.Where: the place of a text's byte (of at most 2^38 bytes), or why not; under: the tables hold what the program lays (LaidW).
  LH: Plain words of lex.Cut's loop: where it has come to (CI), and what each of its ways does to it. No model's run; no condition.
  LI: The contract of lex.Cut: what a text is cut into, or what is wrong, and where (of any text); under: the tables hold what the program lays (LaidW).
  PN: Contracts of the reader's now, wrong and numbers, at every reader of at most a million tokens.
-/
import Derived.Test.YtpkoboohnbkpoaaGreatDoorK3
import Derived.Deep.RegionHeld3
import Derived.Deep.RegionWith
import Derived.Deep.DeepCutAuto
import Derived.Lib.OthersKept
import Derived.Test.YtpkoboohnbkpoaaGreatDoorK2
import Derived.BigQuiet
/-! LF -/
namespace Go.Proofs.YtpkoboohnbkpoaaGreatDoor
open Go Go.RowKit Go.Joins

/-- Where the cutting of a piece has come to. -/
def PI (l : List UInt8) (pos : Nat) : Prop := pos = 0 ∨ ((dec l).2 ≤ pos ∧ ((l.take pos).drop (dec l).2).all ldB = true ∧ ((dec l).2 < pos → signL (l.take (dec l).2) = false))

theorem takeWhile_stop (f : UInt8 → Bool) (a b : List UInt8) (ha : a.all f = true) (hb : b = [] ∨ ∃ c r, b = c :: r ∧ f c = false) : (a ++ b).takeWhile f = a := by
  induction a with
  | nil =>
    rcases hb with rfl | ⟨c, r, rfl, h⟩
    · rfl
    · rw [List.nil_append, List.takeWhile_cons_of_neg (by rw [h]; decide)]
  | cons d a ih =>
    rw [List.all_cons, Bool.and_eq_true] at ha
    rw [List.cons_append, List.takeWhile_cons_of_pos ha.1, ih ha.2]

theorem pi_zero (c : UInt8) (r : List UInt8) : PI (c :: r) (dec (c :: r)).2 := by
  refine .inr ⟨Nat.le_refl _, ?_, fun h => absurd h (Nat.lt_irrefl _)⟩
  rw [List.drop_of_length_le (by rw [List.length_take]; omega)]
  rfl
theorem pi_sign (l : List UInt8) (pos : Nat) (h : signL (l.take pos) = true) : pieceF l = l.take pos := by
  match l with
  | [] => cases pos <;> cases h
  | c :: r =>
    match pos with
    | 0 => cases h
    | k + 1 =>
      rw [List.take_succ_cons] at h ⊢
      match hk : r.take k with
      | [] =>
        rw [hk] at h
        have h : sgB c = true := h
        rw [pieceF_cons, if_pos h]
      | d :: e => rw [hk] at h; cases h
theorem pi_nosign (c : UInt8) (r : List UInt8) (pos : Nat) (h0 : 0 < pos) (h : PI (c :: r) pos) (hs : signL ((c :: r).take pos) = false) : sgB c = false := by
  rcases h with h | ⟨h1, h2, h3⟩
  · omega
  · cases hc : sgB c with
    | false => rfl
    | true =>
      rw [dec_ascii c r (sg_ascii hc).1] at h3
      by_cases hp : pos = 1
      · subst hp
        have : sgB c = false := hs
        rw [this] at hc; exact hc.symm
      · have : sgB c = false := h3 (show 1 < pos by omega)
        rw [this] at hc; exact hc.symm
theorem pi_whole (l : List UInt8) (pos : Nat) (h0 : 0 < pos) (hl : l ≠ []) (h : PI l pos) (hs : signL (l.take pos) = false) (hb : l.drop pos = [] ∨ ∃ c r, l.drop pos = c :: r ∧ ldB c = false) : pieceF l = l.take pos := by
  match l, hl with
  | c :: r, _ =>
    have hc := pi_nosign c r pos h0 h hs
    rcases h with h | ⟨h1, h2, h3⟩
    · omega
    · rw [pieceF_cons, if_neg (by rw [hc]; decide)]
      generalize dec (c :: r) = dd at *
      have e : (c :: r).drop dd.2 = ((c :: r).take pos).drop dd.2 ++ (c :: r).drop pos := by
        conv => lhs; rw [← List.take_append_drop pos (c :: r)]
        by_cases hp : pos ≤ (c :: r).length
        · rw [List.drop_append_of_le_length (by rw [List.length_take]; omega)]
        · rw [List.drop_of_length_le (i := pos) (by omega), List.append_nil, List.append_nil]
      rw [e, takeWhile_stop ldB _ _ h2 hb]
      have e2 : (c :: r).take dd.2 = ((c :: r).take pos).take dd.2 := by rw [List.take_take, Nat.min_eq_left h1]
      rw [e2, List.take_append_drop]
theorem pi_step (l : List UInt8) (pos : Nat) (h0 : 0 < pos) (h : PI l pos) (hs : signL (l.take pos) = false) (c : UInt8) (ht : l.take (pos + 1) = l.take pos ++ [c]) (hp : pos < l.length) (hc : ldB c = true) : PI l (pos + 1) := by
  rcases h with h | ⟨h1, h2, h3⟩
  · omega
  · refine .inr ⟨by omega, ?_, fun h4 => ?_⟩
    · rw [ht, List.drop_append_of_le_length (by rw [List.length_take]; omega), List.all_append, h2]
      simp [hc]
    · by_cases h5 : (dec l).2 < pos
      · exact h3 h5
      · have : (dec l).2 = pos := by omega
        rw [this]; exact hs
theorem extract_take (s : ByteArray) (k : Nat) : (s.extract 0 k).data.toList = s.data.toList.take k := by
  rw [ByteArray.data_extract, Array.toList_extract]
  simp [List.extract_eq_take_drop]
theorem extract_bA (s : ByteArray) (k : Nat) : s.extract 0 k = bA (s.data.toList.take k) := by
  rw [← extract_take, bA_data]

def PiecePost (s : ByteArray) (w : World) (e : Ending) (w' : World) : Prop := e = .returned (.string (bA (pieceF s.data.toList))) ∧ Below w.heap.size w w'

set_option maxRecDepth 100000 in
theorem piece_any (s : ByteArray) (w : World) (_ : s.size ≤ 140737488355328) : Calls Tryz.prog 89 #[.string s] w (PiecePost s w) := by
  go_enter Tryz.func89, Tryz.ntmps89
  go_wp2
  go_loopw [] (fun wr => ∃ pos : Nat, wr = w.iter s pos ∧ pos ≤ s.size ∧ PI s.data.toList pos) (fun wr => s.size - wr.iterPos w.heap.size)
  case atStart => exact ⟨0, rfl, Nat.zero_le _, .inl rfl⟩
  case round =>
    obtain ⟨pos, rfl, hp, hw⟩ := hrel
    by_cases hlt : pos < s.size
    · obtain ⟨c, r, hd, ht⟩ := drop_cons (l := s.data.toList) (k := pos) (by simpa using hlt)
      have hnx : ∀ ty, (Instr.next (.pointer (some ⟨w.heap.size, 0, none⟩)) true ty).run Tryz.prog (w.iter s pos) = _ := fun ty => run_next_any w s pos ty hlt
      rw [dec_of, hd] at hnx
      by_cases h0 : pos = 0
      · subst h0
        have hok : Hid (PI s.data.toList (dec (c :: r)).2 ∧ 0 < (dec (c :: r)).2 ∧ (dec (c :: r)).2 ≤ s.size) := hid (by
          have hd' : s.data.toList = c :: r := by simpa using hd
          have h1 := pi_zero c r
          have h2 := dec_le c r
          have h3 := dec_pos (c :: r)
          rw [← hd'] at h1 ⊢
          refine ⟨h1, by rw [← hd'] at h3; omega, ?_⟩
          have : s.data.toList.length = r.length + 1 := by rw [hd']; rfl
          rw [hd']
          show _ ≤ s.data.toList.length
          omega)
        clear hd ht hw
        generalize (dec (c :: r)).1 = x at *
        generalize (dec (c :: r)).2 = n at *
        have hn := hok.out.2
        go_wp2
        go_roundw
        case rel => exact ⟨n, by simp, hn.2, hok.out.1⟩
        case measure => simp; omega
      · have h1 := let_rune c r
        have h2 := dig_rune c r
        have h3 := ld_width (c := c) r
        have hex := extract_bA s pos
        have hne : s.data.toList ≠ [] := by
          intro h; rw [h] at hd; simp at hd
        have HX := hid (fun w => by have := sign_any (bA (s.data.toList.take pos)) w; rwa [bA_list] at this)
        have hA := hid (fun h => pi_sign s.data.toList pos h)
        have hB := hid (fun hs hc => pi_whole s.data.toList pos (by omega) hne hw hs (.inr ⟨c, r, hd, hc⟩))
        have hC := hid (fun hs hc => pi_step s.data.toList pos (by omega) hw hs c ht (by simpa using hlt) hc)
        clear hd ht hw hne
        generalize (dec (c :: r)).1 = x at *
        generalize (dec (c :: r)).2 = n at *
        have HL := hid (fun w => by have := letter_any x w; rwa [h1] at this)
        have HD := hid (fun w => by have := digit_any x w; rwa [h2] at this)
        have HN := hid (show ldB c = true → n = 1 from h3)
        clear h1 h2 h3
        have hp0 : 0 < pos := by omega
        generalize signL (s.data.toList.take pos) = sb at *
        have hld : ldB c = (letB c || digB c) := rfl
        generalize ldB c = lb at *
        generalize letB c = la at *
        generalize digB c = da at *
        subst hld
        cases sb
        · cases la
          · cases da
            · have hok := hid (hB.out rfl rfl)
              clear hA hB hC HN
              go_wp2_with (first
            | (go_at_call 121; refine (HX.out _).mono ?_; rintro e w' ⟨rfl, rfl⟩)
            | (go_at_call 125; refine (HL.out _).mono ?_; rintro e w' ⟨rfl, rfl⟩)
            | (go_at_call 126; refine (HD.out _).mono ?_; rintro e w' ⟨rfl, rfl⟩))
              go_ret
              exact ⟨by rw [hok.out]; rfl, below_iter _ _ _⟩
            · have hok := hid (hC.out rfl rfl)
              obtain rfl : n = 1 := HN.out rfl
              clear hA hB hC HN
              go_wp2_with (first
            | (go_at_call 121; refine (HX.out _).mono ?_; rintro e w' ⟨rfl, rfl⟩)
            | (go_at_call 125; refine (HL.out _).mono ?_; rintro e w' ⟨rfl, rfl⟩)
            | (go_at_call 126; refine (HD.out _).mono ?_; rintro e w' ⟨rfl, rfl⟩))
              go_roundw
              case rel => exact ⟨pos + 1, rfl, by omega, hok.out⟩
              case measure => simp; omega
          · have hok := hid (hC.out rfl rfl)
            obtain rfl : n = 1 := HN.out rfl
            clear hA hB hC HN
            go_wp2_with (first
            | (go_at_call 121; refine (HX.out _).mono ?_; rintro e w' ⟨rfl, rfl⟩)
            | (go_at_call 125; refine (HL.out _).mono ?_; rintro e w' ⟨rfl, rfl⟩))
            go_roundw
            case rel => exact ⟨pos + 1, rfl, by omega, hok.out⟩
            case measure => simp; omega
        · have hok := hid (hA.out rfl)
          clear hA hB hC HN
          go_wp2_with (first
            | (go_at_call 121; refine (HX.out _).mono ?_; rintro e w' ⟨rfl, rfl⟩))
          go_ret
          exact ⟨by rw [hok.out]; rfl, below_iter _ _ _⟩
    · have hnx : ∀ ty, (Instr.next (.pointer (some ⟨w.heap.size, 0, none⟩)) true ty).run Tryz.prog (w.iter s pos) = _ := fun ty => run_next_end w s pos ty hlt
      have hok : Hid (pieceF s.data.toList = s.data.toList) := hid (by
        obtain rfl : pos = s.size := by omega
        have et : s.data.toList.take s.size = s.data.toList := List.take_of_length_le (Nat.le_refl _)
        have ed : s.data.toList.drop s.size = [] := List.drop_of_length_le (Nat.le_refl _)
        match hl : s.data.toList with
        | [] => rfl
        | c :: r =>
          have h0 : 0 < s.size := by
            show 0 < s.data.toList.length
            rw [hl]; simp
          cases hs1 : signL s.data.toList with
          | true => rw [← hl]; have := pi_sign s.data.toList s.size (by rw [et]; exact hs1); rwa [et] at this
          | false => rw [← hl]; have := pi_whole s.data.toList s.size h0 (by rw [hl]; simp) hw (by rw [et]; exact hs1) (.inl ed); rwa [et] at this)
      clear hw
      go_wp2
      go_ret
      exact ⟨by rw [hok.out, bA_data]; rfl, below_iter _ _ _⟩

set_option maxRecDepth 100000 in
theorem token_any (p : List UInt8) (w : World) (hL : LaidW w) (hne : p ≠ []) (hsz : p.length ≤ 140737488355328) :
    Calls Tryz.prog 88 #[.string (bA p)] w fun e w' => e = .returned (tokR (tokF p)) ∧ Below w.heap.size w w' := by
  match p, hne with
  | c :: r, _ =>
  have h1 := hid (show tokF (c :: r) = (if r = [] ∧ sgB c then .ok ⟨3, c :: r, 0, false⟩ else if wordB (c :: r) then .ok ⟨1, c :: r, 0, false⟩ else if letB c then .error 6 else numF (c :: r)) from rfl)
  have hrl : r.length + 1 ≤ 140737488355328 := by simpa using hsz
  have hm : (bA (c :: r)).size = r.length + 1 := bA_size _
  have hex : (bA (c :: r)).extract 0 1 = bA [c] := by rw [extract_bA, bA_list]; rfl
  have HX := hid (fun w => by have := sign_any (bA (c :: r)) w; rwa [bA_list] at this)
  have HW := hid (fun w => word_any (bA (c :: r)) w (by omega))
  have HV := hid (fun w => word_any (bA [c]) w (by rw [bA_size]; simp))
  have hv : wordB (bA [c]).data.toList = letB c := by rw [bA_list]; simp [wordB]
  have HN := hid (fun w hL => lnum_any (c :: r) w hL hsz)
  have HC := hid (fun w => clone_any (bA (c :: r)) w (by rw [hm]; omega))
  have hsg : signL (c :: r) = decide (r = [] ∧ sgB c = true) := by
    cases r with
    | nil => show sgB c = _; simp
    | cons d r => show false = _; simp
  unfold WordPost at HW HV
  rw [hv] at HV
  rw [bA_list] at HW
  rw [hsg] at HX
  have HL := hid hL
  have hbs : encT = fun t => [.int .i64 t.kind, .string (bA t.s), .int .i64 t.n, .bool t.time] := rfl
  clear hbs
  obtain ⟨s, hs⟩ : ∃ s, bA (c :: r) = s := ⟨_, rfl⟩
  obtain ⟨s1, hs1⟩ : ∃ s, bA [c] = s := ⟨_, rfl⟩
  rw [hs] at HX HW HN HC hm hex ⊢
  rw [hs1] at hex HV
  have hbs : strB (c :: r) = s := hs
  by_cases hA : r = [] ∧ sgB c = true
  · rw [if_pos hA] at h1
    rw [decide_eq_true hA] at HX
    have hv2 : tkS.val ⟨3, c :: r, 0, false⟩ = .agg #[.int .i64 3, .string s, .int .i64 0, .bool false] := by rw [← hbs]; rfl
    clear hA hs hs1 HW HV HN hv hsg hex hm
    go_enter Tryz.func88, Tryz.ntmps88
    go_wp2_with (first
      | (refine Sh.wp_sv tkS (x := ⟨3, c :: r, 0, false⟩) rfl (.tmp 2) (.tmp 9) rfl rfl (by rw [hv2]; rfl) q2 ?_; intro w9 q9 b9 o9 _)
      | (go_at_call 122; refine (HC.out _).mono ?_; rintro e w2 ⟨rfl, g2⟩; have q2 := q1.keep g2; have b2 := b1.trans (g2.mono b1.size); clear q1 g2 b1)
      | (go_at_call 121; refine (HX.out _).mono ?_; rintro e w' ⟨rfl, rfl⟩)
      | (refine Sh.wp_al tkS rfl rfl ?_; intro w1 q1 b1 s1; clear s1))
    exact bodyPost_ret (results_t1 Tryz.results88 _ rfl q9) rfl ⟨by rw [h1.out]; rfl, b2.trans (b9.mono (Nat.le_refl _))⟩
  rw [if_neg hA] at h1
  rw [decide_eq_false hA] at HX
  cases hw : wordB (c :: r) with
  | true =>
    rw [if_pos hw] at h1
    rw [hw] at HW
    have hv2 : tkS.val ⟨1, c :: r, 0, false⟩ = .agg #[.int .i64 1, .string s, .int .i64 0, .bool false] := by rw [← hbs]; rfl
    clear hA hs hs1 HV HN hv hsg hex hm hw
    go_enter Tryz.func88, Tryz.ntmps88
    go_wp2_with (first
      | (refine Sh.wp_sv tkS (x := ⟨1, c :: r, 0, false⟩) rfl (.tmp 2) (.tmp 15) rfl rfl (by rw [hv2]; rfl) q3 ?_; intro w9 q9 b9 o9 _)
      | (go_at_call 122; refine (HC.out _).mono ?_; rintro e w3 ⟨rfl, g3⟩; have q3 := q2.keep g3; have b3 := b2.trans (g3.mono b2.size); clear q2 g3 b2)
      | (go_at_call 123; refine (HW.out _).mono ?_; rintro e w2 ⟨rfl, g2⟩; have q2 := q1.keep g2; have b2 := b1.trans (g2.mono b1.size); clear q1 g2 b1)
      | (go_at_call 121; refine (HX.out _).mono ?_; rintro e w' ⟨rfl, rfl⟩)
      | (refine Sh.wp_al tkS rfl rfl ?_; intro w1 q1 b1 s1; clear s1))
    exact bodyPost_ret (results_t1 Tryz.results88 _ rfl q9) rfl ⟨by rw [h1.out]; rfl, b3.trans (b9.mono (Nat.le_refl _))⟩
  | false =>
    rw [if_neg (by rw [hw]; decide)] at h1
    rw [hw] at HW
    cases hl : letB c with
    | true =>
      rw [if_pos hl] at h1
      rw [hl] at HV
      clear hA hs hs1 HC HN hv hsg hw hl
      go_enter Tryz.func88, Tryz.ntmps88
      go_wp2_with (first
        | (refine Sh.wp_sv tkS (x := ⟨0, [], 0, false⟩) rfl (.tmp 2) (.tmp 20) rfl rfl (by rfl) q3 ?_; intro w9 q9 b9 o9 _)
        | (go_at_call 123; (with_reducible refine (HV.out _).mono ?_); rintro e w3 ⟨rfl, g3⟩; have q3 := q2.keep g3; have b3 := b2.trans (g3.mono b2.size); clear q2 g3 b2)
        | (go_at_call 123; refine (HW.out _).mono ?_; rintro e w2 ⟨rfl, g2⟩; have q2 := q1.keep g2; have b2 := b1.trans (g2.mono b1.size); clear q1 g2 b1)
        | (go_at_call 121; refine (HX.out _).mono ?_; rintro e w' ⟨rfl, rfl⟩)
        | (refine Sh.wp_al tkS rfl rfl ?_; intro w1 q1 b1 s1; clear s1))
      exact bodyPost_ret (results_t1 Tryz.results88 _ rfl q9) rfl ⟨by rw [h1.out]; rfl, b3.trans (b9.mono (Nat.le_refl _))⟩
    | false =>
      rw [if_neg (by rw [hl]; decide)] at h1
      rw [hl] at HV
      clear hA hs hs1 HC hv hsg hw hl
      obtain ⟨t, e, ht⟩ : ∃ t e, tokR (numF (c :: r)) = .tuple #[tkV t, .int .i64 e] := by
        cases numF (c :: r) with
        | ok t => exact ⟨t, 0, rfl⟩
        | error e => exact ⟨⟨0, [], 0, false⟩, e, rfl⟩
      rw [ht] at HN
      have h1 := hid (show tokR (tokF (c :: r)) = .tuple #[tkV t, .int .i64 e] by rw [h1.out, ht])
      clear ht
      go_enter Tryz.func88, Tryz.ntmps88
      go_wp2_with (first
        | (refine Sh.wp_sv tkS (x := t) rfl (.tmp 2) (.tmp 23) rfl rfl (by rfl) q4 ?_; intro w9 q9 b9 o9 _)
        | (go_at_call 124; refine (HN.out _ (HL.out.below b3)).mono ?_; rintro e w4 ⟨rfl, g4⟩; have q4 := q3.keep g4; have b4 := b3.trans (g4.mono b3.size); clear q3 g4 b3)
        | (go_at_call 123; (with_reducible refine (HV.out _).mono ?_); rintro e w3 ⟨rfl, g3⟩; have q3 := q2.keep g3; have b3 := b2.trans (g3.mono b2.size); clear q2 g3 b2)
        | (go_at_call 123; refine (HW.out _).mono ?_; rintro e w2 ⟨rfl, g2⟩; have q2 := q1.keep g2; have b2 := b1.trans (g2.mono b1.size); clear q1 g2 b1)
        | (go_at_call 121; refine (HX.out _).mono ?_; rintro e w' ⟨rfl, rfl⟩)
        | (refine Sh.wp_al tkS rfl rfl ?_; intro w1 q1 b1 s1; clear s1))
      exact bodyPost_ret (results_t1 Tryz.results88 _ rfl q9) rfl ⟨by rw [h1.out]; rfl, b4.trans (b9.mono (Nat.le_refl _))⟩
end Go.Proofs.YtpkoboohnbkpoaaGreatDoor

/-! LG -/
namespace Go.Proofs.YtpkoboohnbkpoaaGreatDoor
open Go Go.RowKit Go.Joins

theorem LaidW.firstc {w : World} (h : LaidW w) : w.cell? ⟨3, 0, none⟩ = some (.int .i64 1) ∧ w.cell? ⟨3, 1, none⟩ = some (.int .i64 1) ∧ 3 < w.heap.size := by
  have hu := h.first
  unfold World.var? at hu
  rw [gFirst] at hu
  simp only [Option.bind_some] at hu
  split at hu
  · rename_i cs t fr hh
    cases hu
    refine ⟨?_, ?_, ?_⟩
    · rw [cell_of_row w 3 _ _ t fr hh]; rfl
    · rw [cell_of_row w 3 _ _ t fr hh]; rfl
    · exact (Array.getElem?_eq_some_iff.1 hh).1
  · cases hu

theorem plAt_step (l : List UInt8) (pos : Nat) (c : UInt8) (r : List UInt8) (hd : l.drop pos = c :: r) (p : Pl) (b : Nat) :
    plAt (l.drop pos) p b = if b < (dec (c :: r)).2 then p else plAt (l.drop (pos + (dec (c :: r)).2)) (behindP p (dec (c :: r)).1) (b - (dec (c :: r)).2) := by
  have htd := tail_drop c r (dec (c :: r)).2 (dec_pos _)
  rw [hd, plAt, htd, ← List.drop_drop, hd]
theorem two_stored {w8 w9 : World} {g6 g7 : Nat} {hr nx : Pl} (v6 : plS.Var w8 g6 hr) (v7 : plS.Var w8 g7 nx) (hg : g6 ≠ g7) (bp : Pl)
    (hW : w9 = (((w8.setCell ⟨g6, 0, none⟩ (.int .i64 nx.line)).setCell ⟨g6, 1, none⟩ (.int .i64 nx.col)).setCell ⟨g7, 0, none⟩ (.int .i64 bp.line)).setCell ⟨g7, 1, none⟩ (.int .i64 bp.col)) :
    plS.Var w9 g6 nx ∧ plS.Var w9 g7 bp ∧ (∀ j, j ≠ g6 → j ≠ g7 → w9.heap[j]? = w8.heap[j]?) ∧ ∀ B, B ≤ g6 → B ≤ g7 → Below B w8 w9 := by
  have hW : w9 = (w8.setCells g6 0 (encP nx)).setCells g7 0 (encP bp) := hW
  subst hW
  have z6 := Sh.var_stored (σ := plS) v6.2 nx
  have y6 := setCells_oth g6 (encP nx) 0 w8
  have y7 := v7.other y6.2 (Ne.symm hg)
  have z7 := Sh.var_stored (σ := plS) y7.2 bp
  have x7 := setCells_oth g7 (encP bp) 0 (w8.setCells g6 0 (encP nx))
  exact ⟨z6.other x7.2 hg, z7, fun j h1 h2 => (x7.2 j h2).trans (y6.2 j h1), fun B h1 h2 => (y6.1.mono h1).trans (x7.1.mono h2)⟩
/-- what Where tells -/
def whereR (l : List UInt8) (at_ : Int) : Value := if at_ < 0 ∨ (l.length : Int) < at_ then .tuple #[plV ⟨0, 0⟩, .int .i64 1] else .tuple #[plV (plAt l firstP at_.toNat), .int .i64 0]
def WherePost (s : ByteArray) (at_ : Int) (w : World) (e : Ending) (w' : World) : Prop := e = .returned (whereR s.data.toList at_) ∧ Below w.heap.size w w'

set_option maxRecDepth 100000 in
theorem where_bad (s : ByteArray) (at_ : Int) (w : World) (h : at_ < 0 ∨ (s.size : Int) < at_) : Calls Tryz.prog 44 #[.string s, .int .i64 at_] w (WherePost s at_ w) := by
  have h1 := hid (show whereR s.data.toList at_ = _ from if_pos h)
  rcases h with h | h
  · go_enter Tryz.func44, Tryz.ntmps44
    go_wp2_with (first
      | (refine Sh.wp_sv plS (x := ⟨0, 0⟩) rfl (.tmp 4) (.tmp 18) rfl rfl (by rfl) q1 ?_; intro w9 q9 b9 o9 _)
      | (refine Sh.wp_al plS rfl rfl ?_; intro w1 q1 b1 s1; clear s1))
    exact bodyPost_ret (results_p1 Tryz.results44 _ rfl q9) rfl ⟨by rw [h1.out]; rfl, b1.trans (b9.mono (Nat.le_refl _))⟩
  · have h0 : ¬ at_ < 0 := by omega
    go_enter Tryz.func44, Tryz.ntmps44
    go_wp2_with (first
      | (refine Sh.wp_sv plS (x := ⟨0, 0⟩) rfl (.tmp 4) (.tmp 18) rfl rfl (by rfl) q1 ?_; intro w9 q9 b9 o9 _)
      | (refine Sh.wp_al plS rfl rfl ?_; intro w1 q1 b1 s1; clear s1))
    exact bodyPost_ret (results_p1 Tryz.results44 _ rfl q9) rfl ⟨by rw [h1.out]; rfl, b1.trans (b9.mono (Nat.le_refl _))⟩

set_option maxHeartbeats 2000000 in
set_option maxRecDepth 100000 in
theorem where_ok (s : ByteArray) (a : Nat) (w : World) (hL : LaidW w) (h : a ≤ s.size) (hs : s.size ≤ 274877906944) : Calls Tryz.prog 44 #[.string s, .int .i64 a] w (WherePost s a w) := by
  have h1 := hid (show whereR s.data.toList a = .tuple #[plV (plAt s.data.toList firstP a), .int .i64 0] from if_neg (by show ¬ ((a : Int) < 0 ∨ ((s.size : Nat) : Int) < a); omega))
  have h0 : ¬ (s.size : Int) < a := by omega
  obtain ⟨f0, f1, hfs⟩ := hL.firstc
  go_enter Tryz.func44, Tryz.ntmps44
  go_wp2_with (first
    | (refine Sh.wp_al plS rfl rfl ?_; intro w1 q1 b1 s1; have f0 : w1.cell? ⟨3, 0, none⟩ = some (.int .i64 1) := (b1.cell (p := ⟨3, 0, none⟩) hfs).trans f0; have f1 : w1.cell? ⟨3, 1, none⟩ = some (.int .i64 1) := (b1.cell (p := ⟨3, 1, none⟩) hfs).trans f1; have hf1 : 3 < w1.heap.size := Nat.lt_of_lt_of_le hfs b1.size; have Q1 := hid q1; have B1 := hid b1; have S1 := hid s1.out; clear q1 b1 s1))
  have hne : ∀ k, ¬ (3 = w1.heap.size + k) := fun k => by omega
  go_cut [6, 7] (fun v6 v7 wx => ∃ g6 g7, v6 = .pointer (some ⟨g6, 0, none⟩) ∧ v7 = .pointer (some ⟨g7, 0, none⟩) ∧ g6 ≠ g7 ∧ w1.heap.size ≤ g6 ∧ w1.heap.size ≤ g7 ∧ Hid (plS.Var wx g6 firstP) ∧ Hid (plS.Var wx g7 firstP) ∧ Hid (Below w1.heap.size w1 wx))
  case first =>
    go_region_held3 (fun w' => w'.cell? ⟨3, 0, none⟩ = some (.int .i64 1) ∧ w'.cell? ⟨3, 1, none⟩ = some (.int .i64 1)) (first | with_reducible exact ⟨f0, f1⟩ | go_keep) (first | fail)
    all_goals
      go_wp2_with fail
      go_meet
      first
        | exact ⟨_, _, rfl, rfl, by omega, by omega, by omega, hid ((Sh.var_new w1 firstP _).keep (((Below.refl _ _).alloc (Nat.le_refl _) _).drew)), hid (by have := Sh.var_new (σ := plS) (w1.alloc (.cells #[.int .i64 1, .int .i64 1] 26)) firstP 26; simp at this; exact this.drew), hid ((((Below.refl _ _).alloc (Nat.le_refl _) _).alloc (by simp) _).drew)⟩
        | exact ⟨_, _, rfl, rfl, by omega, by omega, by omega, hid (by have := Sh.var_new (σ := plS) (w1.alloc (.cells #[.int .i64 1, .int .i64 1] 26)) firstP 26; simp at this; exact this.drew), hid ((Sh.var_new w1 firstP _).keep (((Below.refl _ _).alloc (Nat.le_refl _) _).drew)), hid ((((Below.refl _ _).alloc (Nat.le_refl _) _).alloc (by simp) _).drew)⟩
  case rest =>
    obtain ⟨g6, g7, rfl, rfl, hg, hg6, hg7, V6, V7, BX⟩ := hcut
    have hk6 : g6 < wc.heap.size := V6.out.lt
    have hk7 : g7 < wc.heap.size := V7.out.lt
    go_wp2_with fail
    generalize hk : wc.heap.size = k at *
    have I0 : Hid ((wc.iter s 0).heap[k]? = some (.stringIter s 0)) := hid (by rw [← hk]; exact World.iter_heap wc s 0)
    have bI : Below wc.heap.size wc (wc.iter s 0) := below_iter wc s 0
    have W6 := hid (V6.out.keep bI)
    have W7 := hid (V7.out.keep bI)
    have BY := hid (BX.out.trans (bI.mono BX.out.size))
    clear bI V6 V7 BX hne f0 f1 hf1 hk
    generalize wc.iter s 0 = wi at *
    go_loopw [] (fun wr => ∃ (pos : Nat) (hr nx : Pl), wr.heap[k]? = some (.stringIter s pos) ∧ pos ≤ s.size ∧ plS.Var wr g6 hr ∧ plS.Var wr g7 nx ∧ Below w1.heap.size w1 wr ∧ (hr.line ≤ pos + 1 ∧ hr.col ≤ pos + 1 ∧ nx.line ≤ pos + 1 ∧ nx.col ≤ pos + 1) ∧ (a < pos → hr = plAt s.data.toList firstP a) ∧ (pos ≤ a → plAt (s.data.toList.drop pos) nx (a - pos) = plAt s.data.toList firstP a)) (fun wr => s.size - wr.iterPos k)
    case atStart => exact ⟨0, firstP, firstP, I0.out, Nat.zero_le _, W6.out, W7.out, BY.out, ⟨by decide, by decide, by decide, by decide⟩, fun h => by omega, fun _ => rfl⟩
    case round =>
      obtain ⟨pos, hr, nx, hit, hp, hv6, hv7, hbel, ⟨hb1, hb2, hb3, hb4⟩, hi1, hi2⟩ := hrel
      clear I0 W6 W7 BY
      have V1 := hid (Q1.out.keep hbel)
      by_cases hlt : pos < s.size
      · obtain ⟨c, r, hd, ht⟩ := drop_cons (l := s.data.toList) (k := pos) (by simpa using hlt)
        have hnx : ∀ ty, (Instr.next (.pointer (some ⟨k, 0, none⟩)) true ty).run Tryz.prog wr = _ := fun ty => Lib.run_next_any_at wr k s pos ty hit hlt
        rw [dec_of, hd] at hnx
        have hpl := plAt_step s.data.toList pos c r hd nx
        have h3 := dec_pos (c :: r)
        have h4 := dec_le c r
        have hlen : s.data.toList.length = pos + (r.length + 1) := by
          have := congrArg List.length hd
          rw [List.length_drop] at this
          simp only [List.length_cons] at this
          have h5 : pos < s.data.toList.length := by simpa using hlt
          omega
        have hlen' : s.size = pos + (r.length + 1) := hlen
        clear hd ht hlen
        generalize (dec (c :: r)).1 = x at *
        generalize (dec (c :: r)).2 = n at *
        have HIT := hid hit
        have it2 := Lib.iterAt_heap wr k s pos (pos + n) hit
        have ob : Oth k wr (wr.iterAt k s (pos + n)) := fun j hj => Lib.iterAt_other wr k j s (pos + n) hj
        have bb := Lib.below_iterAt (Below.refl w1.heap.size wr) (k := k) (by omega) s (pos + n)
        have W6 := hid (hv6.other ob (by omega))
        have W7 := hid (hv7.other ob (by omega))
        have W1 := hid (V1.out.other ob (by have := Q1.out.lt; omega))
        have BY := hid (hbel.trans bb)
        have IT := hid it2
        clear it2 ob bb hv6 hv7 V1 hbel hit
        generalize wr.iterAt k s (pos + n) = wr2 at *
        by_cases hgt : a < pos
        · have he := hid (hi1 hgt)
          clear hi1 hi2 hpl
          have w6 := W6.out
          have q1 := W1.out
          go_wp2_with (first
            | (refine Sh.wp_sv plS (x := hr) rfl (.tmp 4) (.tmp 30) rfl rfl (by rfl) q1 ?_; intro w9 q9 b9 o9 _)
            | (refine Sh.wp_ld plS rfl (.tmp 6) rfl rfl w6.1 ?_))
          exact bodyPost_ret (results_p1 Tryz.results44 _ rfl q9) rfl ⟨by rw [h1.out, ← he.out]; rfl, (B1.out.trans (BY.out.mono B1.out.size)).trans (b9.mono (Nat.le_refl _))⟩
        · have hgt' : ¬ (a : Int) < pos := by omega
          have HI := hid (show (a < pos + n → nx = plAt s.data.toList firstP a) ∧ (pos + n ≤ a → plAt (s.data.toList.drop (pos + n)) (behindP nx x) (a - (pos + n)) = plAt s.data.toList firstP a) from by
            have h5 := hi2 (by omega)
            rw [hpl] at h5
            refine ⟨fun h => ?_, fun h => ?_⟩
            · rw [if_pos (by omega)] at h5; exact h5
            · rw [if_neg (by omega)] at h5; rw [← h5, show a - (pos + n) = a - pos - n by omega])
          clear hi1 hi2 hpl
          have HB := hid (fun w => behind_any nx x w (by omega) (by omega))
          have hbb : (behindP nx x).line ≤ pos + n + 1 ∧ (behindP nx x).col ≤ pos + n + 1 := by
            unfold behindP
            split <;> simp <;> omega
          generalize behindP nx x = bp at *
          have HB := hid (show ∀ w, Calls Tryz.prog 90 #[.agg #[.int .i64 nx.line, .int .i64 nx.col], .int .i32 x] w fun e w' => e = .returned (.agg #[.int .i64 bp.line, .int .i64 bp.col]) ∧ Below w.heap.size w w' from HB.out)
          have c0 : wr2.cell? ⟨g7, 0, none⟩ = some (.int .i64 nx.line) := W7.out.cell (j := 0) rfl
          have c1 : wr2.cell? ⟨g7, 1, none⟩ = some (.int .i64 nx.col) := W7.out.cell (j := 1) rfl
          have d0 : wr2.cell? ⟨g6, 0, none⟩ = some (.int .i64 hr.line) := W6.out.cell (j := 0) rfl
          have d1 : wr2.cell? ⟨g6, 1, none⟩ = some (.int .i64 hr.col) := W6.out.cell (j := 1) rfl
          have e0 : wr2.frozen? ⟨g6, 0, none⟩ = false := W6.out.free (j := 0) (by decide)
          have e1 : wr2.frozen? ⟨g6, 1, none⟩ = false := W6.out.free (j := 1) (by decide)
          go_wp2_with fail
          go_region_with
            (first
              | (go_at_call 90; (with_reducible refine (HB.out wr2.drew).mono ?_); rintro e w8 ⟨rfl, b8⟩; have v6 := (W6.out.drew).keep b8; have v7 := (W7.out.drew).keep b8; have c0 : w8.cell? ⟨g7, 0, none⟩ = some (.int .i64 nx.line) := v7.cell (j := 0) rfl; have c1 : w8.cell? ⟨g7, 1, none⟩ = some (.int .i64 nx.col) := v7.cell (j := 1) rfl; have d0 : w8.cell? ⟨g6, 0, none⟩ = some (.int .i64 hr.line) := v6.cell (j := 0) rfl; have d1 : w8.cell? ⟨g6, 1, none⟩ = some (.int .i64 hr.col) := v6.cell (j := 1) rfl; have e0 : w8.frozen? ⟨g6, 0, none⟩ = false := v6.free (j := 0) (by decide); have e1 : w8.frozen? ⟨g6, 1, none⟩ = false := v6.free (j := 1) (by decide); have k0 : w8.frozen? ⟨g7, 0, none⟩ = false := v7.free (j := 0) (by decide); have k1 : w8.frozen? ⟨g7, 1, none⟩ = false := v7.free (j := 1) (by decide); dsimp only)
              | (go_at_call 90; trace_state; fail))
          all_goals
            obtain ⟨w9, hW⟩ : ∃ w9, w9 = (((w8.setCell ⟨g6, 0, none⟩ (.int .i64 nx.line)).setCell ⟨g6, 1, none⟩ (.int .i64 nx.col)).setCell ⟨g7, 0, none⟩ (.int .i64 bp.line)).setCell ⟨g7, 1, none⟩ (.int .i64 bp.col) := ⟨_, rfl⟩
            obtain ⟨z6, z7, z8, z9⟩ := two_stored v6 v7 hg bp hW
            have Z6 := hid z6
            have Z7 := hid z7
            have ZI : Hid (w9.heap[k]? = some (.stringIter s (pos + n))) := hid ((z8 k (by omega) (by omega)).trans ((b8.block k ((Array.getElem?_eq_some_iff.1 IT.out).1)).trans IT.out))
            have ZB : Hid (Below w1.heap.size w1 w9) := hid ((BY.out.drew.trans (b8.mono BY.out.size)).trans (z9 _ hg6 hg7))
            rw [← hW]
            clear c0 c1 d0 d1 e0 e1 k0 k1 v6 v7 z6 z7 z8 z9 b8 hW
            go_wp2_with fail
            go_roundw
            case rel => exact ⟨pos + n, nx, bp, ZI.out, by omega, Z6.out, Z7.out, ZB.out, ⟨by omega, by omega, by omega, by omega⟩, HI.out.1, HI.out.2⟩
            case measure =>
              have e1 : w9.iterPos k = pos + n := by unfold World.iterPos; rw [ZI.out]
              have e2 : wr.iterPos k = pos := by unfold World.iterPos; rw [HIT.out]
              rw [e1, e2]; omega
      · have hnx : ∀ ty, (Instr.next (.pointer (some ⟨k, 0, none⟩)) true ty).run Tryz.prog wr = _ := fun ty => Lib.run_next_end_at wr k s pos ty hit hlt
        obtain rfl : pos = s.size := by omega
        have w6 := hv6
        have w7 := hv7
        have q1 := V1.out
        by_cases hlt2 : a < s.size
        · have hlt2' : (a : Int) < s.size := by omega
          have he := hid (hi1 hlt2)
          clear hi1 hi2 hit hlt hlt2
          go_wp2_with (first
            | (refine Sh.wp_sv plS (x := hr) rfl (.tmp 4) (.tmp 39) rfl rfl (by rfl) q1 ?_; intro w9 q9 b9 o9 _)
            | (refine Sh.wp_ld plS rfl (.tmp 6) rfl rfl w6.1 ?_))
          exact bodyPost_ret (results_p1 Tryz.results44 _ rfl q9) rfl ⟨by rw [h1.out, ← he.out]; rfl, (B1.out.trans (hbel.mono B1.out.size)).trans (b9.mono (Nat.le_refl _))⟩
        · have hlt2' : ¬ (a : Int) < s.size := by omega
          obtain rfl : a = s.size := by omega
          have he : Hid (nx = plAt s.data.toList firstP s.size) := hid (by
            have h5 := hi2 (Nat.le_refl _)
            rw [List.drop_of_length_le (show s.data.toList.length ≤ s.size from Nat.le_refl _), plAt] at h5
            exact h5)
          clear hi1 hi2 hit hlt hlt2
          go_wp2_with (first
            | (refine Sh.wp_sv plS (x := nx) rfl (.tmp 4) (.tmp 40) rfl rfl (by rfl) q1 ?_; intro w9 q9 b9 o9 _)
            | (refine Sh.wp_ld plS rfl (.tmp 7) rfl rfl w7.1 ?_))
          exact bodyPost_ret (results_p1 Tryz.results44 _ rfl q9) rfl ⟨by rw [h1.out, ← he.out]; rfl, (B1.out.trans (hbel.mono B1.out.size)).trans (b9.mono (Nat.le_refl _))⟩
theorem where_any (s : ByteArray) (at_ : Int) (w : World) (hL : LaidW w) (hs : s.size ≤ 274877906944) : Calls Tryz.prog 44 #[.string s, .int .i64 at_] w (WherePost s at_ w) := by
  by_cases h : at_ < 0 ∨ (s.size : Int) < at_
  · exact where_bad s at_ w h
  · obtain ⟨a, rfl⟩ := Int.eq_ofNat_of_zero_le (show 0 ≤ at_ by omega)
    exact where_ok s a w hL (by omega) hs
end Go.Proofs.YtpkoboohnbkpoaaGreatDoor

/-! LH -/
namespace Go.Proofs.YtpkoboohnbkpoaaGreatDoor
open Go

/-- So far cut: at byte pos, the last token's end, in a remark or not, here, what was found. -/
def CI (l : List UInt8) (pos en : Nat) (rem : Bool) (here : Pl) (acc : List (Tk × Pl)) : Prop :=
  en ≤ l.length ∧ (∀ j c, pos ≤ j → j < en → l[j]? = some c → c.toNat < 128 ∧ c.toNat ≠ 10) ∧ (pos < en → rem = false) ∧ here.line ≤ pos + 1 ∧ here.col ≤ pos + 1 ∧
  acc ++ (cutL (l.drop (max pos en)) rem ⟨here.line, here.col + (en - pos)⟩).1 = (cutL l false firstP).1 ∧ (cutL (l.drop (max pos en)) rem ⟨here.line, here.col + (en - pos)⟩).2 = (cutL l false firstP).2

theorem ci_start (l : List UInt8) : CI l 0 0 false firstP [] := ⟨Nat.zero_le _, fun j c _ h => by omega, fun h => absurd h (Nat.lt_irrefl _), by decide, by decide, rfl, rfl⟩

theorem behind_bound (p : Pl) (x pos n : Nat) (h1 : p.line ≤ pos + 1) (h2 : p.col ≤ pos + 1) (hn : 1 ≤ n) : (behindP p x).line ≤ pos + n + 1 ∧ (behindP p x).col ≤ pos + n + 1 := by
  unfold behindP
  split <;> simp <;> omega

section
variable {l : List UInt8} {pos en : Nat} {rem : Bool} {here : Pl} {acc : List (Tk × Pl)} {c : UInt8} {r : List UInt8}
theorem at_pos (hd : l.drop pos = c :: r) : l[pos]? = some c := by
  have := List.getElem?_drop (xs := l) (i := pos) (j := 0)
  rw [hd] at this
  simpa using this.symm
/-- A rune of the last token. -/
theorem ci_skip (h : CI l pos en rem here acc) (hd : l.drop pos = c :: r) (hlt : pos < en) : (dec (c :: r)).2 = 1 ∧ CI l (pos + 1) en rem (behindP here (dec (c :: r)).1) acc := by
  obtain ⟨h1, h2, h3, h4, h5, h6, h7⟩ := h
  have hc := h2 pos c (Nat.le_refl _) hlt (at_pos hd)
  rw [dec_ascii c r hc.1]
  have e : behindP here c.toNat = ⟨here.line, here.col + 1⟩ := by unfold behindP; rw [if_neg hc.2]
  refine ⟨rfl, h1, fun j d hj hj2 hjd => h2 j d (by omega) hj2 hjd, fun _ => h3 hlt, ?_⟩
  show (behindP here c.toNat).line ≤ _ ∧ (behindP here c.toNat).col ≤ _ ∧ _
  rw [e]
  have e1 : max (pos + 1) en = max pos en := by omega
  have e2 : here.col + 1 + (en - (pos + 1)) = here.col + (en - pos) := by omega
  rw [e1, e2]
  exact ⟨by show here.line ≤ _; omega, by show here.col + 1 ≤ _; omega, h6, h7⟩
theorem ci_here (h : CI l pos en rem here acc) (hge : en ≤ pos) (hd : l.drop pos = c :: r) : acc ++ (cutL (c :: r) rem here).1 = (cutL l false firstP).1 ∧ (cutL (c :: r) rem here).2 = (cutL l false firstP).2 := by
  obtain ⟨h1, h2, h3, h4, h5, h6, h7⟩ := h
  have e1 : max pos en = pos := by omega
  have e2 : here.col + (en - pos) = here.col := by omega
  rw [e1, e2, hd] at h6 h7
  exact ⟨h6, h7⟩
theorem ci_broken (h : CI l pos en rem here acc) (hge : en ≤ pos) (hd : l.drop pos = c :: r) (hb : brok (c :: r) = true) : (cutL l false firstP).2 = some (here, 4) := by
  have := (ci_here h hge hd).2
  rw [cutL, if_pos hb] at this
  exact this.symm
/-- On to the next rune. -/
theorem ci_next (h : CI l pos en rem here acc) (hge : en ≤ pos) (hd : l.drop pos = c :: r) (rem2 : Bool) (he : cutL (c :: r) rem here = cutL (r.drop ((dec (c :: r)).2 - 1)) rem2 (behindP here (dec (c :: r)).1)) :
    CI l (pos + (dec (c :: r)).2) en rem2 (behindP here (dec (c :: r)).1) acc := by
  have hh := ci_here h hge hd
  obtain ⟨h1, h2, h3, h4, h5, h6, h7⟩ := h
  have hp := dec_pos (c :: r)
  have hb := behind_bound here (dec (c :: r)).1 pos (dec (c :: r)).2 h4 h5 hp
  rw [he, tail_drop c r _ hp, ← hd, List.drop_drop, hd] at hh
  generalize (dec (c :: r)).2 = n at *
  generalize behindP here (dec (c :: r)).1 = b at *
  refine ⟨h1, fun j d hj hj2 => by omega, fun hx => by omega, hb.1, hb.2, ?_⟩
  have e1 : max (pos + n) en = pos + n := by omega
  have e2 : b.col + (en - (pos + n)) = b.col := by omega
  rw [e1, e2]
  exact hh
theorem cut_line (hb : brok (c :: r) = false) (h10 : (dec (c :: r)).1 = 10) : cutL (c :: r) rem here = cutL (r.drop ((dec (c :: r)).2 - 1)) false (behindP here (dec (c :: r)).1) := by
  rw [cutL, if_neg (by rw [hb]; decide), if_pos h10, h10]
theorem cut_pass (hb : brok (c :: r) = false) (h10 : (dec (c :: r)).1 ≠ 10) (hs : rem = true ∨ (dec (c :: r)).1 = 32 ∨ (dec (c :: r)).1 = 9) : cutL (c :: r) rem here = cutL (r.drop ((dec (c :: r)).2 - 1)) rem (behindP here (dec (c :: r)).1) := by
  rw [cutL, if_neg (by rw [hb]; decide), if_neg h10, if_pos hs]
theorem cut_remark (hb : brok (c :: r) = false) (h10 : (dec (c :: r)).1 ≠ 10) (hs : ¬ (rem = true ∨ (dec (c :: r)).1 = 32 ∨ (dec (c :: r)).1 = 9)) (h35 : (dec (c :: r)).1 = 35) : cutL (c :: r) rem here = cutL (r.drop ((dec (c :: r)).2 - 1)) true (behindP here (dec (c :: r)).1) := by
  rw [cutL, if_neg (by rw [hb]; decide), if_neg h10, if_neg hs, if_pos h35]
theorem cut_bad {e : Nat} (hb : brok (c :: r) = false) (h10 : (dec (c :: r)).1 ≠ 10) (hs : ¬ (rem = true ∨ (dec (c :: r)).1 = 32 ∨ (dec (c :: r)).1 = 9)) (h35 : (dec (c :: r)).1 ≠ 35) (ht : tokF (pieceF (c :: r)) = .error e) : cutL (c :: r) rem here = ([], some (here, e)) := by
  rw [cutL, if_neg (by rw [hb]; decide), if_neg h10, if_neg hs, if_neg h35, ht]
theorem cut_tok {t : Tk} (hb : brok (c :: r) = false) (h10 : (dec (c :: r)).1 ≠ 10) (hs : ¬ (rem = true ∨ (dec (c :: r)).1 = 32 ∨ (dec (c :: r)).1 = 9)) (h35 : (dec (c :: r)).1 ≠ 35) (ht : tokF (pieceF (c :: r)) = .ok t) :
    (cutL (c :: r) rem here).1 = (t, here) :: (cutL ((c :: r).drop (pieceF (c :: r)).length) false ⟨here.line, here.col + (pieceF (c :: r)).length⟩).1 ∧ (cutL (c :: r) rem here).2 = (cutL ((c :: r).drop (pieceF (c :: r)).length) false ⟨here.line, here.col + (pieceF (c :: r)).length⟩).2 := by
  have hp := (piece_len (c :: r)).2 (by simp)
  rw [cutL, if_neg (by rw [hb]; decide), if_neg h10, if_neg hs, if_neg h35, ht]
  simp only
  rw [tail_drop c r _ hp]
  exact ⟨rfl, rfl⟩
theorem ci_bad {e : Nat} (h : CI l pos en rem here acc) (hge : en ≤ pos) (hd : l.drop pos = c :: r) (he : cutL (c :: r) rem here = ([], some (here, e))) : (cutL l false firstP).2 = some (here, e) := by
  have := (ci_here h hge hd).2
  rw [he] at this
  exact this.symm
/-- A token. -/
theorem ci_tok {t : Tk} (h : CI l pos en rem here acc) (hge : en ≤ pos) (hd : l.drop pos = c :: r) (hb : brok (c :: r) = false) (h10 : (dec (c :: r)).1 ≠ 10) (hs : ¬ (rem = true ∨ (dec (c :: r)).1 = 32 ∨ (dec (c :: r)).1 = 9)) (h35 : (dec (c :: r)).1 ≠ 35) (ht : tokF (pieceF (c :: r)) = .ok t) :
    (dec (c :: r)).2 = 1 ∧ 1 ≤ t.s.length ∧ pos + t.s.length ≤ l.length ∧ CI l (pos + 1) (pos + t.s.length) rem (behindP here (dec (c :: r)).1) (acc ++ [(t, here)]) := by
  have hh := ci_here h hge hd
  have hcut := cut_tok (here := here) hb h10 hs h35 ht
  obtain ⟨ts, tne, tasc⟩ := tok_ascii _ _ ht
  have hpl := piece_len (c :: r)
  have hpt := piece_take (c :: r)
  have hp1 := hpl.2 (by simp)
  have hlen : l.length = pos + (c :: r).length := by
    have := congrArg List.length hd
    rw [List.length_drop] at this
    have : pos < l.length := by
      rcases Nat.lt_or_ge pos l.length with h | h
      · exact h
      · rw [List.drop_of_length_le h] at hd; cases hd
    omega
  have hc : c.toNat < 128 ∧ c.toNat ≠ 10 := tasc c (by
    rw [hpt]
    obtain ⟨k, hk⟩ : ∃ k, (pieceF (c :: r)).length = k + 1 := ⟨(pieceF (c :: r)).length - 1, by omega⟩
    rw [hk, List.take_succ_cons]
    exact List.mem_cons_self ..)
  have hrem : rem = false := by
    cases rem with
    | false => rfl
    | true => exact absurd (.inl rfl) hs
  obtain ⟨h1, h2, h3, h4, h5, h6, h7⟩ := h
  rw [ts]
  rw [hcut.1, hcut.2, ← hd, List.drop_drop, hd] at hh
  rw [dec_ascii c r hc.1]
  have e : behindP here c.toNat = ⟨here.line, here.col + 1⟩ := by unfold behindP; rw [if_neg hc.2]
  refine ⟨rfl, hp1, by omega, by omega, ?_, fun _ => hrem, ?_⟩
  · intro j d hj hj2 hjd
    refine tasc d ?_
    rw [hpt]
    have hj' : (c :: r)[j - pos]? = some d := by
      rw [← hd, List.getElem?_drop, show pos + (j - pos) = j by omega]; exact hjd
    refine List.mem_of_getElem? (i := j - pos) ?_
    rw [List.getElem?_take, if_pos (by omega)]
    exact hj'
  · show (behindP here c.toNat).line ≤ _ ∧ (behindP here c.toNat).col ≤ _ ∧ _
    rw [e]
    generalize (pieceF (c :: r)).length = m at *
    have e1 : max (pos + 1) (pos + m) = pos + m := by omega
    have e2 : here.col + 1 + (pos + m - (pos + 1)) = here.col + m := by omega
    rw [e1, e2, hrem, List.append_assoc]
    exact ⟨by show here.line ≤ _; omega, by show here.col + 1 ≤ _; omega, hh.1, hh.2⟩
theorem ci_end (h : CI l pos en rem here acc) (hp : l.length ≤ pos) : (cutL l false firstP).1 = acc ∧ (cutL l false firstP).2 = none := by
  obtain ⟨h1, h2, h3, h4, h5, h6, h7⟩ := h
  rw [List.drop_of_length_le (by omega), cutL] at h6 h7
  rw [List.append_nil] at h6
  exact ⟨h6.symm, h7.symm⟩
end
end Go.Proofs.YtpkoboohnbkpoaaGreatDoor

/-! LI -/
namespace Go.Proofs.YtpkoboohnbkpoaaGreatDoor
open Go Go.RowKit Go.Joins

/-- What Cut tells. -/
def CutPost (s : ByteArray) (w : World) (e : Ending) (w' : World) : Prop :=
  Below w.heap.size w w' ∧
  ((65536 < s.size ∧ e = .returned (.tuple #[.slice none 0 0, .slice none 0 0, plV firstP, .int .i64 6])) ∨
   (s.size ≤ 65536 ∧ ∃ p f, (cutL s.data.toList false firstP).2 = some (p, f) ∧ e = .returned (.tuple #[.slice none 0 0, .slice none 0 0, plV p, .int .i64 (f : Nat)])) ∨
   (s.size ≤ 65536 ∧ (cutL s.data.toList false firstP).2 = none ∧ ∃ n A c A2 c2, (cutL s.data.toList false firstP).1.length = n ∧ n ≤ s.size ∧ e = .returned (.tuple #[.slice A n c, .slice A2 n c2, plV ⟨0, 0⟩, .int .i64 0]) ∧
     tkS.Ow w' w.heap.size A n c ((cutL s.data.toList false firstP).1.map (·.1)) ∧ plS.Ow w' w.heap.size A2 n c2 ((cutL s.data.toList false firstP).1.map (·.2))))

/-- What lies where, in Cut's loop. -/
structure CS (s : ByteArray) (k g4 g8 kb : Nat) (w0 w : World) (pos : Nat) (here : Pl) (A : Option Addr) (n c : Nat) (ts : List Tk) (A2 : Option Addr) (c2 : Nat) (ps : List Pl) : Prop where
  it : w.heap[k]? = some (.stringIter s pos)
  h8 : plS.Var w g8 here
  h4 : plS.Var w g4 ⟨0, 0⟩
  ot : tkS.Ow w kb A n c ts
  op : plS.Ow w kb A2 n c2 ps
  bl : Below w0.heap.size w0 w
  le : kb ≤ w.heap.size
  o4 : w0.heap.size ≤ g4
  o48 : g4 < g8
  o8 : g8 < k
  ok : k < kb
section
variable {s : ByteArray} {k g4 g8 kb : Nat} {w0 w w' : World} {pos : Nat} {here : Pl} {A : Option Addr} {n c : Nat} {ts : List Tk} {A2 : Option Addr} {c2 : Nat} {ps : List Pl}
theorem CS.keep (h : CS s k g4 g8 kb w0 w pos here A n c ts A2 c2 ps) (hb : Below w.heap.size w w') : CS s k g4 g8 kb w0 w' pos here A n c ts A2 c2 ps :=
  ⟨(hb.block k ((Array.getElem?_eq_some_iff.1 h.it).1)).trans h.it, h.h8.keep hb, h.h4.keep hb, h.ot.below hb, h.op.below hb, h.bl.trans (hb.mono h.bl.size), Nat.le_trans h.le hb.size, h.o4, h.o48, h.o8, h.ok⟩
theorem CS.next (h : CS s k g4 g8 kb w0 w pos here A n c ts A2 c2 ps) (pos2 : Nat) : CS s k g4 g8 kb w0 (w.iterAt k s pos2) pos2 here A n c ts A2 c2 ps := by
  have ob : Oth k w (w.iterAt k s pos2) := fun j hj => Lib.iterAt_other w k j s pos2 hj
  have h1 := h.o48; have h2 := h.o8; have h3 := h.ok; have h4 := h.o4
  exact ⟨Lib.iterAt_heap w k s pos pos2 h.it, h.h8.other ob (by omega), h.h4.other ob (by omega), h.ot.oth ob (by omega), h.op.oth ob (by omega), h.bl.trans (Lib.below_iterAt (Below.refl w0.heap.size w) (k := k) (by omega) s pos2), by rw [Lib.iterAt_size]; exact h.le, h.o4, h.o48, h.o8, h.ok⟩
theorem CS.set (h : CS s k g4 g8 kb w0 w pos here A n c ts A2 c2 ps) (p : Pl) (h8 : plS.Var w' g8 p) (hb : Below g8 w w') (ho : Oth g8 w w') (hs : w'.heap.size = w.heap.size) : CS s k g4 g8 kb w0 w' pos p A n c ts A2 c2 ps := by
  have h1 := h.o48; have h2 := h.o8; have h3 := h.ok; have h4 := h.o4
  exact ⟨(ho k (by omega)).trans h.it, h8, h.h4.other ho (by omega), h.ot.oth ho (by omega), h.op.oth ho (by omega), h.bl.trans (hb.mono (by omega)), by rw [hs]; exact h.le, h.o4, h.o48, h.o8, h.ok⟩
/-- The lists grown: all else stands. -/
theorem CS.grow (h : CS s k g4 g8 kb w0 w pos here A n c ts A2 c2 ps) {A' : Option Addr} {c' : Nat} {t : Tk} {A2' : Option Addr} {c2' : Nat} {p : Pl} (ht : tkS.Ow w' kb A' (n + 1) c' (ts ++ [t])) (hp : plS.Ow w' kb A2' (n + 1) c2' (ps ++ [p])) (hb : Below kb w w') : CS s k g4 g8 kb w0 w' pos here A' (n + 1) c' (ts ++ [t]) A2' c2' (ps ++ [p]) := by
  have h1 := h.o48; have h2 := h.o8; have h3 := h.ok; have h4 := h.o4
  exact ⟨(hb.block k h3).trans h.it, h.h8.below hb (by omega), h.h4.below hb (by omega), ht, hp, h.bl.trans (hb.mono (by omega)), Nat.le_trans h.le hb.size, h.o4, h.o48, h.o8, h.ok⟩
end

/-- Between the two appends: what the region's worlds have in common. -/
structure M1 (kb g13 : Nat) (t : Tk) (w5 w : World) (A : Option Addr) (n c : Nat) (ts : List Tk) (A2 : Option Addr) (n2 c2 : Nat) (ps : List Pl) : Prop where
  bl : Below kb w5 w
  sz : w5.heap.size ≤ w.heap.size
  h13 : tkS.Var w g13 t
  ot : tkS.Ow w kb A n c ts
  op : plS.Ow w kb A2 n2 c2 ps
  le : kb ≤ w5.heap.size
section
variable {kb g13 : Nat} {t : Tk} {w5 w w' : World} {A : Option Addr} {n c : Nat} {ts : List Tk} {A2 : Option Addr} {n2 c2 : Nat} {ps : List Pl}
theorem M1.keep (h : M1 kb g13 t w5 w A n c ts A2 n2 c2 ps) (hb : Below w.heap.size w w') : M1 kb g13 t w5 w' A n c ts A2 n2 c2 ps :=
  ⟨h.bl.trans (hb.mono (Nat.le_trans h.le h.sz)), Nat.le_trans h.sz hb.size, h.h13.keep hb, h.ot.below hb, h.op.below hb, h.le⟩
theorem M1.alloc (h : M1 kb g13 t w5 w A n c ts A2 n2 c2 ps) (o : Obj) : M1 kb g13 t w5 (w.alloc o) A n c ts A2 n2 c2 ps := h.keep ((Below.refl _ _).alloc (Nat.le_refl _) _)
theorem M1.drew (h : M1 kb g13 t w5 w A n c ts A2 n2 c2 ps) : M1 kb g13 t w5 w.drew A n c ts A2 n2 c2 ps := h.keep ((Below.refl _ _).drew)
theorem grow_var {own : Option Nat} (h13 : tkS.Var w g13 t) (hg : w.grownBy w' own) (hne : ∀ j, own = some j → j ≠ g13) : tkS.Var w' g13 t := by
  have e := hg.block g13 h13.lt (fun e => hne g13 e.symm rfl)
  exact ⟨fun j v hv => (World.cell?_of_block (a := ⟨g13, 0 + j, none⟩) e).trans (h13.1 j v hv), fun j hj => ⟨by rw [World.cell?_of_block (a := ⟨g13, 0 + j, none⟩) e]; exact (h13.2 j hj).1, by rw [World.frozen?_of_block (a := ⟨g13, 0 + j, none⟩) e]; exact (h13.2 j hj).2⟩⟩
theorem M1.pushT (h : M1 kb g13 t w5 w A n c ts A2 n2 c2 ps) {A' : Option Addr} {c' : Nat} {x : Tk} (own : tkS.Ow w' kb A' (n + 1) c' (ts ++ [x])) (hg : w.grownBy w' (Value.ownBlock (.slice A n c))) (hne : ∀ j, Value.ownBlock (.slice A n c) = some j → j ≠ g13) : M1 kb g13 t w5 w' A' (n + 1) c' (ts ++ [x]) A2 n2 c2 ps := by
  have hb := Sh.grown_below tkS h.ot (Nat.le_trans h.le h.sz) hg
  exact ⟨h.bl.trans hb, Nat.le_trans h.sz hb.size, grow_var h.h13 hg hne, own, h.op.kept h.ot pl_tk hg, h.le⟩
theorem M1.pushP (h : M1 kb g13 t w5 w A n c ts A2 n2 c2 ps) {A' : Option Addr} {c' : Nat} {x : Pl} (own : plS.Ow w' kb A' (n2 + 1) c' (ps ++ [x])) (hg : w.grownBy w' (Value.ownBlock (.slice A2 n2 c2))) (hne : ∀ j, Value.ownBlock (.slice A2 n2 c2) = some j → j ≠ g13) : M1 kb g13 t w5 w' A n c ts A' (n2 + 1) c' (ps ++ [x]) := by
  have hb := Sh.grown_below plS h.op (Nat.le_trans h.le h.sz) hg
  exact ⟨h.bl.trans hb, Nat.le_trans h.sz hb.size, grow_var h.h13 hg hne, h.ot.kept h.op tk_pl hg, own, h.le⟩
theorem M1.row (_ : M1 kb g13 t w5 w A n c ts A2 n2 c2 ps) {b : Nat} {cs : List Value} (hr : w.rangeAt b 0 cs) (hb : b < w.heap.size) (hg : w.grownBy w' (Value.ownBlock (.slice A n c))) (hne : ∀ j, Value.ownBlock (.slice A n c) = some j → j ≠ b) : w'.rangeAt b 0 cs := by
  have e := hg.block b hb (fun e => hne b e.symm rfl)
  exact fun j v hv => (World.cell?_of_block (a := ⟨b, 0 + j, none⟩) e).trans (hr j v hv)
theorem M1.row_then {G : Prop} {b : Nat} {cs : List Value} (h : M1 kb g13 t w5 w A n c ts A2 n2 c2 ps) (hg : w.grownBy w' (Value.ownBlock (.slice A n c))) (hne : ∀ j, Value.ownBlock (.slice A n c) = some j → j ≠ b) (hr : w.rangeAt b 0 cs) (hb : b < w.heap.size) (k : w'.rangeAt b 0 cs → G) : G := k (h.row hr hb hg hne)
theorem range_new' (w : World) (cs : List Value) (t : TypeId) (b : Nat) (hb : b = w.heap.size) : (w.alloc (.cells cs.toArray t)).rangeAt b 0 cs := by
  subst hb; exact range_new w cs t
end
theorem tok_err (p : List UInt8) (f : Nat) (h : tokF p = .error f) : f ≠ 0 := by
  have hn : ∀ p f, numF p = .error f → f ≠ 0 := by
    intro p f h
    unfold numF at h
    split at h
    · cases h; decide
    split at h
    · cases h; decide
    split at h
    · split at h
      · cases h
      · cases h; decide
    · cases h
  match p with
  | [] => cases h; decide
  | c :: r =>
    unfold tokF at h
    simp only at h
    split at h
    · cases h
    split at h
    · cases h
    split at h
    · cases h; decide
    · exact hn _ _ h

theorem one_stored {w8 w9 : World} {g : Nat} {hr : Pl} (v : plS.Var w8 g hr) (bp : Pl) (hW : w9 = ((w8.setCell ⟨g, 0, none⟩ (.int .i64 bp.line)).setCell ⟨g, 1, none⟩ (.int .i64 bp.col)).drew) :
    plS.Var w9 g bp ∧ ∀ B, B ≤ g → Below B w8 w9 := by
  have hW : w9 = (w8.setCells g 0 (encP bp)).drew := hW
  subst hW
  exact ⟨(Sh.var_stored (σ := plS) v.2 bp).drew, fun B h => ((setCells_oth g (encP bp) 0 w8).1.mono h).drew⟩

set_option maxRecDepth 100000 in
theorem cut_long (s : ByteArray) (w : World) (hL : LaidW w) (hlong : 65536 < s.size) (hs : s.size ≤ 9223372036854775807) : Calls Tryz.prog 41 #[.string s] w (CutPost s w) := by
  have hl : (65536 : Int) < s.size := by omega
  obtain ⟨f0, f1, hfs⟩ := hL.firstc
  clear hL
  go_enter Tryz.func41, Tryz.ntmps41
  go_wp2_with (first
    | (refine Sh.wp_al plS rfl rfl ?_; intro w1 q1 b1 s1; have f0 : w1.cell? ⟨3, 0, none⟩ = some (.int .i64 1) := (b1.cell (p := ⟨3, 0, none⟩) hfs).trans f0; have f1 : w1.cell? ⟨3, 1, none⟩ = some (.int .i64 1) := (b1.cell (p := ⟨3, 1, none⟩) hfs).trans f1; have hf1 : 3 < w1.heap.size := Nat.lt_of_lt_of_le hfs b1.size; have Q1 := hid q1; have B1 := hid b1; have S1 := hid s1.out; clear q1 b1 s1))
  have hgn : ¬ 3 = w.heap.size := by omega
  have hgn2 : ¬ w.heap.size = 3 := by omega
  have d0 : w1.cell? ⟨w.heap.size, 0, none⟩ = some (.int .i64 0) := Q1.out.cell (j := 0) rfl
  have d1 : w1.cell? ⟨w.heap.size, 1, none⟩ = some (.int .i64 0) := Q1.out.cell (j := 1) rfl
  have e0 : w1.frozen? ⟨w.heap.size, 0, none⟩ = false := Q1.out.free (j := 0) (by decide)
  have e1 : w1.frozen? ⟨w.heap.size, 1, none⟩ = false := Q1.out.free (j := 1) (by decide)
  go_region_held3 (fun w' => w'.cell? ⟨3, 0, none⟩ = some (.int .i64 1) ∧ w'.cell? ⟨3, 1, none⟩ = some (.int .i64 1)) (first | with_reducible exact ⟨f0, f1⟩ | go_keep) (first | fail)
  all_goals
    obtain ⟨w9, hW⟩ : ∃ w9, w9 = ((w1.setCell ⟨w.heap.size, 0, none⟩ (.int .i64 1)).setCell ⟨w.heap.size, 1, none⟩ (.int .i64 1)).drew := ⟨_, rfl⟩
    obtain ⟨z6, z7⟩ := one_stored Q1.out firstP hW
    rw [← hW]
    clear hW f0 f1 d0 d1 e0 e1
    go_wp2_with fail
    exact bodyPost_ret (results_11p1 Tryz.results41 _ rfl z6) rfl ⟨B1.out.trans (z7 _ (Nat.le_refl _)), .inl ⟨hlong, rfl⟩⟩

set_option maxHeartbeats 4000000 in
set_option maxRecDepth 100000 in
theorem cut_short (s : ByteArray) (w : World) (hL : LaidW w) (hs : s.size ≤ 65536) : Calls Tryz.prog 41 #[.string s] w (CutPost s w) := by
  have hl : ¬ (65536 : Int) < s.size := by omega
  obtain ⟨f0, f1, hfs⟩ := hL.firstc
  have HL := hid hL
  clear hL
  go_enter Tryz.func41, Tryz.ntmps41
  go_wp2_with (first
    | (refine Sh.wp_sv plS (x := firstP) rfl (.tmp 8) (.tmp 19) rfl rfl (by rfl) q2 ?_; intro w3 q3 b3 o3 s3; have v3 := v2.other o3 (by have := N12.out; omega); have B3 := hid (B2.out.trans (b3.mono B1.out.size)); have S3 := hid s3.out; clear q2 v2 b3 o3 s3)
    | (refine Sh.wp_al plS rfl rfl ?_; intro w2 q2 b2 s2; have v2 := v1.keep b2; have N12 := hid v1.lt; have B2 := hid (B1.out.trans (b2.mono B1.out.size)); have S2 := hid s2.out; clear v1 b2 s2)
    | (refine Sh.wp_al plS rfl rfl ?_; intro w1 v1 b1 s1; have f0 : w1.cell? ⟨3, 0, none⟩ = some (.int .i64 1) := (b1.cell (p := ⟨3, 0, none⟩) hfs).trans f0; have f1 : w1.cell? ⟨3, 1, none⟩ = some (.int .i64 1) := (b1.cell (p := ⟨3, 1, none⟩) hfs).trans f1; have B1 := hid b1; have S1 := hid s1.out; clear b1 s1))
  have hcs : Hid (CS s w3.heap.size w.heap.size w1.heap.size (w3.heap.size + 1) w (w3.iter s 0) 0 firstP none 0 0 [] none 0 []) := hid (by
    have bI : Below w3.heap.size w3 (w3.iter s 0) := below_iter w3 s 0
    refine ⟨World.iter_heap w3 s 0, q3.keep bI, v3.keep bI, Sh.Ow.nil _ _, Sh.Ow.nil _ _, B3.out.trans (bI.mono B3.out.size), ?_, Nat.le_refl _, N12.out, ?_, Nat.lt_succ_self _⟩
    · show _ ≤ (w3.heap.push _).size
      rw [Array.size_push]; exact Nat.le_refl _
    · have := S2.out; have := S3.out; omega)
  clear f0 f1 hfs q3 v3 N12 S1 S2 S3
  generalize hg8 : w1.heap.size = g8 at *
  generalize hk : w3.heap.size = k at *
  generalize w3.iter s 0 = wi at *
  clear hg8 hk B1 B2 B3
  go_loopw [6, 7, 9, 10] (fun v6 v7 v9 v10 wr => ∃ (pos en : Nat) (rem : Bool) (here : Pl) (acc : List (Tk × Pl)) (n : Nat) (A : Option Addr) (c : Nat) (A2 : Option Addr) (c2 : Nat), v6 = .slice A n c ∧ v7 = .slice A2 n c2 ∧ v9 = .int .i64 (en : Nat) ∧ v10 = .bool rem ∧
    CS s k w.heap.size g8 (k + 1) w wr pos here A n c (acc.map (·.1)) A2 c2 (acc.map (·.2)) ∧ acc.length = n ∧ n ≤ pos ∧ pos ≤ s.size ∧ CI s.data.toList pos en rem here acc) (fun _ _ _ _ wr => s.size - wr.iterPos k)
  case atStart => exact ⟨0, 0, false, firstP, [], 0, none, 0, none, 0, rfl, rfl, rfl, rfl, hcs.out, rfl, Nat.le_refl _, Nat.zero_le _, ci_start _⟩
  case round =>
    obtain ⟨pos, en, rem, here, acc, n, A, c, A2, c2, rfl, rfl, rfl, rfl, hcs, hacc, hn, hp, hci⟩ := hrel
    have S1 := hid hcs
    have HA := hid (And.intro hacc hn)
    have HPU := hid hcs.h8.lt
    by_cases hlt : pos < s.size
    · obtain ⟨ch, r, hd, ht⟩ := drop_cons (l := s.data.toList) (k := pos) (by simpa using hlt)
      have hnx : ∀ ty, (Instr.next (.pointer (some ⟨k, 0, none⟩)) true ty).run Tryz.prog wr = _ := fun ty => Lib.run_next_any_at wr k s pos ty hcs.it hlt
      rw [dec_of, hd] at hnx
      have hex : s.extract pos s.size = bA (ch :: r) := by
        rw [← hd]
        apply ByteArray.ext
        rw [ByteArray.data_extract]
        apply Array.ext'
        rw [Array.toList_extract, List.extract_eq_take_drop]
        show _ = s.data.toList.drop pos
        exact List.take_of_length_le (by rw [List.length_drop]; exact Nat.le_refl _)
      have hle := dec_le ch r
      have hpos := dec_pos (ch :: r)
      have hlen : s.size = pos + (r.length + 1) := by
        have h5 : pos < s.data.toList.length := by simpa using hlt
        have := congrArg List.length hd
        rw [List.length_drop] at this
        simp only [List.length_cons] at this
        have h6 : s.data.toList.length = s.size := rfl
        omega
      have hbd := behind_bound here (dec (ch :: r)).1 pos (dec (ch :: r)).2 hci.2.2.2.1 hci.2.2.2.2.1 hpos
      have hen : en ≤ s.size := hci.1
      have HB := hid (fun w => behind_any here (dec (ch :: r)).1 w (by have := hci.2.2.2.1; omega) (by have := hci.2.2.2.2.1; omega))
      have HK := hid (fun w => by have := broken_any (bA (ch :: r)) w (dec (ch :: r)).1 rfl; rwa [bA_list] at this)
      have w0 := fun h => ci_skip hci hd h
      have w1 := fun hge h => ci_broken hci hge hd h
      have w2 := fun hge hb h10 => ci_next hci hge hd false (cut_line hb h10)
      have w3 := fun hge hb h10 hs => ci_next hci hge hd rem (cut_pass hb h10 hs)
      have w4 := fun hge hb h10 hs h35 => ci_next hci hge hd true (cut_remark hb h10 hs h35)
      have w5 := fun t hge hb h10 hs h35 ht => ci_tok (t := t) hci hge hd hb h10 hs h35 ht
      have w6 := fun e hge hb h10 hs h35 ht => ci_bad (e := e) hci hge hd (cut_bad hb h10 hs h35 ht)
      obtain ⟨p, hpp⟩ : ∃ p, pieceF (ch :: r) = p := ⟨_, rfl⟩
      have HP := hid (fun w => by have := piece_any (bA (ch :: r)) w (by rw [bA_size]; simp; omega); unfold PiecePost at this; rwa [bA_list, hpp] at this)
      have hpl := piece_len (ch :: r)
      rw [hpp] at w5 w6 hpl
      have HT := hid (fun w hL => token_any p w hL (by intro h; have := hpl.2 (by simp); rw [h] at this; simp at this) (by have := hpl.1; simp at this; omega))
      have q2 := (hcs.next (pos + (dec (ch :: r)).2)).h8
      have S2 := hid (hcs.next (pos + (dec (ch :: r)).2))
      clear hci hd ht hcs hacc hn hpp hpl
      generalize brok (ch :: r) = bk at *
      generalize (dec (ch :: r)).1 = x at *
      generalize (dec (ch :: r)).2 = nn at *
      generalize behindP here x = bp at *
      generalize bA (ch :: r) = sr at *
      generalize wr.iterAt k s (pos + nn) = wr2 at *
      have W0 := hid w0
      have W1 := hid w1
      have W2 := hid w2
      have W3 := hid w3
      have W4 := hid w4
      have W5 := hid w5
      have W6 := hid w6
      clear w0 w1 w2 w3 w4 w5 w6
      have hpn : pos + nn ≤ s.size := by omega
      clear hle hlen
      by_cases he : pos < en
      · have hci := hid (W0.out he).2
        obtain rfl : nn = 1 := (W0.out he).1
        have he' : (pos : Int) < (en : Nat) := by omega
        clear W0 W1 W2 W3 W4 W5 W6 HP HT HK hex he
        go_wp2_with (first
          | (refine Sh.wp_sv plS (x := bp) rfl (.tmp 8) (.tmp 80) rfl rfl (by rfl) q8 ?_; intro w9 q9 b9 o9 s9; have S9 := hid (S8.out.set _ q9 b9 o9 s9.out); clear q9 b9 o9 s9)
          | (go_at_call 90; refine (HB.out _).mono ?_; rintro e w8 ⟨rfl, b8⟩; have S8 := hid (S2.out.keep b8); have q8 := S8.out.h8; clear b8)
          | (refine Sh.wp_ld plS rfl (.tmp 8) rfl rfl q2.1 ?_)
          | (go_at_call 87; refine (HK.out _).mono ?_; rintro e w' ⟨rfl, rfl⟩))
        dsimp only [Act.put]
        go_roundw
        case rel => exact ⟨pos + 1, en, rem, bp, acc, n, A, c, A2, c2, rfl, rfl, rfl, rfl, S9.out, HA.out.1, by have := HA.out.2; omega, by omega, hci.out⟩
        case measure =>
          have e1 : w9.iterPos k = pos + 1 := by unfold World.iterPos; rw [S9.out.it]
          have e2 : wr.iterPos k = pos := by unfold World.iterPos; rw [S1.out.it]
          rw [e1, e2]; omega
      have he' : ¬ (pos : Int) < (en : Nat) := by omega
      have hge : en ≤ pos := by omega
      clear W0 he
      cases bk with
      | true =>
        have hci := hid (W1.out hge rfl)
        clear W1 W2 W3 W4 W5 W6 HP HT hge
        have c0 : wr2.cell? ⟨g8, 0, none⟩ = some (.int .i64 here.line) := q2.cell (j := 0) rfl
        have c1 : wr2.cell? ⟨g8, 1, none⟩ = some (.int .i64 here.col) := q2.cell (j := 1) rfl
        have d0 : wr2.cell? ⟨w.heap.size, 0, none⟩ = some (.int .i64 0) := S2.out.h4.cell (j := 0) rfl
        have d1 : wr2.cell? ⟨w.heap.size, 1, none⟩ = some (.int .i64 0) := S2.out.h4.cell (j := 1) rfl
        have e0 : wr2.frozen? ⟨w.heap.size, 0, none⟩ = false := S2.out.h4.free (j := 0) (by decide)
        have e1 : wr2.frozen? ⟨w.heap.size, 1, none⟩ = false := S2.out.h4.free (j := 1) (by decide)
        have hg48 : ¬ g8 = w.heap.size := by have := S2.out.o48; omega
        have hg84 : ¬ w.heap.size = g8 := by omega
        go_wp2_with (first
          | (go_at_call 87; refine (HK.out _).mono ?_; rintro e w' ⟨rfl, e7⟩; rw [e7]; clear e7 w'))
        go_region_held3 (fun w' => w'.cell? ⟨g8, 0, none⟩ = some (.int .i64 here.line) ∧ w'.cell? ⟨g8, 1, none⟩ = some (.int .i64 here.col)) (first | with_reducible exact ⟨c0, c1⟩ | go_keep) (first | fail)
        all_goals
          obtain ⟨w9, hW⟩ : ∃ w9, w9 = ((wr2.setCell ⟨w.heap.size, 0, none⟩ (.int .i64 here.line)).setCell ⟨w.heap.size, 1, none⟩ (.int .i64 here.col)).drew := ⟨_, rfl⟩
          obtain ⟨z6, z7⟩ := one_stored S2.out.h4 here hW
          rw [← hW]
          clear hW c0 c1 d0 d1 e0 e1
          go_wp2_with fail
          exact bodyPost_ret (results_11p1 Tryz.results41 _ rfl z6) rfl ⟨S2.out.bl.trans (z7 _ (Nat.le_refl _)), .inr (.inl ⟨hs, here, 4, hci.out, rfl⟩)⟩
      | false =>
      clear W1
      by_cases h10 : x = 10
      · have hci := hid (W2.out hge rfl h10)
        have h10' : ((x : Int) == 10) = true := beq_iff_eq.2 (by omega)
        clear W2 W3 W4 W5 W6 HP HT hge h10
        go_wp2_with (first
          | (refine Sh.wp_sv plS (x := bp) rfl (.tmp 8) (.tmp 80) rfl rfl (by rfl) q8 ?_; intro w9 q9 b9 o9 s9; have S9 := hid (S8.out.set _ q9 b9 o9 s9.out); clear q9 b9 o9 s9)
          | (go_at_call 90; refine (HB.out _).mono ?_; rintro e w8 ⟨rfl, b8⟩; have S8 := hid (S2.out.keep b8); have q8 := S8.out.h8; clear b8)
          | (refine Sh.wp_ld plS rfl (.tmp 8) rfl rfl q2.1 ?_)
          | (go_at_call 87; refine (HK.out _).mono ?_; rintro e w' ⟨rfl, rfl⟩))
        dsimp only [Act.put]
        go_roundw
        case rel => exact ⟨pos + nn, en, false, bp, acc, n, A, c, A2, c2, rfl, rfl, rfl, rfl, S9.out, HA.out.1, by have := HA.out.2; omega, by omega, hci.out⟩
        case measure =>
          have e1 : w9.iterPos k = pos + nn := by unfold World.iterPos; rw [S9.out.it]
          have e2 : wr.iterPos k = pos := by unfold World.iterPos; rw [S1.out.it]
          rw [e1, e2]; omega
      have h10' : ((x : Int) == 10) = false := beq_eq_false_iff_ne.2 (by omega)
      clear W2
      cases rem with
      | true =>
        have hci := hid (W3.out hge rfl h10 (.inl rfl))
        clear W3 W4 W5 W6 HP HT hge h10
        go_wp2_with (first
          | (refine Sh.wp_sv plS (x := bp) rfl (.tmp 8) (.tmp 80) rfl rfl (by rfl) q8 ?_; intro w9 q9 b9 o9 s9; have S9 := hid (S8.out.set _ q9 b9 o9 s9.out); clear q9 b9 o9 s9)
          | (go_at_call 90; refine (HB.out _).mono ?_; rintro e w8 ⟨rfl, b8⟩; have S8 := hid (S2.out.keep b8); have q8 := S8.out.h8; clear b8)
          | (refine Sh.wp_ld plS rfl (.tmp 8) rfl rfl q2.1 ?_)
          | (go_at_call 87; refine (HK.out _).mono ?_; rintro e w' ⟨rfl, rfl⟩))
        dsimp only [Act.put]
        go_roundw
        case rel => exact ⟨pos + nn, en, true, bp, acc, n, A, c, A2, c2, rfl, rfl, rfl, rfl, S9.out, HA.out.1, by have := HA.out.2; omega, by omega, hci.out⟩
        case measure =>
          have e1 : w9.iterPos k = pos + nn := by unfold World.iterPos; rw [S9.out.it]
          have e2 : wr.iterPos k = pos := by unfold World.iterPos; rw [S1.out.it]
          rw [e1, e2]; omega
      | false =>
      by_cases h32 : x = 32
      · have hci := hid (W3.out hge rfl h10 (.inr (.inl h32)))
        have h32' : ((x : Int) == 32) = true := beq_iff_eq.2 (by omega)
        clear W3 W4 W5 W6 HP HT hge h10 h32
        go_wp2_with (first
          | (refine Sh.wp_sv plS (x := bp) rfl (.tmp 8) (.tmp 80) rfl rfl (by rfl) q8 ?_; intro w9 q9 b9 o9 s9; have S9 := hid (S8.out.set _ q9 b9 o9 s9.out); clear q9 b9 o9 s9)
          | (go_at_call 90; refine (HB.out _).mono ?_; rintro e w8 ⟨rfl, b8⟩; have S8 := hid (S2.out.keep b8); have q8 := S8.out.h8; clear b8)
          | (refine Sh.wp_ld plS rfl (.tmp 8) rfl rfl q2.1 ?_)
          | (go_at_call 87; refine (HK.out _).mono ?_; rintro e w' ⟨rfl, rfl⟩))
        dsimp only [Act.put]
        go_roundw
        case rel => exact ⟨pos + nn, en, false, bp, acc, n, A, c, A2, c2, rfl, rfl, rfl, rfl, S9.out, HA.out.1, by have := HA.out.2; omega, by omega, hci.out⟩
        case measure =>
          have e1 : w9.iterPos k = pos + nn := by unfold World.iterPos; rw [S9.out.it]
          have e2 : wr.iterPos k = pos := by unfold World.iterPos; rw [S1.out.it]
          rw [e1, e2]; omega
      have h32' : ((x : Int) == 32) = false := beq_eq_false_iff_ne.2 (by omega)
      by_cases h9 : x = 9
      · have hci := hid (W3.out hge rfl h10 (.inr (.inr h9)))
        have h9' : ((x : Int) == 9) = true := beq_iff_eq.2 (by omega)
        clear W3 W4 W5 W6 HP HT hge h10 h9 h32
        go_wp2_with (first
          | (refine Sh.wp_sv plS (x := bp) rfl (.tmp 8) (.tmp 80) rfl rfl (by rfl) q8 ?_; intro w9 q9 b9 o9 s9; have S9 := hid (S8.out.set _ q9 b9 o9 s9.out); clear q9 b9 o9 s9)
          | (go_at_call 90; refine (HB.out _).mono ?_; rintro e w8 ⟨rfl, b8⟩; have S8 := hid (S2.out.keep b8); have q8 := S8.out.h8; clear b8)
          | (refine Sh.wp_ld plS rfl (.tmp 8) rfl rfl q2.1 ?_)
          | (go_at_call 87; refine (HK.out _).mono ?_; rintro e w' ⟨rfl, rfl⟩))
        dsimp only [Act.put]
        go_roundw
        case rel => exact ⟨pos + nn, en, false, bp, acc, n, A, c, A2, c2, rfl, rfl, rfl, rfl, S9.out, HA.out.1, by have := HA.out.2; omega, by omega, hci.out⟩
        case measure =>
          have e1 : w9.iterPos k = pos + nn := by unfold World.iterPos; rw [S9.out.it]
          have e2 : wr.iterPos k = pos := by unfold World.iterPos; rw [S1.out.it]
          rw [e1, e2]; omega
      have h9' : ((x : Int) == 9) = false := beq_eq_false_iff_ne.2 (by omega)
      have hns : ¬ (false = true ∨ x = 32 ∨ x = 9) := by simp [h32, h9]
      clear W3
      by_cases h35 : x = 35
      · have hci := hid (W4.out hge rfl h10 hns h35)
        have h35' : ((x : Int) == 35) = true := beq_iff_eq.2 (by omega)
        clear W4 W5 W6 HP HT hge h10 h9 h32 hns h35
        go_wp2_with (first
          | (refine Sh.wp_sv plS (x := bp) rfl (.tmp 8) (.tmp 80) rfl rfl (by rfl) q8 ?_; intro w9 q9 b9 o9 s9; have S9 := hid (S8.out.set _ q9 b9 o9 s9.out); clear q9 b9 o9 s9)
          | (go_at_call 90; refine (HB.out _).mono ?_; rintro e w8 ⟨rfl, b8⟩; have S8 := hid (S2.out.keep b8); have q8 := S8.out.h8; clear b8)
          | (refine Sh.wp_ld plS rfl (.tmp 8) rfl rfl q2.1 ?_)
          | (go_at_call 87; refine (HK.out _).mono ?_; rintro e w' ⟨rfl, rfl⟩))
        dsimp only [Act.put]
        go_roundw
        case rel => exact ⟨pos + nn, en, true, bp, acc, n, A, c, A2, c2, rfl, rfl, rfl, rfl, S9.out, HA.out.1, by have := HA.out.2; omega, by omega, hci.out⟩
        case measure =>
          have e1 : w9.iterPos k = pos + nn := by unfold World.iterPos; rw [S9.out.it]
          have e2 : wr.iterPos k = pos := by unfold World.iterPos; rw [S1.out.it]
          rw [e1, e2]; omega
      have h35' : ((x : Int) == 35) = false := beq_eq_false_iff_ne.2 (by omega)
      clear W4
      cases htk : tokF p with
      | error f =>
        have hci := hid (W6.out f hge rfl h10 hns h35 htk)
        rw [htk] at HT
        clear W5 W6 hge h10 h9 h32 hns h35
        have hf := tok_err p f htk
        have hf0 : ¬ (f : Int) = 0 := by omega
        clear htk
        have HT := hid (show ∀ w, LaidW w → Calls Tryz.prog 88 #[.string (bA p)] w fun e w' => e = .returned (.tuple #[tkV ⟨0, [], 0, false⟩, .int .i64 (f : Int)]) ∧ Below w.heap.size w w' from HT.out)
        go_wp2_with (first
          | (refine Sh.wp_sv tkS (x := ⟨0, [], 0, false⟩) rfl (.tmp 13) (.tmp 32) rfl rfl (by rfl) q5 ?_; intro w5 r5 d5 o5 s5; have S5 := hid (S4.out.keep (b5.trans (d5.mono (Nat.le_refl _)))); have R5 := hid r5; clear q5 b5 r5 d5 o5 s5)
          | (refine Sh.wp_al tkS rfl rfl ?_; intro w4a q5 b5 s5; clear s5)
          | (go_at_call 88; refine (HT.out _ (HL.out.below S3.out.bl)).mono ?_; rintro e w4 ⟨rfl, b4⟩; have S4 := hid (S3.out.keep b4); clear b4)
          | (go_at_call 89; refine (HP.out _).mono ?_; rintro e w3 ⟨rfl, b3⟩; have S3 := hid (S2.out.keep b3); clear b3)
          | (go_at_call 87; refine (HK.out _).mono ?_; rintro e w' ⟨rfl, rfl⟩))
        have q2 := S5.out.h8
        have c0 : w5.cell? ⟨g8, 0, none⟩ = some (.int .i64 here.line) := q2.cell (j := 0) rfl
        have c1 : w5.cell? ⟨g8, 1, none⟩ = some (.int .i64 here.col) := q2.cell (j := 1) rfl
        have d0 : w5.cell? ⟨w.heap.size, 0, none⟩ = some (.int .i64 0) := S5.out.h4.cell (j := 0) rfl
        have d1 : w5.cell? ⟨w.heap.size, 1, none⟩ = some (.int .i64 0) := S5.out.h4.cell (j := 1) rfl
        have e0 : w5.frozen? ⟨w.heap.size, 0, none⟩ = false := S5.out.h4.free (j := 0) (by decide)
        have e1 : w5.frozen? ⟨w.heap.size, 1, none⟩ = false := S5.out.h4.free (j := 1) (by decide)
        have hg48 : ¬ g8 = w.heap.size := by have := S2.out.o48; omega
        have hg84 : ¬ w.heap.size = g8 := by omega
        go_region_held3 (fun w' => w'.cell? ⟨g8, 0, none⟩ = some (.int .i64 here.line) ∧ w'.cell? ⟨g8, 1, none⟩ = some (.int .i64 here.col)) (first | with_reducible exact ⟨c0, c1⟩ | go_keep) (first | fail)
        all_goals
          obtain ⟨w9, hW⟩ : ∃ w9, w9 = ((w5.setCell ⟨w.heap.size, 0, none⟩ (.int .i64 here.line)).setCell ⟨w.heap.size, 1, none⟩ (.int .i64 here.col)).drew := ⟨_, rfl⟩
          obtain ⟨z6, z7⟩ := one_stored S5.out.h4 here hW
          rw [← hW]
          clear hW c0 c1 d0 d1 e0 e1
          go_wp2_with fail
          exact bodyPost_ret (results_11p1 Tryz.results41 _ rfl z6) rfl ⟨S5.out.bl.trans (z7 _ (Nat.le_refl _)), .inr (.inl ⟨hs, here, f, hci.out, rfl⟩)⟩
      | ok t =>
        have hci := hid (W5.out t hge rfl h10 hns h35 htk)
        rw [htk] at HT
        clear W5 W6 hge h10 h9 h32 hns h35 htk
        have HT := hid (show ∀ w, LaidW w → Calls Tryz.prog 88 #[.string (bA p)] w fun e w' => e = .returned (.tuple #[tkV t, .int .i64 0]) ∧ Below w.heap.size w w' from HT.out)
        obtain ⟨hnn, ht1, ht2, hci9⟩ := hci.out
        clear hci
        subst hnn
        obtain ⟨m, hm⟩ : ∃ m, t.s.length = m := ⟨_, rfl⟩
        rw [hm] at ht1 ht2 hci9
        have ht2 : pos + m ≤ s.size := ht2
        have HCI := hid hci9
        have HM := hid hm
        clear hci9 hm
        go_wp2_with (first
          | (refine Sh.wp_sv tkS (x := t) rfl (.tmp 13) (.tmp 32) rfl rfl (by rfl) q5 ?_; intro w5 r5 d5 o5 s5; have S5 := hid (S4.out.keep (b5.trans (d5.mono (Nat.le_refl _)))); have R5 := hid r5; have E5 := hid (show (∀ j, Value.ownBlock (.slice A n c) = some j → j < w4.heap.size) ∧ (∀ j, Value.ownBlock (.slice A2 n c2) = some j → j < w4.heap.size) ∧ w4.heap.size < w5.heap.size from ⟨fun j e => (World.ownsRow.lt S4.out.ot j e).2, fun j e => (World.ownsRow.lt S4.out.op j e).2, r5.lt⟩); clear q5 b5 r5 d5 o5 s5)
          | (refine Sh.wp_al tkS rfl rfl ?_; intro w4a q5 b5 s5; clear s5)
          | (go_at_call 88; refine (HT.out _ (HL.out.below S3.out.bl)).mono ?_; rintro e w4 ⟨rfl, b4⟩; have S4 := hid (S3.out.keep b4); clear b4)
          | (go_at_call 89; refine (HP.out _).mono ?_; rintro e w3 ⟨rfl, b3⟩; have S3 := hid (S2.out.keep b3); clear b3)
          | (go_at_call 87; refine (HK.out _).mono ?_; rintro e w' ⟨rfl, rfl⟩))
        have M5 := hid (show M1 (k + 1) w4.heap.size t w5 w5 A n c (acc.map (·.1)) A2 n c2 (acc.map (·.2)) from ⟨Below.refl _ _, Nat.le_refl _, R5.out, S5.out.ot, S5.out.op, S5.out.le⟩)
        have H5 := hid S5.out.h8
        have hlek : k + 1 ≤ w5.heap.size := S5.out.le
        have hg8k : g8 < k + 1 := by have := S5.out.o8; omega
        obtain ⟨tk, tss, tn, tt⟩ := t
        generalize hts : strB tss = ts at *
        have HTS := hid hts
        clear hts
        generalize hg13 : w4.heap.size = g13 at *
        have c0 : w5.cell? ⟨g8, 0, none⟩ = some (.int .i64 here.line) := S5.out.h8.cell (j := 0) rfl
        have c1 : w5.cell? ⟨g8, 1, none⟩ = some (.int .i64 here.col) := S5.out.h8.cell (j := 1) rfl
        have x0 : w5.cell? ⟨g13, 0, none⟩ = some (.int .i64 tk) := R5.out.cell (j := 0) rfl
        have x1 : w5.cell? ⟨g13, 1, none⟩ = some (.string ts) := by have := R5.out.cell (j := 1) rfl; rw [← HTS.out]; exact this
        have x2 : w5.cell? ⟨g13, 2, none⟩ = some (.int .i64 tn) := R5.out.cell (j := 2) rfl
        have x3 : w5.cell? ⟨g13, 3, none⟩ = some (.bool tt) := R5.out.cell (j := 3) rfl
        have hn6 : n ≤ 1000000 := by have := HA.out.2; omega
        have hencT : tkS.enc ⟨tk, tss, tn, tt⟩ = [.int .i64 tk, .string ts, .int .i64 tn, .bool tt] := by rw [← HTS.out]; rfl
        have hneT : ∀ j, Value.ownBlock (.slice A n c) = some j → j ≠ g13 := fun j e => Nat.ne_of_lt (E5.out.1 j e)
        have hneP : ∀ j, Value.ownBlock (.slice A2 n c2) = some j → j ≠ g13 := fun j e => Nat.ne_of_lt (E5.out.2.1 j e)
        have hneR1 : ∀ j, Value.ownBlock (.slice A n c) = some j → j ≠ w5.heap.size + 1 := fun j e => by have := E5.out.1 j e; have := E5.out.2.2; omega
        have hneR0 : ∀ j, Value.ownBlock (.slice A n c) = some j → j ≠ w5.heap.size := fun j e => by have := E5.out.1 j e; have := E5.out.2.2; omega
        go_region_held3 (fun w' => w'.cell? ⟨g8, 0, none⟩ = some (.int .i64 here.line) ∧ w'.cell? ⟨g8, 1, none⟩ = some (.int .i64 here.col) ∧ w'.cell? ⟨g13, 0, none⟩ = some (.int .i64 tk) ∧ w'.cell? ⟨g13, 1, none⟩ = some (.string ts) ∧ w'.cell? ⟨g13, 2, none⟩ = some (.int .i64 tn) ∧ w'.cell? ⟨g13, 3, none⟩ = some (.bool tt)) (first | with_reducible exact ⟨c0, c1, x0, x1, x2, x3⟩ | go_keep)
          (first
            | (refine Sh.step_push tkS (A := A) (c := c) (l := acc.map (·.1)) (base := k + 1) (x := ⟨tk, tss, tn, tt⟩) rfl (.tmp 38) (.tmp 40) (by rfl) (by rfl) ?_ (by rfl) ?_ hn6 ?_ ?_; (focus exact M1.ot (show M1 (k + 1) g13 ⟨tk, tss, tn, tt⟩ w5 _ A n c (acc.map (·.1)) A2 n c2 (acc.map (·.2)) from by (repeat (first | with_reducible exact M5.out | with_reducible refine M1.alloc ?_ _ | with_reducible refine M1.drew ?_)); done)); (focus rw [hencT]; exact (by (repeat (first | with_reducible exact range_new' _ _ _ _ (by simp; done) | with_reducible refine World.rangeAt_alloc ?_ _ | with_reducible refine (World.rangeAt_drew _ _ _ _).2 ?_)); done)); (focus (first | (simp; done) | (simp; omega) | omega)); intro A6 c6 w6 own6 gr6; have m6 := M1.pushT (show M1 (k + 1) g13 ⟨tk, tss, tn, tt⟩ w5 _ A n c (acc.map (·.1)) A2 n c2 (acc.map (·.2)) from by (repeat (first | with_reducible exact M5.out | with_reducible refine M1.alloc ?_ _ | with_reducible refine M1.drew ?_)); done) own6 gr6 hneT; (first | (refine M1.row_then (b := w5.heap.size + 1) (cs := [.int .i64 here.line, .int .i64 here.col]) (show M1 (k + 1) g13 ⟨tk, tss, tn, tt⟩ w5 _ A n c (acc.map (·.1)) A2 n c2 (acc.map (·.2)) from by (repeat (first | with_reducible exact M5.out | with_reducible refine M1.alloc ?_ _ | with_reducible refine M1.drew ?_)); done) gr6 hneR1 ?_ ?_ ?_; (focus (repeat (first | with_reducible refine range_new' _ _ _ _ ?_ | with_reducible refine World.rangeAt_alloc ?_ _ | with_reducible refine (World.rangeAt_drew _ _ _ _).2 ?_)); (first | (simp; done) | done)); (focus (first | (simp; done) | (simp; omega))); intro rp) | (refine M1.row_then (b := w5.heap.size) (cs := [.int .i64 here.line, .int .i64 here.col]) (show M1 (k + 1) g13 ⟨tk, tss, tn, tt⟩ w5 _ A n c (acc.map (·.1)) A2 n c2 (acc.map (·.2)) from by (repeat (first | with_reducible exact M5.out | with_reducible refine M1.alloc ?_ _ | with_reducible refine M1.drew ?_)); done) gr6 hneR0 ?_ ?_ ?_; (focus (repeat (first | with_reducible refine range_new' _ _ _ _ ?_ | with_reducible refine World.rangeAt_alloc ?_ _ | with_reducible refine (World.rangeAt_drew _ _ _ _).2 ?_)); (first | (simp; done) | done)); (focus (first | (simp; done) | (simp; omega))); intro rp) | skip); clear own6 gr6; have c0 : w6.cell? ⟨g8, 0, none⟩ = some (.int .i64 here.line) := (H5.out.below m6.bl hg8k).cell (j := 0) rfl; have c1 : w6.cell? ⟨g8, 1, none⟩ = some (.int .i64 here.col) := (H5.out.below m6.bl hg8k).cell (j := 1) rfl; have x0 : w6.cell? ⟨g13, 0, none⟩ = some (.int .i64 tk) := m6.h13.cell (j := 0) rfl; have x1 : w6.cell? ⟨g13, 1, none⟩ = some (.string ts) := (by have := m6.h13.cell (j := 1) rfl; rw [← HTS.out]; exact this); have x2 : w6.cell? ⟨g13, 2, none⟩ = some (.int .i64 tn) := m6.h13.cell (j := 2) rfl; have x3 : w6.cell? ⟨g13, 3, none⟩ = some (.bool tt) := m6.h13.cell (j := 3) rfl)
            | (refine Sh.step_push plS (A := A2) (c := c2) (l := acc.map (·.2)) (base := k + 1) (x := here) rfl (.tmp 42) (.tmp 44) (by rfl) (by rfl) ?_ (by rfl) ?_ hn6 ?_ ?_; (focus exact M1.op (show M1 (k + 1) g13 ⟨tk, tss, tn, tt⟩ w5 _ A6 (n + 1) c6 (acc.map (·.1) ++ [⟨tk, tss, tn, tt⟩]) A2 n c2 (acc.map (·.2)) from by (repeat (first | with_reducible exact m6 | with_reducible refine M1.alloc ?_ _ | with_reducible refine M1.drew ?_)); done)); (focus show World.rangeAt _ _ _ [.int .i64 here.line, .int .i64 here.col]; (first | (with_reducible exact rp) | ((repeat (first | with_reducible refine range_new' _ _ _ _ ?_ | with_reducible refine World.rangeAt_alloc ?_ _ | with_reducible refine (World.rangeAt_drew _ _ _ _).2 ?_)); (first | (simp; done) | done)))); (focus have := m6.sz; (first | (simp; done) | (simp; omega) | omega)); intro A7 c7 w7 own7 gr7; have m7 := M1.pushP (show M1 (k + 1) g13 ⟨tk, tss, tn, tt⟩ w5 _ A6 (n + 1) c6 (acc.map (·.1) ++ [⟨tk, tss, tn, tt⟩]) A2 n c2 (acc.map (·.2)) from by (repeat (first | with_reducible exact m6 | with_reducible refine M1.alloc ?_ _ | with_reducible refine M1.drew ?_)); done) own7 gr7 hneP; clear own7 gr7; have c0 : w7.cell? ⟨g8, 0, none⟩ = some (.int .i64 here.line) := (H5.out.below m7.bl hg8k).cell (j := 0) rfl; have c1 : w7.cell? ⟨g8, 1, none⟩ = some (.int .i64 here.col) := (H5.out.below m7.bl hg8k).cell (j := 1) rfl; have x0 : w7.cell? ⟨g13, 0, none⟩ = some (.int .i64 tk) := m7.h13.cell (j := 0) rfl; have x1 : w7.cell? ⟨g13, 1, none⟩ = some (.string ts) := (by have := m7.h13.cell (j := 1) rfl; rw [← HTS.out]; exact this); have x2 : w7.cell? ⟨g13, 2, none⟩ = some (.int .i64 tn) := m7.h13.cell (j := 2) rfl; have x3 : w7.cell? ⟨g13, 3, none⟩ = some (.bool tt) := m7.h13.cell (j := 3) rfl))
        all_goals
          have S7 := hid (S5.out.grow m7.ot m7.op m7.bl)
          have x1' := x1
          have q7 := S7.out.h8
          clear c0 c1 x0 x2 x3 x1 m6 m7
          have hln : ts.size = m := by rw [← HTS.out, ← HM.out]; exact bA_size _
          go_wp2_with (first
            | (refine Sh.wp_sv plS (x := bp) rfl (.tmp 8) (.tmp 80) rfl rfl (by rfl) q8 ?_; intro w9 q9 b9 o9 s9; have S9 := hid (S8.out.set _ q9 b9 o9 s9.out); clear q9 b9 o9 s9)
            | (go_at_call 90; refine (HB.out _).mono ?_; rintro e w8 ⟨rfl, b8⟩; have S8 := hid (S7.out.keep b8); have q8 := S8.out.h8; clear b8)
            | (refine Sh.wp_ld plS rfl (.tmp 8) rfl rfl q7.1 ?_))
          dsimp only [Act.put]
          go_roundw
          case rel => exact ⟨pos + 1, pos + m, false, bp, acc ++ [(⟨tk, tss, tn, tt⟩, here)], n + 1, A6, c6, A7, c7, rfl, rfl, by go_num, rfl, by rw [List.map_append, List.map_append]; exact S9.out, by rw [List.length_append, HA.out.1]; rfl, by have := HA.out.2; omega, by omega, HCI.out⟩
          case measure =>
            have e1 : w9.iterPos k = pos + 1 := by unfold World.iterPos; rw [S9.out.it]
            have e2 : wr.iterPos k = pos := by unfold World.iterPos; rw [S1.out.it]
            rw [e1, e2]; omega
    · have hnx : ∀ ty, (Instr.next (.pointer (some ⟨k, 0, none⟩)) true ty).run Tryz.prog wr = _ := fun ty => Lib.run_next_end_at wr k s pos ty hcs.it hlt
      have HE := hid (ci_end hci (by show s.size ≤ pos; omega))
      have q4 := hcs.h4
      clear hci hcs
      go_wp2_with (first
        | (refine Sh.wp_sv plS (x := ⟨0, 0⟩) rfl (.tmp 4) (.tmp 83) rfl rfl (by rfl) q4 ?_; intro w9 q9 b9 o9 s9))
      have hkb := S1.out.o48
      have hkb2 := S1.out.o8
      refine bodyPost_ret (results_11p1 Tryz.results41 _ rfl q9) rfl ⟨S1.out.bl.trans b9, .inr (.inr ⟨hs, HE.out.2, n, A, c, A2, c2, ?_, ?_, rfl, ?_, ?_⟩)⟩
      · rw [HE.out.1]; exact hacc
      · omega
      · rw [HE.out.1]; exact (S1.out.ot.oth o9 (by omega)).base_le (by omega)
      · rw [HE.out.1]; exact (S1.out.op.oth o9 (by omega)).base_le (by omega)
theorem lcut_any (s : ByteArray) (w : World) (hL : LaidW w) (hs : s.size ≤ 9223372036854775807) : Calls Tryz.prog 41 #[.string s] w (CutPost s w) := by
  by_cases h : s.size ≤ 65536
  · exact cut_short s w hL h
  · exact cut_long s w hL (by omega) hs
end Go.Proofs.YtpkoboohnbkpoaaGreatDoor

/-! PN -/
namespace Go.Proofs.YtpkoboohnbkpoaaGreatDoor
open Go Go.RowKit Go.Joins

/-! ### Assertions -/
theorem as_ww (v : Value) (w : World) : (Instr.typeAssert (.iface 138 v) 20 138 true).run Tryz.prog w = .ok (.tuple #[v, .bool true]) w := by kernel_rfl
theorem as_nw (v : Value) (w : World) : (Instr.typeAssert (.iface 139 v) 20 138 true).run Tryz.prog w = .ok (.tuple #[.string ⟨#[]⟩, .bool false]) w := by kernel_rfl
theorem as_sw (v : Value) (w : World) : (Instr.typeAssert (.iface 140 v) 20 138 true).run Tryz.prog w = .ok (.tuple #[.string ⟨#[]⟩, .bool false]) w := by kernel_rfl
theorem as_ew (v : Value) (w : World) : (Instr.typeAssert (.iface 142 v) 20 138 true).run Tryz.prog w = .ok (.tuple #[.string ⟨#[]⟩, .bool false]) w := by kernel_rfl
theorem as_we (v : Value) (w : World) : (Instr.typeAssert (.iface 138 v) 20 142 true).run Tryz.prog w = .ok (.tuple #[.agg #[], .bool false]) w := by kernel_rfl
theorem as_ne (v : Value) (w : World) : (Instr.typeAssert (.iface 139 v) 20 142 true).run Tryz.prog w = .ok (.tuple #[.agg #[], .bool false]) w := by kernel_rfl
theorem as_se (v : Value) (w : World) : (Instr.typeAssert (.iface 140 v) 20 142 true).run Tryz.prog w = .ok (.tuple #[.agg #[], .bool false]) w := by kernel_rfl
theorem as_ee (v : Value) (w : World) : (Instr.typeAssert (.iface 142 v) 20 142 true).run Tryz.prog w = .ok (.tuple #[v, .bool true]) w := by kernel_rfl
theorem as_wn (v : Value) (w : World) : (Instr.typeAssert (.iface 138 v) 20 139 true).run Tryz.prog w = .ok (.tuple #[.agg #[.int .i64 0, .bool false], .bool false]) w := by kernel_rfl
theorem as_nn (v : Value) (w : World) : (Instr.typeAssert (.iface 139 v) 20 139 true).run Tryz.prog w = .ok (.tuple #[v, .bool true]) w := by kernel_rfl
theorem as_sn (v : Value) (w : World) : (Instr.typeAssert (.iface 140 v) 20 139 true).run Tryz.prog w = .ok (.tuple #[.agg #[.int .i64 0, .bool false], .bool false]) w := by kernel_rfl
theorem as_en (v : Value) (w : World) : (Instr.typeAssert (.iface 142 v) 20 139 true).run Tryz.prog w = .ok (.tuple #[.agg #[.int .i64 0, .bool false], .bool false]) w := by kernel_rfl
theorem as_ws (v : Value) (w : World) : (Instr.typeAssert (.iface 138 v) 20 140 true).run Tryz.prog w = .ok (.tuple #[.string ⟨#[]⟩, .bool false]) w := by kernel_rfl
theorem as_ns (v : Value) (w : World) : (Instr.typeAssert (.iface 139 v) 20 140 true).run Tryz.prog w = .ok (.tuple #[.string ⟨#[]⟩, .bool false]) w := by kernel_rfl
theorem as_ss (v : Value) (w : World) : (Instr.typeAssert (.iface 140 v) 20 140 true).run Tryz.prog w = .ok (.tuple #[v, .bool true]) w := by kernel_rfl
theorem as_es (v : Value) (w : World) : (Instr.typeAssert (.iface 142 v) 20 140 true).run Tryz.prog w = .ok (.tuple #[.string ⟨#[]⟩, .bool false]) w := by kernel_rfl
theorem as_s1 (v : Value) (w : World) : (Instr.typeAssert (.iface 140 v) 20 140 false).run Tryz.prog w = .ok v w := by kernel_rfl

set_option maxRecDepth 100000 in
theorem now_any {w : World} {g b c many : Nat} {pre rest : List Tk} (h : Rd w g b c pre rest many) : Calls Tryz.prog 92 #[.pointer (some ⟨g, 0, none⟩)] w fun e w' => e = .returned (nowV rest) ∧ Below w.heap.size w w' := by
  have c0 := h.c0
  have c1 := h.c1
  have hn := h.now
  have hle := h.le
  obtain ⟨k, hk⟩ : ∃ k, pre.length = k := ⟨_, rfl⟩
  obtain ⟨n, hn2⟩ : ∃ n, pre.length + rest.length + 1 = n := ⟨_, rfl⟩
  have hlt : k < n := by omega
  have hn3 : n ≤ 1000001 := by omega
  rw [hk] at c1 hn
  rw [hn2] at c0
  clear hk hn2 hle h
  generalize nowV rest = v at *
  go_enter Tryz.func92, Tryz.ntmps92
  go_wp2_with fail
  go_quiet (fail)
  go_wp2_with fail
  go_ret
  exact ⟨rfl, by first | exact Below.refl _ _ | exact (Below.refl _ _).drew | exact bel_drewN (Below.refl _ _) _⟩

theorem now_is {w : World} {g b c many : Nat} {pre rest : List Tk} (h : Rd w g b c pre rest many) {v : Value} (hv : nowV rest = v) : Calls Tryz.prog 92 #[.pointer (some ⟨g, 0, none⟩)] w fun e w' => e = .returned v ∧ Below w.heap.size w w' := by
  have := now_any h; rw [hv] at this; exact this
theorem now_w (t : Tk) (r : List Tk) (h1 : t.kind = 1) : nowV (t :: r) = .iface 138 (.string (strB t.s)) := if_pos h1
theorem now_n (t : Tk) (r : List Tk) (h2 : t.kind = 2) : nowV (t :: r) = .iface 139 (.agg #[.int .i64 t.n, .bool t.time]) := by show tyV t = _; unfold tyV; rw [if_neg (by omega), if_pos h2]
theorem now_s (t : Tk) (r : List Tk) (h1 : ¬ t.kind = 1) (h2 : ¬ t.kind = 2) : nowV (t :: r) = .iface 140 (.string (strB t.s)) := by show tyV t = _; unfold tyV; rw [if_neg h1, if_neg h2]
/-- What is next, of any kind. -/
theorem kinds (t : Tk) (r : List Tk) : (t.kind = 1 ∧ nowV (t :: r) = .iface 138 (.string (strB t.s))) ∨ (t.kind = 2 ∧ nowV (t :: r) = .iface 139 (.agg #[.int .i64 t.n, .bool t.time])) ∨ (¬ t.kind = 1 ∧ ¬ t.kind = 2 ∧ nowV (t :: r) = .iface 140 (.string (strB t.s))) := by
  by_cases h1 : t.kind = 1
  · exact .inl ⟨h1, now_w t r h1⟩
  by_cases h2 : t.kind = 2
  · exact .inr (.inl ⟨h2, now_n t r h2⟩)
  · exact .inr (.inr ⟨h1, h2, now_s t r h1 h2⟩)

set_option maxRecDepth 100000 in
theorem wrong_any {w : World} {g b c many : Nat} {pre rest : List Tk} (h : Rd w g b c pre rest many) : Calls Tryz.prog 154 #[.pointer (some ⟨g, 0, none⟩)] w fun e w' => e = .returned (.int .i64 (wrongE rest : Nat)) ∧ Below w.heap.size w w' := by
  match rest with
  | [] =>
    have HN := hid (now_is h (v := .iface 142 (.agg #[])) rfl)
    have ha := as_ee (.agg #[])
    clear h
    go_enter Tryz.func154, Tryz.ntmps154
    go_wp2_with (first
      | (go_at_call 92; refine HN.out.mono ?_; rintro e w1 ⟨rfl, b1⟩))
    go_ret
    exact ⟨rfl, b1.alloc b1.size _⟩
  | t :: r =>
    rcases kinds t r with ⟨_, hv⟩ | ⟨_, hv⟩ | ⟨_, _, hv⟩
    · have HN := hid (now_is h hv)
      have ha := as_we (.string (strB t.s))
      clear h
      go_enter Tryz.func154, Tryz.ntmps154
      go_wp2_with (first
        | (go_at_call 92; refine HN.out.mono ?_; rintro e w1 ⟨rfl, b1⟩))
      go_ret
      exact ⟨rfl, b1.alloc b1.size _⟩
    · have HN := hid (now_is h hv)
      have ha := as_ne (.agg #[.int .i64 t.n, .bool t.time])
      clear h
      go_enter Tryz.func154, Tryz.ntmps154
      go_wp2_with (first
        | (go_at_call 92; refine HN.out.mono ?_; rintro e w1 ⟨rfl, b1⟩))
      go_ret
      exact ⟨rfl, b1.alloc b1.size _⟩
    · have HN := hid (now_is h hv)
      have ha := as_se (.string (strB t.s))
      clear h
      go_enter Tryz.func154, Tryz.ntmps154
      go_wp2_with (first
        | (go_at_call 92; refine HN.out.mono ?_; rintro e w1 ⟨rfl, b1⟩))
      go_ret
      exact ⟨rfl, b1.alloc b1.size _⟩
end Go.Proofs.YtpkoboohnbkpoaaGreatDoor
