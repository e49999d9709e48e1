/-
  The walk of LexRemarks: it is true; under: the tables hold what the program lays (LaidW).
-/
import Derived.Test.YtfdieablcffdkaaDoorLK
import Derived.Test.YtfdieablcffdkaaDoorLL
namespace Go.Proofs.YtfdieablcffdkaaDoor
open Go Go.RowKit Go.Joins

/-- What Cut tells of any text of at most 65536 bytes. -/
def ToldC (s : ByteArray) (w : World) (e : Ending) (w' : World) : Prop :=
  ∃ n A c A2 n2 c2 p ts f, e = .returned (.tuple #[.slice A n c, .slice A2 n2 c2, .agg #[.int .i64 (p : Pl).line, .int .i64 p.col], .int .i64 (f : Nat)]) ∧ n ≤ s.size ∧ tkS.Ow w' w.heap.size A n c ts ∧ Below w.heap.size w w' ∧
    ((f = 0 ∧ tks (cutL s.data.toList false firstP) = (ts, none)) ∨ (f ≠ 0 ∧ ts = [] ∧ (tks (cutL s.data.toList false firstP)).2 = some f))
theorem cutE : ∀ (n : Nat) (l : List UInt8) (rem : Bool) (p q : Pl) (f : Nat), l.length ≤ n → (cutL l rem p).2 = some (q, f) → f ≠ 0 := by
  intro n
  induction n with
  | zero =>
    intro l rem p q f h he
    have : l = [] := List.eq_nil_of_length_eq_zero (by omega)
    subst this
    rw [cutL] at he; cases he
  | succ n ih =>
    intro l rem p q f h he
    match l with
    | [] => rw [cutL] at he; cases he
    | c :: r =>
      have hr : r.length ≤ n := by simpa using h
      have hd : ∀ k, (r.drop k).length ≤ n := fun k => by rw [List.length_drop]; omega
      rw [cutL] at he
      split at he
      · cases he; decide
      split at he
      · exact ih _ _ _ _ _ (hd _) he
      split at he
      · exact ih _ _ _ _ _ (hd _) he
      split at he
      · exact ih _ _ _ _ _ (hd _) he
      split at he
      · rename_i e ht
        cases he
        exact tok_err _ _ ht
      · exact ih _ _ _ _ _ (hd _) he
theorem cut_told (s : ByteArray) (w : World) (hL : LaidW w) (hs : s.size ≤ 65536) : Calls Tryd.prog 8 #[.string s] w (ToldC s w) := by
  refine (lcut_any s w hL (by omega)).mono ?_
  rintro e w' ⟨hb, ⟨h1, _⟩ | ⟨_, p2, f2, h1, he⟩ | ⟨_, h1, n, A, c, A2, c2, hn, hn2, he, ht, hp⟩⟩
  · omega
  · exact ⟨0, none, 0, none, 0, 0, p2, [], f2, he, Nat.zero_le _, Sh.Ow.nil _ _, hb, .inr ⟨cutE _ _ _ _ _ _ (Nat.le_refl _) h1, rfl, by show ((cutL _ _ _).2).map _ = _; rw [h1]; rfl⟩⟩
  · exact ⟨n, A, c, A2, n, c2, ⟨0, 0⟩, _, 0, he, hn2, ht, hb, .inl ⟨rfl, by show (_, _) = _; rw [h1]; rfl⟩⟩

theorem few_size (n : Nat) (h : fewB n [] = true) : n < 131072 := by
  unfold fewB at h
  simp at h
  omega
set_option maxRecDepth 100000 in
theorem remarks_no (s t : ByteArray) (k : Nat) (w : World) (hL : LaidW w) (hs : s.size ≤ 9223372036854775807) (ht : t.size ≤ 9223372036854775807) (h : fewB s.size [] = false ∨ fewB t.size [] = false ∨ 3000 < s.size + t.size) :
    Calls Tryd.prog 4 #[.string s, .string t, .int .u8 k] w fun e w' => e = .returned (.bool true) ∧ Below w.heap.size w w' := by
  have HV := hid (live_any w hL)
  have HS := hid (fun w => few_any s none 0 0 w.heap.size [] w (Sh.Rw.nil _ _ _) (Nat.le_refl _) (by omega) (by omega))
  have HT := hid (fun w => few_any t none 0 0 w.heap.size [] w (Sh.Rw.nil _ _ _) (Nat.le_refl _) (by omega) (by omega))
  have hf1 := few_size s.size
  have hf2 := few_size t.size
  clear hL
  generalize fewB s.size [] = b1 at *
  generalize fewB t.size [] = b2 at *
  cases b1
  · clear h
    go_enter Tryd.func4, Tryd.ntmps4
    go_wp2_with (first
      | (go_at_call 6; refine HV.out.mono ?_; rintro e w1 ⟨rfl, g1⟩; have G1 := hid g1; clear g1)
      | (go_at_call 7; refine (HS.out _).mono ?_; rintro e w2 ⟨rfl, g2⟩; have G2 := hid (G1.out.trans (g2.mono G1.out.size)); clear g2))
    go_ret
    exact ⟨rfl, G2.out⟩
  · cases b2
    · clear h
      go_enter Tryd.func4, Tryd.ntmps4
      go_wp2_with (first
        | (go_at_call 6; refine HV.out.mono ?_; rintro e w1 ⟨rfl, g1⟩; have G1 := hid g1; clear g1)
        | (go_at_call 7; (with_reducible refine (HS.out w1).mono ?_); rintro e w2 ⟨rfl, g2⟩; have G2 := hid (G1.out.trans (g2.mono G1.out.size)); clear g2)
        | (go_at_call 7; (with_reducible refine (HT.out w2).mono ?_); rintro e w3 ⟨rfl, g3⟩; have G3 := hid (G2.out.trans (g3.mono G2.out.size)); clear g3))
      go_ret
      exact ⟨rfl, G3.out⟩
    · have hsum : (3000 : Int) < s.size + t.size := by simp at h; omega
      have hf3 := hf1 rfl
      have hf4 := hf2 rfl
      clear hs ht
      clear h
      go_enter Tryd.func4, Tryd.ntmps4
      go_wp2_with (first
        | (go_at_call 6; refine HV.out.mono ?_; rintro e w1 ⟨rfl, g1⟩; have G1 := hid g1; clear g1)
        | (go_at_call 7; (with_reducible refine (HS.out w1).mono ?_); rintro e w2 ⟨rfl, g2⟩; have G2 := hid (G1.out.trans (g2.mono G1.out.size)); clear g2)
        | (go_at_call 7; (with_reducible refine (HT.out w2).mono ?_); rintro e w3 ⟨rfl, g3⟩; have G3 := hid (G2.out.trans (g3.mono G2.out.size)); clear g3))
      go_ret
      exact ⟨rfl, G3.out⟩
theorem clean_step (l : List UInt8) (pos : Nat) (c : UInt8) (r : List UInt8) (hd : l.drop pos = c :: r) :
    cleanB (l.drop pos) = (decide ((dec (c :: r)).1 ≠ 10) && (decide ((dec (c :: r)).1 ≠ 65533) && cleanB (l.drop (pos + (dec (c :: r)).2)))) := by
  have htd := tail_drop c r (dec (c :: r)).2 (dec_pos _)
  rw [hd, cleanB, htd, ← List.drop_drop, hd]
theorem told_same {s1 s2 : ByteArray} {ts1 ts2 : List Tk} {f1 f2 : Nat} (he : tks (cutL s1.data.toList false firstP) = tks (cutL s2.data.toList false firstP))
    (h1 : (f1 = 0 ∧ tks (cutL s1.data.toList false firstP) = (ts1, none)) ∨ (f1 ≠ 0 ∧ ts1 = [] ∧ (tks (cutL s1.data.toList false firstP)).2 = some f1))
    (h2 : (f2 = 0 ∧ tks (cutL s2.data.toList false firstP) = (ts2, none)) ∨ (f2 ≠ 0 ∧ ts2 = [] ∧ (tks (cutL s2.data.toList false firstP)).2 = some f2)) : f1 = f2 ∧ ts1 = ts2 := by
  rw [he] at h1
  rcases h1 with ⟨rfl, h1⟩ | ⟨_, rfl, h1⟩ <;> rcases h2 with ⟨rfl, h2⟩ | ⟨_, rfl, h2⟩
  · rw [h1] at h2; cases h2; exact ⟨rfl, rfl⟩
  · rw [h1] at h2; cases h2
  · rw [h2] at h1; cases h1
  · rw [h1] at h2; cases h2; exact ⟨rfl, rfl⟩

theorem told_none {s : ByteArray} {ts : List Tk} {f n : Nat} (he : tks (cutL s.data.toList false firstP) = ([], none))
    (h1 : (f = 0 ∧ tks (cutL s.data.toList false firstP) = (ts, none)) ∨ (f ≠ 0 ∧ ts = [] ∧ (tks (cutL s.data.toList false firstP)).2 = some f)) (hn : ts.length = n) : f = 0 ∧ n = 0 := by
  rw [he] at h1
  rcases h1 with ⟨rfl, h1⟩ | ⟨_, rfl, h1⟩
  · cases h1; exact ⟨rfl, hn.symm⟩
  · cases h1

set_option maxHeartbeats 1000000 in
set_option maxRecDepth 100000 in
theorem remarks_yes (s t : ByteArray) (k : Nat) (w : World) (hL : LaidW w) (hk : k < 256) (h : s.size + t.size ≤ 3000) :
    Calls Tryd.prog 4 #[.string s, .string t, .int .u8 k] w fun e w' => e = .returned (.bool true) ∧ Below w.heap.size w w' := by
  have hb1 : fewB s.size [] = true := by unfold fewB; rw [decide_eq_true (by omega : s.size ≤ 3000)]; rfl
  have hb2 : fewB t.size [] = true := by unfold fewB; rw [decide_eq_true (by omega : t.size ≤ 3000)]; rfl
  have HV := hid (live_any w hL)
  have HS := hid (fun w => by have := few_any s none 0 0 w.heap.size [] w (Sh.Rw.nil _ _ _) (Nat.le_refl _) (by omega) (by omega); rwa [hb1] at this)
  have HT := hid (fun w => by have := few_any t none 0 0 w.heap.size [] w (Sh.Rw.nil _ _ _) (Nat.le_refl _) (by omega) (by omega); rwa [hb2] at this)
  have HL := hid hL
  clear hL hb1 hb2
  have hsum : ¬ (3000 : Int) < s.size + t.size := by omega
  have hz1 : s.size ≤ 3000 := by omega
  have hz2 : t.size ≤ 3000 := by omega
  go_enter Tryd.func4, Tryd.ntmps4
  go_wp2_with (first
    | (go_at_call 6; refine HV.out.mono ?_; rintro e w1 ⟨rfl, g1⟩; have G1 := hid g1; clear g1)
    | (go_at_call 7; (with_reducible refine (HS.out w1).mono ?_); rintro e w2 ⟨rfl, g2⟩; have G2 := hid (G1.out.trans (g2.mono G1.out.size)); clear g2)
    | (go_at_call 7; (with_reducible refine (HT.out w2).mono ?_); rintro e w3 ⟨rfl, g3⟩; have G3 := hid (G2.out.trans (g3.mono G2.out.size)); clear g3))
  go_loopw [] (fun wr => ∃ pos : Nat, wr = w3.iter t pos ∧ pos ≤ t.size ∧ cleanB (t.data.toList.drop pos) = cleanB t.data.toList) (fun wr => t.size - wr.iterPos w3.heap.size)
  case atStart => exact ⟨0, rfl, Nat.zero_le _, rfl⟩
  case round =>
    obtain ⟨pos, rfl, hp, hcl⟩ := hrel
    have HBI := hid (fun pos => G3.out.trans ((below_iter w3 t pos).mono G3.out.size))
    by_cases hlt : pos < t.size
    · obtain ⟨c, r, hd, ht⟩ := drop_cons (l := t.data.toList) (k := pos) (by simpa using hlt)
      have hnx : ∀ ty, (Instr.next (.pointer (some ⟨w3.heap.size, 0, none⟩)) true ty).run Tryd.prog (w3.iter t pos) = _ := fun ty => run_next_any w3 t pos ty hlt
      rw [dec_of, hd] at hnx
      have hst := clean_step t.data.toList pos c r hd
      rw [hcl] at hst
      have hle := dec_le c r
      have hpos := dec_pos (c :: r)
      have hlen : pos + (dec (c :: r)).2 ≤ t.size := by
        have h5 : pos < t.data.toList.length := by simpa using hlt
        have := congrArg List.length hd
        rw [List.length_drop] at this
        simp only [List.length_cons] at this
        have h6 : t.data.toList.length = t.size := rfl
        omega
      clear hd ht hcl hle
      generalize (dec (c :: r)).1 = x at *
      generalize (dec (c :: r)).2 = n at *
      have HST := hid hst
      clear hst
      by_cases h10 : x = 10
      · have h10' : ((x : Int) == 10) = true := beq_iff_eq.2 (by omega)
        go_wp2
        go_ret
        exact ⟨rfl, HBI.out _⟩
      have h10' : ((x : Int) == 10) = false := beq_eq_false_iff_ne.2 (by omega)
      by_cases hff : x = 65533
      · have hff' : ((x : Int) == 65533) = true := beq_iff_eq.2 (by omega)
        go_wp2
        go_ret
        exact ⟨rfl, HBI.out _⟩
      have hff' : ((x : Int) == 65533) = false := beq_eq_false_iff_ne.2 (by omega)
      have hok := hid (show cleanB (t.data.toList.drop (pos + n)) = cleanB t.data.toList by rw [HST.out, decide_eq_true h10, decide_eq_true hff]; rfl)
      clear h10 hff HST
      go_wp2
      go_roundw
      case rel => exact ⟨pos + n, rfl, hlen, hok.out⟩
      case measure => simp; omega
    · have hnx : ∀ ty, (Instr.next (.pointer (some ⟨w3.heap.size, 0, none⟩)) true ty).run Tryd.prog (w3.iter t pos) = _ := fun ty => run_next_end w3 t pos ty hlt
      have HCL : Hid (cleanB t.data.toList = true) := hid (by
        rw [← hcl, List.drop_of_length_le (by show t.size ≤ pos; omega), cleanB])
      have HB4 := hid (HBI.out pos)
      clear hcl hlt hp HBI
      generalize w3.iter t pos = w4 at *
      have HC1 := hid (fun w hL => cut_told s w hL (by omega))
      obtain ⟨S2, hS2⟩ : ∃ S2, (⟨#[10, 10, 10, 10, 9, 32]⟩ : ByteArray).extract 0 (k % 7) ++ s ++ ⟨#[10, 35]⟩ ++ t = S2 := ⟨_, rfl⟩
      obtain ⟨S3, hS3⟩ : ∃ S3, (⟨#[35, 32]⟩ : ByteArray) ++ t = S3 := ⟨_, rfl⟩
      have hpre := extract_take ⟨#[10, 10, 10, 10, 9, 32]⟩ (k % 7)
      have hl2 : S2.data.toList = ((([10, 10, 10, 10, 9, 32] : List UInt8).take (k % 7) ++ s.data.toList) ++ [10, 35]) ++ t.data.toList := by
        rw [← hS2, ByteArray.data_append, ByteArray.data_append, ByteArray.data_append, Array.toList_append, Array.toList_append, Array.toList_append, hpre]
      have hl3 : S3.data.toList = 35 :: 32 :: t.data.toList := by
        rw [← hS3, ByteArray.data_append, Array.toList_append]; rfl
      have hz3 : S2.size ≤ 65536 := by
        show S2.data.toList.length ≤ _
        have h6 : s.data.toList.length = s.size := rfl
        have h7 : t.data.toList.length = t.size := rfl
        rw [hl2]
        simp only [List.length_append, List.length_take, List.length_cons, List.length_nil]
        omega
      have hz4 : S3.size ≤ 65536 := by
        show S3.data.toList.length ≤ _
        have h7 : t.data.toList.length = t.size := rfl
        rw [hl3]
        simp only [List.length_cons]
        omega
      have HE2 := hid (show tks (cutL s.data.toList false firstP) = tks (cutL S2.data.toList false firstP) by
        rw [hl2]
        refine (remarks_plain _ _ _ ?_ HCL.out).symm
        intro c hc
        have := List.mem_of_mem_take hc
        simp at this
        rcases this with rfl | rfl | rfl <;> simp)
      have HE3 := hid (show tks (cutL S3.data.toList false firstP) = ([], none) by rw [hl3, remark_cut2 _ _ HCL.out]; rfl)
      have HC2 := hid (fun w hL => cut_told S2 w hL hz3)
      have HC3 := hid (fun w hL => cut_told S3 w hL hz4)
      clear hpre hl2 hl3
      have G4 := hid (HB4.out)
      go_wp2_with (first
        | (go_at_call 10; refine (same_any A1 A2 n1 c1 n2 c2 w13.heap.size w13.heap.size ts1 ts1 true w13 X13.out.row Y13.out.row (Nat.le_refl _) (Nat.le_refl _) (by have := hk4.out; omega) (by have := hk5.out; omega) (decide_eq_true rfl)).mono ?_; rintro e w14 ⟨rfl, g14⟩; have G14 := hid (G13.out.trans (g14.mono G13.out.size)); clear g14)
        | (refine Sh.wp_sv plS (x := p3) rfl (.tmp 20) (.tmp 79) rfl rfl (by rfl) q12 ?_; intro w13 q13 b13 o13 _; have G13 := hid (G11.out.trans ((b12.trans (b13.mono (Nat.le_refl _))).mono G11.out.size)); have X13 := hid (O11.out.below (b12.trans (b13.mono (Nat.le_refl _)))); have Y13 := hid (P11.out.below (b12.trans (b13.mono (Nat.le_refl _)))); clear q12 q13 b12 b13 o13; obtain ⟨rfl, rfl⟩ := hk2.out; obtain ⟨rfl, rfl⟩ := hk3.out; clear hk2 hk3)
        | (refine Sh.wp_al plS rfl rfl ?_; intro w12 q12 b12 _; have hk2 := n3z; clear n3z)
        | (go_at_call 8; (with_reducible refine (HC3.out w10 (HL.out.below G10.out)).mono ?_); rintro e w11 ⟨n3, A3, c3, B3, m3, d3, p3, ts3, f3, rfl, hn3, ow3, g11, hr3⟩; have n3z := hid (told_none HE3.out hr3 ow3.len); have G11 := hid (G10.out.trans (g11.mono G10.out.size)); have O11 := hid (X10.out.below g11); have P11 := hid (Y10.out.below g11); clear g11 ow3 hr3)
        | (refine Sh.wp_sv plS (x := p2) rfl (.tmp 16) (.tmp 71) rfl rfl (by rfl) q9 ?_; intro w10 q10 b10 o10 _; have G10 := hid (G8.out.trans ((b9.trans (b10.mono (Nat.le_refl _))).mono G8.out.size)); have X10 := hid (O8.out.below (b9.trans (b10.mono (Nat.le_refl _)))); have Y10 := hid (P8.out.below (b9.trans (b10.mono (Nat.le_refl _)))); clear q9 q10 b9 b10 o10)
        | (refine Sh.wp_al plS rfl rfl ?_; intro w9 q9 b9 _; have hk3 := R8; clear R8)
        | (go_at_call 8; (with_reducible refine (HC2.out w7 (HL.out.below G7.out)).mono ?_); rintro e w8 ⟨n2, A2, c2, B2, m2, d2, p2, ts2, f2, rfl, hn2, ow2, g8, hr2⟩; have G8 := hid (G7.out.trans (g8.mono G7.out.size)); have O8 := hid (O7.out.below g8); have P8 := hid ow2; have R8 := hid (told_same HE2.out R1.out hr2); have hk5 := hid hn2; clear g8 ow2 hr2)
        | (refine Sh.wp_sv plS (x := p1) rfl (.tmp 12) (.tmp 57) rfl rfl (by rfl) q6 ?_; intro w7 q7 b7 o7 _; have G7 := hid (G5.out.trans ((b6.trans (b7.mono (Nat.le_refl _))).mono G5.out.size)); have O7 := hid (O5.out.below (b6.trans (b7.mono (Nat.le_refl _)))); clear q6 q7 b6 b7 o7)
        | (refine Sh.wp_al plS rfl rfl ?_; intro w6 q6 b6 _; have hk4 := U5; clear U5)
        | (go_at_call 8; (with_reducible refine (HC1.out w4 (HL.out.below G4.out)).mono ?_); rintro e w5 ⟨n1, A1, c1, B1, m1, d1, p1, ts1, f1, rfl, hn1, ow1, g5, hr1⟩; have G5 := hid (G4.out.trans (g5.mono G4.out.size)); have O5 := hid ow1; have R1 := hid hr1; have U5 := hid hn1; clear g5 ow1 hr1))
      go_ret
      exact ⟨rfl, G14.out⟩
theorem remarks_row (s t : ByteArray) (k : Int) (w : World) (hL : LaidW w) (hs : s.size ≤ 9223372036854775807) (ht : t.size ≤ 9223372036854775807) (h0 : 0 ≤ k) (h1 : k ≤ 255) :
    Calls Tryd.prog 4 #[.string s, .string t, .int .u8 k] w fun e w' => e = .returned (.bool true) ∧ Below w.heap.size w w' := by
  obtain ⟨n, rfl⟩ := Int.eq_ofNat_of_zero_le h0
  by_cases h : s.size + t.size ≤ 3000
  · exact remarks_yes s t n w hL (by omega) h
  · exact remarks_no s t n w hL hs ht (.inr (.inr (by omega)))
end Go.Proofs.YtfdieablcffdkaaDoor
