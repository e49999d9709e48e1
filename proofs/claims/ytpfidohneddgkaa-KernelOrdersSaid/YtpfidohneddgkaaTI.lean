/-
  The walk of KernelTidy: sorted, a queue goes on as it was. What is asked: the queue came in (numbers of 64 bits).
-/
import Derived.Test.YtpfidohneddgkaaBA
namespace Go.Proofs.Ytpfidohneddgkaa
open Go Go.RowKit Go.Maps

/-- Two lists of the same things, both heaps or both none, of numbers of 64 bits. -/
def Twin (la lb : List It) : Prop := la.Perm lb ∧ chk la = chk lb ∧ SqOk la
theorem Twin.sq2 {la lb : List It} (h : Twin la lb) : SqOk lb := h.2.2.perm h.1.symm
theorem Twin.heaps {la lb : List It} (h1 : Hp la) (h2 : Hp lb) (hp : la.Perm lb) (hs : SqOk la) : Twin la lb := ⟨hp, by rw [(chk_iff la).2 h1, (chk_iff lb).2 h2], hs⟩
theorem Twin.first {la lb : List It} (h1 : Hp la) (h2 : Hp lb) (hp : la.Perm lb) (h0 : 0 < la.length) : nth la 0 = nth lb 0 := by
  have e := hp.length_eq
  refine lt_tri ?_ ?_
  · exact h2.least (hp.mem_iff.1 (nth_mem h0))
  · exact h1.least (hp.mem_iff.2 (nth_mem (by omega)))

/-- Of two queues that are the same but for their heaps' order the same comes. -/
theorem step_both {la lb : List It} (ht : Twin la lb) (n : Nat) (hl : la.length = n) (nx nw hz : Int) (hn : n ≤ 4000) : ∃ (E : Int) (x : It) (n' : Nat) (nw' : Int) (Q1 Q2 : List It → Prop), n' ≤ n ∧
    (∀ (A : Option Addr) (c B : Nat) (w : World), Row w B A n la → B ≤ w.heap.size → Calls Try.prog 17 #[qv ⟨A, n, c, nx, nw, hz⟩] w (RetQI w n' nx nw' hz x E Q1)) ∧
    (∀ (A : Option Addr) (c B : Nat) (w : World), Row w B A n lb → B ≤ w.heap.size → Calls Try.prog 17 #[qv ⟨A, n, c, nx, nw, hz⟩] w (RetQI w n' nx nw' hz x E Q2)) ∧
    ∀ l1 l2, Q1 l1 → Q2 l2 → Twin l1 l2 ∧ l1.length = n' := by
  have hlb : lb.length = n := by rw [← ht.1.length_eq]; exact hl
  have hoks := ok_perm (nx := nx) (nw := nw) (hz := hz) ht.1 ht.2.1
  cases hok : okB nx nw hz la with
  | false =>
    refine ⟨1, zr, n, nw, (· = la), (· = lb), Nat.le_refl _, fun A c B w hr hB => ?_, fun A c B w hr hB => ?_, ?_⟩
    · exact step_err A n c nx nw hz B la w zr 1 hr hB (by omega) (by omega) (fun w' hb => peek_bad A n c nx nw hz B la w' (hr.below (hb.mono hB)) (Nat.le_trans hB hb.size) (by omega) ht.2.2 hok)
    · exact step_err A n c nx nw hz B lb w zr 1 hr hB (by omega) (by omega) (fun w' hb => peek_bad A n c nx nw hz B lb w' (hr.below (hb.mono hB)) (Nat.le_trans hB hb.size) (by omega) ht.sq2 (by rw [← hoks]; exact hok))
    · rintro l1 l2 rfl rfl; exact ⟨ht, hl⟩
  | true =>
    have hokb : okB nx nw hz lb = true := by rw [← hoks]; exact hok
    by_cases h0 : n = 0
    · subst h0
      obtain rfl : la = [] := List.eq_nil_of_length_eq_zero hl
      obtain rfl : lb = [] := List.eq_nil_of_length_eq_zero hlb
      refine ⟨8, zr, 0, nw, (· = []), (· = []), Nat.le_refl _, fun A c B w hr hB => ?_, fun A c B w hr hB => ?_, ?_⟩
      · exact step_err A 0 c nx nw hz B [] w zr 8 hr hB (by omega) (by omega) (fun w' _ => peek_none A c nx nw hz w' hok)
      · exact step_err A 0 c nx nw hz B [] w zr 8 hr hB (by omega) (by omega) (fun w' _ => peek_none A c nx nw hz w' hok)
      · rintro l1 l2 rfl rfl; exact ⟨ht, hl⟩
    · obtain ⟨k, rfl⟩ : ∃ k, n = k + 1 := ⟨n - 1, by omega⟩
      obtain ⟨x, hx⟩ : ∃ x, nth la 0 = x := ⟨_, rfl⟩
      have hxb : nth lb 0 = x := by rw [← Twin.first (ok_hp hok) (ok_hp hokb) ht.1 (by omega)]; exact hx
      by_cases hh : x.1 ≤ hz
      · refine ⟨0, x, k, x.1, (fun l => Hp l ∧ la.Perm (x :: l)), (fun l => Hp l ∧ lb.Perm (x :: l)), by omega, fun A c B w hr hB => ?_, fun A c B w hr hB => ?_, ?_⟩
        · exact step_ok A c nx nw hz B la w k x hr hB (by omega) (ok_hp hok) hx hh (fun w' hb => peek_ok A (k + 1) c nx nw hz B la w' x (hr.below (hb.mono hB)) (Nat.le_trans hB hb.size) (by omega) ht.2.2 hok (by omega) hx)
        · exact step_ok A c nx nw hz B lb w k x hr hB (by omega) (ok_hp hokb) hxb hh (fun w' hb => peek_ok A (k + 1) c nx nw hz B lb w' x (hr.below (hb.mono hB)) (Nat.le_trans hB hb.size) (by omega) ht.sq2 hokb (by omega) hxb)
        · intro l1 l2 ⟨a1, a2⟩ ⟨b1, b2⟩
          exact ⟨Twin.heaps a1 b1 ((List.perm_cons _).1 (a2.symm.trans (ht.1.trans b2))) (SqOk.of_cons (ht.2.2.perm a2.symm)), by have := a2.length_eq; rw [hl, List.length_cons] at this; omega⟩
      · refine ⟨2, zr, k + 1, nw, (· = la), (· = lb), Nat.le_refl _, fun A c B w hr hB => ?_, fun A c B w hr hB => ?_, ?_⟩
        · exact step_over A (k + 1) c nx nw hz B la w x hr hB (by omega) (by omega) (fun w' hb => peek_ok A (k + 1) c nx nw hz B la w' x (hr.below (hb.mono hB)) (Nat.le_trans hB hb.size) (by omega) ht.2.2 hok (by omega) hx)
        · exact step_over A (k + 1) c nx nw hz B lb w x hr hB (by omega) (by omega) (fun w' hb => peek_ok A (k + 1) c nx nw hz B lb w' x (hr.below (hb.mono hB)) (Nat.le_trans hB hb.size) (by omega) ht.sq2 hokb (by omega) hxb)
        · rintro l1 l2 rfl rfl; exact ⟨ht, hl⟩

/-- .. and the same is posted. -/
theorem post_both {la lb : List It} (ht : Twin la lb) (n : Nat) (hl : la.length = n) (nx nw hz at_ cl wh wo nn : Int) (hx0 : 0 ≤ nx) (hx1 : nx ≤ 18446744073709551615) (hn : n ≤ 4000) : ∃ (E tok : Int) (n' : Nat) (nx' : Int) (Q1 Q2 : List It → Prop), n' ≤ n + 1 ∧ 0 ≤ nx' ∧ nx' ≤ 18446744073709551615 ∧
    (∀ (A : Option Addr) (c B : Nat) (w : World), Row w B A n la → B ≤ w.heap.size → Calls Try.prog 12 #[qv ⟨A, n, c, nx, nw, hz⟩, .int .i64 at_, .int .i64 cl, .int .i64 wh, .int .i64 wo, .int .u64 nn] w (RetQ2 w n' nx' nw hz tok E Q1)) ∧
    (∀ (A : Option Addr) (c B : Nat) (w : World), Row w B A n lb → B ≤ w.heap.size → Calls Try.prog 12 #[qv ⟨A, n, c, nx, nw, hz⟩, .int .i64 at_, .int .i64 cl, .int .i64 wh, .int .i64 wo, .int .u64 nn] w (RetQ2 w n' nx' nw hz tok E Q2)) ∧
    ∀ l1 l2, Q1 l1 → Q2 l2 → Twin l1 l2 ∧ l1.length = n' := by
  have hoks := ok_perm (nx := nx) (nw := nw) (hz := hz) ht.1 ht.2.1
  have hEs : postE nx nw hz lb at_ cl = postE nx nw hz la at_ cl := by unfold postE; rw [hoks]
  by_cases hE : postE nx nw hz la at_ cl = 0
  · obtain ⟨hok, hf, hat, hne⟩ := postE_zero.1 hE
    have hokb : okB nx nw hz lb = true := by rw [← hoks]; exact hok
    refine ⟨0, nx, n + 1, nx + 1, (fun l => Hp l ∧ l.Perm ((at_, cl, nx, wh, wo, nn) :: la)), (fun l => Hp l ∧ l.Perm ((at_, cl, nx, wh, wo, nn) :: lb)), Nat.le_refl _, by omega, by omega, fun A c B w hr hB => ?_, fun A c B w hr hB => ?_, ?_⟩
    · exact post_ok A n c nx nw hz B la w at_ cl wh wo nn hr hB (by omega) ht.2.2 hE hx0 (by omega) (ok_hp hok)
    · exact post_ok A n c nx nw hz B lb w at_ cl wh wo nn hr hB (by omega) ht.sq2 (by rw [hEs]; exact hE) hx0 (by omega) (ok_hp hokb)
    · intro l1 l2 ⟨a1, a2⟩ ⟨b1, b2⟩
      exact ⟨Twin.heaps a1 b1 (a2.trans ((ht.1.cons _).trans b2.symm)) ((ht.2.2.cons (x := (at_, cl, nx, wh, wo, nn)) ⟨hx0, hx1⟩).perm a2), by rw [a2.length_eq, List.length_cons, hl]⟩
  · refine ⟨postE nx nw hz la at_ cl, 0, n, nx, (· = la), (· = lb), by omega, hx0, hx1, fun A c B w hr hB => ?_, fun A c B w hr hB => ?_, ?_⟩
    · exact post_err A n c nx nw hz B la w at_ cl wh wo nn _ hr hB (by omega) ht.2.2 rfl hE
    · exact post_err A n c nx nw hz B lb w at_ cl wh wo nn _ hr hB (by omega) ht.sq2 hEs hE
    · rintro l1 l2 rfl rfl; exact ⟨ht, hl⟩

set_option maxRecDepth 100000 in
theorem tidy_many (A : Option Addr) (n c : Nat) (nx nw hz at_ my : Int) (w : World) (hn : 200 < n) :
    Calls Try.prog 6 #[qv ⟨A, n, c, nx, nw, hz⟩, .int .i64 at_, .int .u8 my] w fun e w' => e = .returned (.bool true) ∧ Below w.heap.size w w' := by
  have HFEW : Hid (decide ((n : Int) ≤ 200) = false) := hid (decide_eq_false (by omega))
  clear hn
  go_enter Try.func6, Try.ntmps6
  go_wp2_with (first
    | (refine wpList_boxq (q := ⟨A, n, c, nx, nw, hz⟩) rfl (.tmp 0) rfl rfl ?_; intro w1 v1 b1 _; have B1 : Hid (Below w.heap.size w w1) := hid b1)
    | (go_at_call 9; refine (live_any w1).mono ?_; rintro e w2 ⟨rfl, b2⟩; have v2 := v1.below2 b2; have B2 : Hid (Below w.heap.size w w2) := hid (B1.out.trans (b2.mono B1.out.size)))
    | (go_at_call 10; refine (few_any A n c nx nw hz w2 _ HFEW.out).mono ?_; rintro e w3 ⟨rfl, b3⟩; have v3 := v2.below2 b3; have B3 : Hid (Below w.heap.size w w3) := hid (B2.out.trans (b3.mono B2.out.size)))
    | (refine wpList_ldq rfl (.tmp 3) rfl rfl v2 ?_))
  go_ret
  exact ⟨rfl, B3.out⟩

/-- What stands at each round of the loop. -/
def TidyRel (w : World) (g8 : Nat) (hz : Int) (M : Nat) (t : Value) (wr : World) : Prop :=
  ∃ (k : Nat) (A D : Option Addr) (n c d : Nat) (nx nw : Int) (la lb : List It), t = .int .u8 (k : Int) ∧ k ≤ M ∧ n ≤ 200 + k ∧ 0 ≤ nx ∧ nx ≤ 18446744073709551615 ∧ VarQ wr w.heap.size ⟨A, n, c, nx, nw, hz⟩ ∧ VarQ wr g8 ⟨D, n, d, nx, nw, hz⟩ ∧ Row wr wr.heap.size A n la ∧ Row wr wr.heap.size D n lb ∧ Twin la lb ∧ Below w.heap.size w wr

set_option maxRecDepth 100000 in
set_option maxHeartbeats 4000000 in
theorem tidy_walk (A : Option Addr) (n c : Nat) (nx nw hz at_ my : Int) (xs : List It) (w : World) (ha : Row w w.heap.size A n xs) (hs : SqOk xs) (hn : n ≤ 200) (hx0 : 0 ≤ nx) (hx1 : nx ≤ 18446744073709551615) (hm0 : 0 ≤ my) (hm1 : my ≤ 255) :
    Calls Try.prog 6 #[qv ⟨A, n, c, nx, nw, hz⟩, .int .i64 at_, .int .u8 my] w fun e w' => e = .returned (.bool true) ∧ Below w.heap.size w w' := by
  have HFEW : Hid (decide ((n : Int) ≤ 200) = true) := hid (decide_eq_true (by omega))
  obtain ⟨ok, hok⟩ : ∃ ok, okB nx nw hz xs = ok := ⟨_, rfl⟩
  obtain ⟨L, hL⟩ : ∃ L, L = if ok then srt xs else xs := ⟨_, rfl⟩
  have HT := hid (fun w' (hk : Below w.heap.size w w') => tidy_any A n c nx nw hz w.heap.size xs w' ok (ha.below hk) hk.size (by omega) hs hok)
  rw [← hL] at HT
  have HTW : Hid (Twin xs L) := hid (by
    cases ok with
    | false => rw [hL]; exact ⟨List.Perm.refl _, rfl, hs⟩
    | true => rw [hL]; exact ⟨(srt_perm xs).symm, by rw [ok_chk hok, if_pos rfl, srt_chk], hs⟩)
  have HA := hid ha
  have HX := hid (show 0 ≤ nx ∧ nx ≤ 18446744073709551615 from ⟨hx0, hx1⟩)
  clear ha hs hok hL hx0 hx1
  go_enter Try.func6, Try.ntmps6
  go_wp2_with (first
    | (refine wpList_boxq (q := ⟨A, n, c, nx, nw, hz⟩) rfl (.tmp 0) rfl rfl ?_; intro w1 v1 b1 _; have B1 : Hid (Below w.heap.size w w1) := hid b1)
    | (go_at_call 9; refine (live_any w1).mono ?_; rintro e w2 ⟨rfl, b2⟩; have v2 := v1.below2 b2; have B2 : Hid (Below w.heap.size w w2) := hid (B1.out.trans (b2.mono B1.out.size)))
    | (go_at_call 10; refine (few_any A n c nx nw hz w2 _ HFEW.out).mono ?_; rintro e w3 ⟨rfl, b3⟩; have v3 := v2.below2 b3; have B3 : Hid (Below w.heap.size w w3) := hid (B2.out.trans (b3.mono B2.out.size)))
    | (go_at_call 25; refine (HT.out w3 B3.out).mono ?_; rintro e w4 ⟨A4, c4, l4, rfl, rfl, q4⟩; have v4 := v3.below2 q4.2.2; have B4 : Hid (Below w.heap.size w w4) := hid (B3.out.trans (q4.2.2.mono B3.out.size)))
    | (refine wpList_svq rfl (.tmp 8) (.tmp 27) rfl rfl rfl t5 ?_; intro w6 t6 b6 _ _; have v6 := v5.below b6 v4.lt; have r6 := r5.below b6; have B6 : Hid (Below w.heap.size w w6) := hid (B5.out.trans (b6.mono B4.out.size)); have Z6 : Hid (w4.heap.size ≤ w6.heap.size) := hid (Nat.le_trans b5.size b6.size))
    | (refine wpList_alq rfl rfl ?_; intro w5 t5 b5 _; have v5 := v4.below2 b5; have r5 := q4.1.below b5; have B5 : Hid (Below w.heap.size w w5) := hid (B4.out.trans (b5.mono B4.out.size)))
    | (refine wpList_ldq rfl (.tmp 8) rfl rfl t6 ?_)
    | (refine wpList_ldq rfl (.tmp 3) rfl rfl v6 ?_)
    | (refine wpList_ldq rfl (.tmp 3) rfl rfl v3 ?_)
    | (refine wpList_ldq rfl (.tmp 3) rfl rfl v2 ?_)
    | (go_at_call 29; refine (ksame_yes A4 A n c4 n c w4.heap.size w.heap.size nx nw hz l4 xs true w6 r6 (HA.out.below B6.out) Z6.out B6.out.size (by omega) (by omega) (decide_eq_true (srt_of_perm HTW.out.1.symm))).mono ?_; rintro e w7 ⟨rfl, b7⟩; have v7 := v6.below2 b7; have t7 := t6.below2 b7; have r7 := r6.below (b7.mono Z6.out); have B7 : Hid (Below w.heap.size w w7) := hid (B6.out.trans (b7.mono B6.out.size))))
  obtain ⟨M, hM, hM1⟩ : ∃ M : Nat, my % 12 = (M : Int) ∧ M ≤ 11 := ⟨(my % 12).toNat, by omega, by omega⟩
  rw [hM]
  have G8 : Hid (w.heap.size < w4.heap.size) := hid v4.lt
  have HI : Hid (TidyRel w w4.heap.size hz M (.int .u8 (0 : Nat)) w7) := hid ⟨0, A, A4, n, c, c4, nx, nw, xs, l4, rfl, by omega, by omega, HX.out.1, HX.out.2, v7, t7, (HA.out.below B7.out).top, r7.top, HTW.out, B7.out⟩
  clear v1 v2 v3 v4 v5 v6 v7 t5 t6 t7 r5 r6 r7 b1 b2 b3 b5 b6 b7 q4 B1 B2 B3 B4 B5 B6 HT HTW HA HX hM HFEW
  go_loopw [34] (TidyRel w w4.heap.size hz M) (fun t _ => M - (intOf t).toNat)
  case atStart => exact HI.out
  case round =>
    obtain ⟨k, A, D, n, c, d, nx, nw, la, lb, rfl, hk, hn, hx0, hx1, vR, tR, rA, rB, tw, bel⟩ := hrel
    have VR := hid vR
    have TR := hid tR
    have RA := hid rA
    have RB := hid rB
    have TW := hid tw
    have BW := hid bel
    clear vR tR rA rB tw bel HI
    by_cases hlt : k < M
    · have i1 : (k : Int) < (M : Int) := by omega
      obtain ⟨E1, x, n1, nw1, Q1, Q2, hn1, SA0, SB0, ST0⟩ := step_both TW.out n RA.out.1 nx nw hz (by omega)
      have SA := hid SA0
      have SB := hid SB0
      have ST := hid ST0
      have NE := fun w => neItv x x w
      have NG := fun p q w => guItv .neq p q x x w
      have ND : (!decide (x = x)) = false := by simp
      rw [ND] at NE
      clear SA0 SB0 ST0 ND
      have GR : Hid (w4.heap.size < wr.heap.size) := hid TR.out.lt
      go_wp2_with (first
        | (refine wpList_ldq rfl (.tmp 3) rfl rfl VR.out ?_)
        | (go_at_call 17; (with_reducible refine (SB.out D d wr.heap.size w12 (RB.out.below R12.out) R12.out.size).mono ?_); rintro e w13 ⟨A13, c13, l13, rfl, p13, q13⟩; have a13 := a12.below2 q13.2.2; have i13 := i12.below2 q13.2.2; have ra13 := ra12.below (q13.2.2.mono Z12.out); have R13 : Hid (Below wr.heap.size wr w13) := hid (R12.out.trans (q13.2.2.mono R12.out.size)); have Z13 : Hid (w8.heap.size ≤ w13.heap.size) := hid (Nat.le_trans Z12.out q13.2.2.size); have TT : Hid (Twin l8 l13 ∧ l8.length = n1) := hid (ST.out l8 l13 p8 p13))
        | (go_at_call 17; refine (SA.out A c wr.heap.size wr RA.out (Nat.le_refl _)).mono ?_; rintro e w8 ⟨A8, c8, l8, rfl, p8, q8⟩; have R8 : Hid (Below wr.heap.size wr w8) := hid q8.2.2)
        | (refine wpList_svq rfl (.tmp 18) (.tmp 59) rfl rfl rfl m22 ?_; intro w23 m23 b23 _ _; have k23 := k22.below b23 k21.lt; have i23 := i22.below b23 i21.lt; have j23 := j22.below b23 j21.lt; have rc23 := rc22.below (b23.mono X21.out); have rd23 := rd22.below b23; have R23 : Hid (Below wr.heap.size wr w23) := hid (R22.out.trans (b23.mono R21.out.size)); have X23 : Hid (w18.heap.size ≤ w23.heap.size) := hid (Nat.le_trans X22.out b23.size); have W23 : Hid (w21.heap.size ≤ w23.heap.size) := hid (Nat.le_trans b22.size b23.size))
        | (refine wpList_alq rfl rfl ?_; intro w22 m22 b22 _; have k22 := k21.below2 b22; have i22 := i21.below2 b22; have j22 := j21.below2 b22; have rc22 := rc21.below (b22.mono X21.out); have rd22 := q21.1.below b22; have R22 : Hid (Below wr.heap.size wr w22) := hid (R21.out.trans (b22.mono R21.out.size)); have X22 : Hid (w18.heap.size ≤ w22.heap.size) := hid (Nat.le_trans X21.out b22.size))
        | (go_at_call 12; (with_reducible refine (PB.out A13 c13 w13.heap.size w20 rb20 Y20.out).mono ?_); rintro e w21 ⟨A21, c21, l21, rfl, p21, q21⟩; have k21 := k20.below2 q21.2.2; have i21 := i20.below2 q21.2.2; have j21 := j20.below2 q21.2.2; have rc21 := rc20.below (q21.2.2.mono X20.out); have R21 : Hid (Below wr.heap.size wr w21) := hid (R20.out.trans (q21.2.2.mono R20.out.size)); have X21 : Hid (w18.heap.size ≤ w21.heap.size) := hid (Nat.le_trans X20.out q21.2.2.size); have TC : Hid (Twin l18 l21 ∧ l18.length = n2) := hid (PT.out l18 l21 p18 p21))
        | (refine wpList_svq rfl (.tmp 15) (.tmp 52) rfl rfl rfl k19 ?_; intro w20 k20 b20 _ _; have bb20 := bb19.below b20 bb18.lt; have i20 := i19.below b20 i18.lt; have j20 := j19.below b20 j18.lt; have rb20 := rb19.below (b20.mono Y18.out); have rc20 := rc19.below b20; have R20 : Hid (Below wr.heap.size wr w20) := hid (R19.out.trans (b20.mono R18.out.size)); have Y20 : Hid (w13.heap.size ≤ w20.heap.size) := hid (Nat.le_trans Y19.out b20.size); have X20 : Hid (w18.heap.size ≤ w20.heap.size) := hid (Nat.le_trans b19.size b20.size))
        | (refine wpList_alq rfl rfl ?_; intro w19 k19 b19 _; have bb19 := bb18.below2 b19; have i19 := i18.below2 b19; have j19 := j18.below2 b19; have rb19 := rb18.below (b19.mono Y18.out); have rc19 := q18.1.below b19; have R19 : Hid (Below wr.heap.size wr w19) := hid (R18.out.trans (b19.mono R18.out.size)); have Y19 : Hid (w13.heap.size ≤ w19.heap.size) := hid (Nat.le_trans Y18.out b19.size))
        | (go_at_call 12; obtain ⟨E2, tok, n2, nx2, T1, T2, hn2, hx20, hx21, PA0, PB0, PT0⟩ := post_both TT.out.1 n1 TT.out.2 nx nw1 hz at_ 1 2 3 4 hx0 hx1 (by omega); have PB := hid PB0; have PT := hid PT0; refine (PA0 A8 c8 w8.heap.size w17 ra17 Z17.out).mono ?_; clear PA0 PB0 PT0; rintro e w18 ⟨A18, c18, l18, rfl, p18, q18⟩; have bb18 := bb17.below2 q18.2.2; have i18 := i17.below2 q18.2.2; have j18 := j17.below2 q18.2.2; have rb18 := rb17.below (q18.2.2.mono Y17.out); have R18 : Hid (Below wr.heap.size wr w18) := hid (R17.out.trans (q18.2.2.mono R17.out.size)); have Y18 : Hid (w13.heap.size ≤ w18.heap.size) := hid (Nat.le_trans Y17.out q18.2.2.size))
        | (refine wpList_svi (v := x) rfl (.tmp 13) (.tmp 46) rfl rfl rfl j16 ?_; intro w17 j17 b17 _ _; have bb17 := bb16.below b17 bb14.lt; have a17 := a16.below b17 a14.lt; have i17 := i16.below b17 i14.lt; have ra17 := ra16.below (b17.mono Z14.out); have rb17 := rb16.below (b17.mono b14.size); have R17 : Hid (Below wr.heap.size wr w17) := hid (R16.out.trans (b17.mono R14.out.size)); have Z17 : Hid (w8.heap.size ≤ w17.heap.size) := hid (Nat.le_trans Z16.out b17.size); have Y17 : Hid (w13.heap.size ≤ w17.heap.size) := hid (Nat.le_trans Y16.out b17.size))
        | (refine wpList_svq rfl (.tmp 12) (.tmp 45) rfl rfl rfl bb15 ?_; intro w16 bb16 b16 o16 _; have j16 := j15.other o16 (by have := bb14.lt; omega); have a16 := a15.below b16 a13.lt; have i16 := i15.below b16 i13.lt; have ra16 := ra15.below (b16.mono Z13.out); have rb16 := rb15.below b16; have R16 : Hid (Below wr.heap.size wr w16) := hid (R15.out.trans (b16.mono R13.out.size)); have Z16 : Hid (w8.heap.size ≤ w16.heap.size) := hid (Nat.le_trans Z15.out b16.size); have Y16 : Hid (w13.heap.size ≤ w16.heap.size) := hid (Nat.le_trans Y15.out b16.size))
        | (refine wpList_ali rfl rfl ?_; intro w15 j15 b15 _; have bb15 := bb14.below2 b15; have a15 := a14.below2 b15; have i15 := i14.below2 b15; have ra15 := ra14.below (b15.mono Z14.out); have rb15 := rb14.below (b15.mono b14.size); have R15 : Hid (Below wr.heap.size wr w15) := hid (R14.out.trans (b15.mono R14.out.size)); have Z15 : Hid (w8.heap.size ≤ w15.heap.size) := hid (Nat.le_trans Z14.out b15.size); have Y15 : Hid (w13.heap.size ≤ w15.heap.size) := hid (Nat.le_trans b14.size b15.size))
        | (refine wpList_alq rfl rfl ?_; intro w14 bb14 b14 _; have a14 := a13.below2 b14; have i14 := i13.below2 b14; have ra14 := ra13.below (b14.mono Z13.out); have rb14 := q13.1.below b14; have R14 : Hid (Below wr.heap.size wr w14) := hid (R13.out.trans (b14.mono R13.out.size)); have Z14 : Hid (w8.heap.size ≤ w14.heap.size) := hid (Nat.le_trans Z13.out b14.size))
        | (refine wpList_svi (v := x) rfl (.tmp 10) (.tmp 40) rfl rfl rfl i11 ?_; intro w12 i12 b12 _ _; have a12 := a11.below b12 a9.lt; have ra12 := ra11.below (b12.mono b9.size); have R12 : Hid (Below wr.heap.size wr w12) := hid (R11.out.trans (b12.mono R9.out.size)); have Z12 : Hid (w8.heap.size ≤ w12.heap.size) := hid (Nat.le_trans Z11.out b12.size); have TR12 := TR.out.below2 R12.out)
        | (refine wpList_svq rfl (.tmp 9) (.tmp 39) rfl rfl rfl a10 ?_; intro w11 a11 b11 o11 _; have i11 := i10.other o11 (by have := a9.lt; omega); have ra11 := ra10.below b11; have R11 : Hid (Below wr.heap.size wr w11) := hid (R10.out.trans (b11.mono R8.out.size)); have Z11 : Hid (w8.heap.size ≤ w11.heap.size) := hid (Nat.le_trans Z10.out b11.size))
        | (refine wpList_ali rfl rfl ?_; intro w10 i10 b10 _; have a10 := a9.below2 b10; have ra10 := ra9.below (b10.mono b9.size); have R10 : Hid (Below wr.heap.size wr w10) := hid (R9.out.trans (b10.mono R9.out.size)); have Z10 : Hid (w8.heap.size ≤ w10.heap.size) := hid (Nat.le_trans b9.size b10.size))
        | (refine wpList_alq rfl rfl ?_; intro w9 a9 b9 _; have ra9 := q8.1.below b9; have R9 : Hid (Below wr.heap.size wr w9) := hid (R8.out.trans (b9.mono R8.out.size)))
        | (refine wpList_ldq rfl (.tmp 8) rfl rfl TR12 ?_)
        | (refine wpList_ldq rfl (.tmp 9) rfl rfl a17 ?_)
        | (refine wpList_ldq rfl (.tmp 12) rfl rfl bb20 ?_)
        | (refine wpList_ldi rfl (.tmp 10) rfl rfl i23 ?_)
        | (refine wpList_ldi rfl (.tmp 13) rfl rfl j23 ?_)
        | (refine wpList_ldq rfl (.tmp 15) rfl rfl k24 ?_)
        | (refine wpList_ldq rfl (.tmp 18) rfl rfl m25 ?_)
        | (refine wpList_ldq rfl (.tmp 15) rfl rfl k23 ?_)
        | (refine wpList_ldq rfl (.tmp 18) rfl rfl m23 ?_)
        | (go_at_call 29; refine (ksame_yes A18 A21 n2 c18 n2 c21 w18.heap.size w21.heap.size nx2 nw1 hz l18 l21 true w23 rc23 rd23 X23.out W23.out (by omega) (by omega) (decide_eq_true (srt_of_perm TC.out.1.1))).mono ?_; rintro e w24 ⟨rfl, b24⟩; have k24 := k23.below2 b24; have m24 := m23.below2 b24; have rc24 := rc23.below (b24.mono X23.out); have rd24 := rd23.below (b24.mono W23.out); have R24 : Hid (Below wr.heap.size wr w24) := hid (R23.out.trans (b24.mono R23.out.size)); have v24 := VR.out.below2 R24.out; have t24 := TR.out.below2 R24.out)
        | (refine wpList_svq rfl (.tmp 3) (.tmp 86) rfl rfl rfl v24 ?_; intro w25 v25 b25 o25 _; have m25 := m24.other o25 (by have := VR.out.lt; have := R21.out.size; omega); have t25 := t24.other o25 (by have := G8.out; omega); have rc25 := rc24.oth o25 (fun g o e => by have := q18.2.1 g o e; have := VR.out.lt; have := R17.out.size; omega); have rd25 := rd24.oth o25 (fun g o e => by have := q21.2.1 g o e; have := VR.out.lt; have := R20.out.size; omega))
        | (refine wpList_svq rfl (.tmp 8) (.tmp 87) rfl rfl rfl t25 ?_; intro w26 t26 b26 o26 _; have v26 := v25.other o26 (by have := G8.out; omega); have rc26 := rc25.oth o26 (fun g o e => by have := q18.2.1 g o e; have := GR.out; have := R17.out.size; omega); have rd26 := rd25.oth o26 (fun g o e => by have := q21.2.1 g o e; have := GR.out; have := R20.out.size; omega); have B26 : Hid (Below w.heap.size w w26) := hid (BW.out.trans ((R24.out.mono BW.out.size).trans (b25.trans (b26.mono (Nat.le_of_lt G8.out)))))))
      exact ⟨⟨k + 1, A18, A21, n2, c18, c21, nx2, nw1, l18, l21, by go_num, by omega, by omega, hx20, hx21, v26, t26, rc26.top, rd26.top, TC.out.1, B26.out⟩, by simp [intOf]; omega⟩
    · go_wp2
      go_ret
      exact ⟨rfl, BW.out⟩
theorem tidy_row {w : World} (A : Option Addr) (n c : Nat) (nx nw hz : Int) (xs : List It) (ha : Row w w.heap.size A n xs) (_ : n ≤ c) (_ : c ≤ 9223372036854775807) (hs : SqOk xs) (hx0 : 0 ≤ nx) (hx1 : nx ≤ 18446744073709551615) (at_ : Int) (_ : -9223372036854775808 ≤ at_) (_ : at_ ≤ 9223372036854775807) (my : Int) (hm0 : 0 ≤ my) (hm1 : my ≤ 255) :
    Calls Try.prog 6 #[qv ⟨A, n, c, nx, nw, hz⟩, .int .i64 at_, .int .u8 my] w fun e w' => e = .returned (.bool true) ∧ Below w.heap.size w w' := by
  by_cases hn : n ≤ 200
  · exact tidy_walk A n c nx nw hz at_ my xs w ha hs hn hx0 hx1 hm0 hm1
  · exact tidy_many A n c nx nw hz at_ my w (by omega)
end Go.Proofs.Ytpfidohneddgkaa
