/-
  The document's own Check, New, Tidy and Peek of queues: what they tell. What is asked: at most 4096 things, whose numbers are of 64 bits; the slice's length is no more than its capacity.
-/
import Derived.Test.YtpfidohneddgkaaKJ
import Derived.Test.YtpfidohneddgkaaKL
import Derived.Test.YtpfidohneddgkaaKI
namespace Go.Proofs.Ytpfidohneddgkaa
open Go Go.RowKit Go.Maps

set_option maxRecDepth 100000 in
set_option maxHeartbeats 4000000 in
theorem rcheck_any (A : Option Addr) (n c : Nat) (nx nw hz : Int) (B : Nat) (xs : List It) (w : World) (ha : Row w B A n xs) (hB : B ≤ w.heap.size) (hn : n ≤ 4096) (hnc : n ≤ c) :
    Calls Try.prog 28 #[qv ⟨A, n, c, nx, nw, hz⟩] w fun e w' => e = .returned (.int .i64 (okE nx nw hz xs)) ∧ Below w.heap.size w w' := by
  by_cases hch : chk xs = true
  · have hch' : (chk xs && decide (n ≤ 4096)) = true := by rw [hch]; simpa using hn
    have h' : ((timeB nw && timeB hz) = true ∧ decide (nw < 0) = false ∧ decide (hz < nw) = false) ∨ (((timeB nw && timeB hz) = false ∨ ((timeB nw && timeB hz) = true ∧ decide (nw < 0) = true) ∨ ((timeB nw && timeB hz) = true ∧ decide (nw < 0) = false ∧ decide (hz < nw) = true))) := by
      cases (timeB nw && timeB hz) <;> simp <;> omega
    rcases h' with ⟨h1, h2, h3⟩ | h'
    · exact rcheck_loop A n c nx nw hz B xs w ha hB hn hnc h1 h2 h3 hch'
    · have HN : Hid (okE nx nw hz xs = 1) := hid (okE_bad (by
        unfold okB
        rcases h' with h | ⟨h, k⟩ | ⟨h, k, l⟩
        · rw [h]; rfl
        · simp only [decide_eq_true_eq] at k; rw [h, decide_eq_false (by omega)]; rfl
        · simp only [decide_eq_true_eq, decide_eq_false_iff_not] at k l; rw [h, decide_eq_true (show 0 ≤ nw by omega), decide_eq_false (by omega)]; rfl))
      have HA := hid ha
      have HC := hid hch'
      obtain ⟨M, hM⟩ : ∃ M, (timeB nw && timeB hz) = M := ⟨_, rfl⟩
      rw [hM] at h'
      have HM := hid hM
      clear ha hch hch' hM
      rcases h' with rfl | ⟨rfl, h0⟩ | ⟨rfl, h0, h1⟩
      all_goals
        go_enter Try.func28, Try.ntmps28
        go_wp2_with (first
          | (refine wpList_boxq (q := ⟨A, n, c, nx, nw, hz⟩) rfl (.tmp 0) rfl rfl ?_; intro w1 v1 b1 s1; have c0 : w1.cell? ⟨w.heap.size, 0, none⟩ = some (.slice A n c) := v1.c0; have B1 : Hid (Below w.heap.size w w1) := hid b1; have V1 := hid v1)
          | (go_at_call 37; refine (refcheck_any A n c B xs true w1 (HA.out.below (B1.out.mono hB)) (Nat.le_trans hB B1.out.size) (by omega) HC.out).mono ?_; rintro e w2 ⟨rfl, b2⟩; have B2 : Hid (Below w.heap.size w w2) := hid (B1.out.trans (b2.mono B1.out.size)); have V2 := hid (V1.out.below b2 V1.out.lt); have e2 : w2.cell? ⟨w.heap.size, 2, none⟩ = some (.int .i64 nw) := V2.out.c2; have e3 : w2.cell? ⟨w.heap.size, 3, none⟩ = some (.int .i64 hz) := V2.out.c3)
          | (go_at_call 34; have t2 := two_new w2 (.int .i64 nw) (.int .i64 hz) 2; have b3 := (Below.refl w2.heap.size w2).alloc (Nat.le_refl _) (.cells #[.int .i64 nw, .int .i64 hz] 2); refine (refmay_2 w2.heap.size 2 nw hz _ HM.out _ t2.1 t2.2).mono ?_; rintro e w3 ⟨rfl, rfl⟩; have B3 : Hid (Below w.heap.size w (w2.alloc (.cells #[.int .i64 nw, .int .i64 hz] 2))) := hid (B2.out.trans (b3.mono B2.out.size)); have V3 := hid (V2.out.below b3 V2.out.lt); clear b3 t2 c0 e2 e3 b1 v1; generalize w2.alloc (.cells #[.int .i64 nw, .int .i64 hz] 2) = w3 at *; have c0 : w3.cell? ⟨w.heap.size, 0, none⟩ = some (.slice A n c) := V3.out.c0; have c2 : w3.cell? ⟨w.heap.size, 2, none⟩ = some (.int .i64 nw) := V3.out.c2; have c3 : w3.cell? ⟨w.heap.size, 3, none⟩ = some (.int .i64 hz) := V3.out.c3))
        go_ret
        exact ⟨ret_int HN.out.symm, B3.out⟩
  · have hc' : chk xs = false := by simpa using hch
    have HN : Hid (okE nx nw hz xs = 1) := hid (okE_bad (by unfold okB; rw [hc']; simp))
    have HC : Hid ((chk xs && decide (n ≤ 4096)) = false) := hid (by rw [hc']; rfl)
    have HA := hid ha
    clear ha hch hc'
    go_enter Try.func28, Try.ntmps28
    go_wp2_with (first
      | (refine wpList_boxq (q := ⟨A, n, c, nx, nw, hz⟩) rfl (.tmp 0) rfl rfl ?_; intro w1 v1 b1 s1; have c0 : w1.cell? ⟨w.heap.size, 0, none⟩ = some (.slice A n c) := v1.c0; have B1 : Hid (Below w.heap.size w w1) := hid b1)
      | (go_at_call 37; refine (refcheck_any A n c B xs false w1 (HA.out.below (B1.out.mono hB)) (Nat.le_trans hB B1.out.size) (by omega) HC.out).mono ?_; rintro e w2 ⟨rfl, b2⟩; have B2 : Hid (Below w.heap.size w w2) := hid (B1.out.trans (b2.mono B1.out.size))))
    go_ret
    exact ⟨ret_int HN.out.symm, B2.out⟩

set_option maxRecDepth 100000 in
theorem rnew_any (hz : Int) (w : World) (ok : Bool) (hok : (timeB hz && decide (0 ≤ hz)) = ok) :
    Calls Try.prog 22 #[.int .i64 hz] w fun e w' => e = .returned (.tuple #[qv (if ok then ⟨none, 0, 0, 0, 0, hz⟩ else qz), .int .i64 (if ok then 0 else 1)]) ∧ Below w.heap.size w w' := by
  have h' : (ok = true ∧ timeB hz = true ∧ decide (hz < 0) = false) ∨ (ok = false ∧ (timeB hz = false ∨ (timeB hz = true ∧ decide (hz < 0) = true))) := by
    rw [← hok]; cases timeB hz <;> simp
    omega
  clear hok
  obtain ⟨M, hM⟩ : ∃ M, timeB hz = M := ⟨_, rfl⟩
  rw [hM] at h'
  have HM := hid hM
  clear hM
  rcases h' with ⟨rfl, rfl, h2⟩ | ⟨rfl, rfl | ⟨rfl, h2⟩⟩
  · go_enter Try.func22, Try.ntmps22
    go_wp2_with (first
      | (refine wpList_alq rfl rfl ?_; intro w1 r1 b1 s1; have B1 : Hid (Below w.heap.size w w1) := hid b1)
      | (go_at_call 34; have t2 := one_new w1 (.int .i64 hz) 2; have b2 := (Below.refl w1.heap.size w1).alloc (Nat.le_refl _) (.cells #[.int .i64 hz] 2); refine (refmay_1 w1.heap.size 1 hz _ HM.out _ t2).mono ?_; rintro e w2 ⟨rfl, rfl⟩; have B2 : Hid (Below w.heap.size w (w1.alloc (.cells #[.int .i64 hz] 2))) := hid (B1.out.trans (b2.mono B1.out.size)); have r2 := r1.below2 b2; clear t2 b2; generalize w1.alloc (.cells #[.int .i64 hz] 2) = w2 at *)
      | (refine wpList_svq (q := ⟨none, 0, 0, 0, 0, hz⟩) rfl (.tmp 2) (.tmp 14) rfl rfl rfl r2 ?_; intro w5 r5 b5 o5 _; have B5 : Hid (Below w.heap.size w w5) := hid (B2.out.trans b5)))
    refine bodyPost_ret (w := w5) (results_q1 Try.results22 _ rfl r5) rfl ?_
    exact ⟨rfl, B5.out⟩
  all_goals
    go_enter Try.func22, Try.ntmps22
    go_wp2_with (first
      | (refine wpList_alq rfl rfl ?_; intro w1 r1 b1 s1; have B1 : Hid (Below w.heap.size w w1) := hid b1)
      | (go_at_call 34; have t2 := one_new w1 (.int .i64 hz) 2; have b2 := (Below.refl w1.heap.size w1).alloc (Nat.le_refl _) (.cells #[.int .i64 hz] 2); refine (refmay_1 w1.heap.size 1 hz _ HM.out _ t2).mono ?_; rintro e w2 ⟨rfl, rfl⟩; have B2 : Hid (Below w.heap.size w (w1.alloc (.cells #[.int .i64 hz] 2))) := hid (B1.out.trans (b2.mono B1.out.size)); have r2 := r1.below2 b2; clear t2 b2; generalize w1.alloc (.cells #[.int .i64 hz] 2) = w2 at *)
      | (refine wpList_svq (q := qz) rfl (.tmp 2) (.tmp 12) rfl rfl rfl r2 ?_; intro w5 r5 b5 o5 _; have B5 : Hid (Below w.heap.size w w5) := hid (B2.out.trans b5)))
    refine bodyPost_ret (w := w5) (results_q1 Try.results22 _ rfl r5) rfl ?_
    exact ⟨rfl, B5.out⟩
section
variable (A : Option Addr) (n c : Nat) (nx nw hz : Int) (B : Nat) (xs : List It) (w : World)
set_option maxRecDepth 100000 in
theorem rtidy_any (ok : Bool) (ha : Row w B A n xs) (hB : B ≤ w.heap.size) (hn : n ≤ 4096) (hnc : n ≤ c) (hok : okB nx nw hz xs = ok) :
    Calls Try.prog 26 #[qv ⟨A, n, c, nx, nw, hz⟩] w (RetQ w n nx nw hz (· = if ok then srt xs else xs)) := by
  have HK := hid (fun w' hb => rcheck_any A n c nx nw hz B xs w' (ha.below (w' := w') (Below.mono hb hB)) (Nat.le_trans hB hb.size) hn hnc)
  have HA := hid ha
  cases ok with
  | false =>
    rw [okE_bad hok] at HK
    clear ha hok
    go_enter Try.func26, Try.ntmps26
    go_wp2_with (first
      | (refine wpList_boxq (q := ⟨A, n, c, nx, nw, hz⟩) rfl (.tmp 0) rfl rfl ?_; intro w1 v1 b1 s1)
      | (refine wpList_alq rfl rfl ?_; intro w4 o4 b4 _; have v4 := v3.below2 b4; have r4 := r3.below2 b4; have row4 := q3.1.below b4; have B4 : Hid (Below w.heap.size w w4) := hid (B3.out.trans (b4.mono B3.out.size)))
      | (refine wpList_alq rfl rfl ?_; intro w2 r2 b2 s2; have v2 := v1.below b2 v1.lt; have B2 : Hid (Below w.heap.size w w2) := hid (b1.trans (b2.mono b1.size)))
      | (refine wpList_ldq rfl (.tmp 1) rfl rfl v5 ?_)
      | (refine wpList_ldq rfl (.tmp 1) rfl rfl v2 ?_)
      | (go_at_call 11; refine (copy_any A n c nx nw hz B xs w2 (HA.out.below (B2.out.mono hB)) (Nat.le_trans hB B2.out.size) hn).mono ?_; rintro e w3 ⟨A3, c3, l3, rfl, rfl, q3⟩; have v3 := v2.below2 q3.2.2; have r3 := r2.below2 q3.2.2; have B3 : Hid (Below w.heap.size w w3) := hid (B2.out.trans (q3.2.2.mono B2.out.size)))
      | (refine wpList_svq rfl (.tmp 3) (.tmp 5) rfl rfl rfl o4 ?_; intro w5 o5 b5 _ _; have v5 := v4.below b5 v3.lt; have r5 := r4.below b5 r3.lt; have row5 := row4.below b5; have B5 : Hid (Below w.heap.size w w5) := hid (B4.out.trans (b5.mono B3.out.size)); have Z5 : Hid (w3.heap.size ≤ w5.heap.size) := hid (Nat.le_trans b4.size b5.size))
      | (go_at_call 28; refine (HK.out w5 B5.out).mono ?_; rintro e w6 ⟨rfl, b6⟩; have r6 := r5.below2 b6; have o6 := o5.below2 b6; have row6 := row5.below (b6.mono Z5.out); have B6 : Hid (Below w.heap.size w w6) := hid (B5.out.trans (b6.mono B5.out.size)))
      | (refine wpList_ldq rfl (.tmp 3) rfl rfl o6 ?_)
      | (refine wpList_svq rfl (.tmp 2) (.tmp 13) rfl rfl rfl r6 ?_; intro w7 r7 b7 oth7 _; have B7 : Hid (Below w.heap.size w w7) := hid (B6.out.trans (b7.mono b1.size))))
    refine bodyPost_ret (w := w7) (results_q Try.results26 _ rfl r7) rfl ?_
    exact ⟨A3, c3, l3, rfl, rfl, (row6.oth oth7 (fun g o e => by have := q3.2.1 g o e; have := r2.lt; omega)).top, q3.2.1.le B2.out.size, B7.out⟩
  | true =>
    rw [okE_ok hok] at HK
    clear ha hok
    go_enter Try.func26, Try.ntmps26
    go_wp2_with (first
      | (refine wpList_boxq (q := ⟨A, n, c, nx, nw, hz⟩) rfl (.tmp 0) rfl rfl ?_; intro w1 v1 b1 s1)
      | (refine wpList_alq rfl rfl ?_; intro w4 o4 b4 _; have v4 := v3.below2 b4; have r4 := r3.below2 b4; have B4 : Hid (Below w.heap.size w w4) := hid (B3.out.trans (b4.mono B3.out.size)))
      | (refine wpList_alq rfl rfl ?_; intro w2 r2 b2 s2; have v2 := v1.below b2 v1.lt; have B2 : Hid (Below w.heap.size w w2) := hid (b1.trans (b2.mono b1.size)))
      | (refine wpList_ldq rfl (.tmp 1) rfl rfl v5 ?_)
      | (refine wpList_ldq rfl (.tmp 1) rfl rfl v2 ?_)
      | (go_at_call 11; refine (copy_any A n c nx nw hz B xs w2 (HA.out.below (B2.out.mono hB)) (Nat.le_trans hB B2.out.size) hn).mono ?_; rintro e w3 ⟨A3, c3, l3, rfl, rfl, q3⟩; have v3 := v2.below2 q3.2.2; have r3 := r2.below2 q3.2.2; have B3 : Hid (Below w.heap.size w w3) := hid (B2.out.trans (q3.2.2.mono B2.out.size)))
      | (refine wpList_svq rfl (.tmp 3) (.tmp 5) rfl rfl rfl o4 ?_; intro w5 o5 b5 _ _; have v5 := v4.below b5 v3.lt; have r5 := r4.below b5 r3.lt; have B5 : Hid (Below w.heap.size w w5) := hid (B4.out.trans (b5.mono B3.out.size)))
      | (go_at_call 28; refine (HK.out w5 B5.out).mono ?_; rintro e w6 ⟨rfl, b6⟩; have v6 := v5.below2 b6; have r6 := r5.below2 b6; have o6 := o5.below2 b6; have c0 : w6.cell? ⟨w.heap.size, 0, none⟩ = some (.slice A n c) := v6.c0; have B6 : Hid (Below w.heap.size w w6) := hid (B5.out.trans (b6.mono B5.out.size)))
      | (go_at_call 36; refine (refsorted_any A n c B l3 w6 (HA.out.below (B6.out.mono hB)) (Nat.le_trans hB B6.out.size) (by omega)).mono ?_; rintro e w7 ⟨A7, c7, l7, rfl, rfl, own7, b7⟩; have r7 := r6.below2 b7; have o7 := o6.below2 b7; have B7 : Hid (Below w.heap.size w w7) := hid (B6.out.trans (b7.mono B6.out.size)))
      | (refine wpList_sf0 rfl (.tmp 12) (.tmp 11) rfl rfl rfl o7 ?_; intro w8 o8 b8 oth8 _; have r8 := r7.other oth8 (by have := r3.lt; omega); have B8 : Hid (Below w.heap.size w w8) := hid (B7.out.trans (b8.mono B3.out.size)); have own8 := own7.other (w' := w8) (fun g hg => oth8 g (by have := o6.lt; omega)))
      | (refine wpList_ldq rfl (.tmp 3) rfl rfl o8 ?_)
      | (refine wpList_svq rfl (.tmp 2) (.tmp 13) rfl rfl rfl r8 ?_; intro w9 r9 b9 oth9 _; have B9 : Hid (Below w.heap.size w w9) := hid (B8.out.trans (b9.mono b1.size)); have own9 := own8.other (w' := w9) (fun g hg => oth9 g (by have := r6.lt; omega))))
    refine bodyPost_ret (w := w9) (results_q Try.results26 _ rfl r9) rfl ?_
    exact ⟨A7, c7, _, rfl, rfl, (own9.base_le B6.out.size).qr B9.out⟩
end
end Go.Proofs.Ytpfidohneddgkaa
