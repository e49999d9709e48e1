/-
  The document's own Check of a queue: it tells what kernel.Check tells. What is asked: at most 4096 things.
-/
import Derived.Test.YtpfidohneddgkaaKH
namespace Go.Proofs.Ytpfidohneddgkaa
open Go Go.RowKit Go.Maps

theorem items_no {nx nw : Int} {xs : List It} {k : Nat} (hk : k < xs.length) (h : badB nx nw (cnt xs k) (nth xs k) = true) : itemsB nx nw xs = false := by
  unfold itemsB; rw [List.all_eq_false]; exact ⟨k, List.mem_range.2 hk, by rw [h]; simp⟩
theorem okB_items {nx nw hz : Int} {xs : List It} (h : itemsB nx nw xs = false) : okB nx nw hz xs = false := by
  unfold okB; rw [h]; simp
theorem good_iff {nx nw : Int} {x : It} : GoodIt nx nw x ↔ x.2.2.1 < nx ∧ (timeB x.1 = true ∧ 0 ≤ x.2.1 ∧ x.2.1 ≤ 15) ∧ nw ≤ x.1 := by
  unfold GoodIt fitB sq; simp
/-- The first of a thing's conditions that fails. -/
theorem bad_first {nx nw : Int} {x : It} (h : ¬ GoodIt nx nw x) : timeB x.1 = false ∨ (timeB x.1 = true ∧ decide (x.1 < nw) = true) ∨ (timeB x.1 = true ∧ decide (x.1 < nw) = false ∧ decide (x.2.1 < 0) = true) ∨
    (timeB x.1 = true ∧ decide (x.1 < nw) = false ∧ decide (x.2.1 < 0) = false ∧ decide (15 < x.2.1) = true) ∨ (timeB x.1 = true ∧ decide (x.1 < nw) = false ∧ decide (x.2.1 < 0) = false ∧ decide (15 < x.2.1) = false ∧ decide (nx ≤ x.2.2.1) = true) := by
  rw [good_iff] at h
  simp only [decide_eq_true_eq, decide_eq_false_iff_not]
  by_cases t : timeB x.1 = true
  · simp only [t, true_and] at h ⊢
    omega
  · left; simpa using t
theorem good_all {nx nw : Int} {x : It} (h : GoodIt nx nw x) : timeB x.1 = true ∧ decide (x.1 < nw) = false ∧ decide (x.2.1 < 0) = false ∧ decide (15 < x.2.1) = false ∧ decide (nx ≤ x.2.2.1) = false := by
  rw [good_iff] at h
  simp only [decide_eq_false_iff_not]
  exact ⟨h.2.1.1, by omega⟩

set_option maxRecDepth 100000 in
set_option maxHeartbeats 4000000 in
theorem rcheck_loop (A : Option Addr) (n c : Nat) (nx nw hz : Int) (B : Nat) (xs : List It) (w : World) (ha : Row w B A n xs) (hB : B ≤ w.heap.size) (hn : n ≤ 4096) (hnc : n ≤ c) (hM : (timeB nw && timeB hz) = true) (h0 : decide (nw < 0) = false) (h1 : decide (hz < nw) = false) (hch : (chk xs && decide (n ≤ 4096)) = true) :
    Calls Try.prog 28 #[qv ⟨A, n, c, nx, nw, hz⟩] w fun e w' => e = .returned (.int .i64 (okE nx nw hz xs)) ∧ Below w.heap.size w w' := by
  have HA := hid ha
  have HL := hid ha.1
  have HM := hid hM
  have HC := hid hch
  have HOK : Hid (okB nx nw hz xs = itemsB nx nw xs) := hid (by
    have : chk xs = true := by revert hch; cases chk xs <;> simp
    unfold okB; rw [hM, this]; simp at h0 h1; simp [h0, h1])
  clear ha hM hch
  go_enter Try.func28, Try.ntmps28
  go_wp2_with (first
    | (refine wpList_boxq (q := ⟨A, n, c, nx, nw, hz⟩) rfl (.tmp 0) rfl rfl ?_; intro w1 v1 b1 s1; have c0 : w1.cell? ⟨w.heap.size, 0, none⟩ = some (.slice A n c) := v1.c0; have B1 : Hid (Below w.heap.size w w1) := hid b1; have V1 := hid v1)
    | (go_at_call 37; refine (refcheck_any A n c B xs true w1 (HA.out.below (B1.out.mono hB)) (Nat.le_trans hB B1.out.size) (by omega) HC.out).mono ?_; rintro e w2 ⟨rfl, b2⟩; have B2 : Hid (Below w.heap.size w w2) := hid (B1.out.trans (b2.mono B1.out.size)); have V2 := hid (V1.out.below b2 V1.out.lt); have e2 : w2.cell? ⟨w.heap.size, 2, none⟩ = some (.int .i64 nw) := V2.out.c2; have e3 : w2.cell? ⟨w.heap.size, 3, none⟩ = some (.int .i64 hz) := V2.out.c3)
    | (go_at_call 34; have t2 := two_new w2 (.int .i64 nw) (.int .i64 hz) 2; have b3 := (Below.refl w2.heap.size w2).alloc (Nat.le_refl _) (.cells #[.int .i64 nw, .int .i64 hz] 2); refine (refmay_2 w2.heap.size 2 nw hz true HM.out _ t2.1 t2.2).mono ?_; rintro e w3 ⟨rfl, rfl⟩; have B3 : Hid (Below w.heap.size w (w2.alloc (.cells #[.int .i64 nw, .int .i64 hz] 2))) := hid (B2.out.trans (b3.mono B2.out.size)); have V3 := hid (V2.out.below b3 V2.out.lt); clear b3 t2 c0 e2 e3 b1 v1; generalize w2.alloc (.cells #[.int .i64 nw, .int .i64 hz] 2) = w3 at *; have c0 : w3.cell? ⟨w.heap.size, 0, none⟩ = some (.slice A n c) := V3.out.c0; have c2 : w3.cell? ⟨w.heap.size, 2, none⟩ = some (.int .i64 nw) := V3.out.c2; have c3 : w3.cell? ⟨w.heap.size, 3, none⟩ = some (.int .i64 hz) := V3.out.c3))
  have HB3 := B3
  clear c0 c2 c3 b2
  go_loopw [35] (fun t wr => ∃ k : Nat, t = .int .i64 (k : Int) ∧ k ≤ n ∧ Below w.heap.size w wr ∧ VarQ wr w.heap.size ⟨A, n, c, nx, nw, hz⟩ ∧ ∀ j, j < k → badB nx nw (cnt xs j) (nth xs j) = false) (fun t _ => n - (intOf t).toNat)
  case atStart => exact ⟨0, rfl, by omega, B3.out, V3.out, fun j hj => by omega⟩
  case round =>
    obtain ⟨k, rfl, hk, bel, vr, ok⟩ := hrel
    obtain ⟨w0, rfl⟩ : ∃ w0, w0 = wr := ⟨_, rfl⟩
    have BW := hid bel
    have VR := hid vr
    have OK := hid ok
    clear bel vr ok HB3 B3 V3 V2 B2 B1 V1 s1
    by_cases hlt : k < n
    · have HR : Hid (Row w0 B A n xs) := hid (HA.out.below (BW.out.mono hB))
      obtain ⟨b, o, rfl, hb, hc⟩ := HR.out.all (by omega)
      have R1 := hid (hc k hlt)
      have i1 : (k : Int) < (n : Int) := by omega
      have kl : Hid (k < xs.length) := hid (by rw [HL.out]; exact hlt)
      obtain ⟨x, hx⟩ : ∃ x, nth xs k = x := ⟨_, rfl⟩
      rw [hx] at R1
      have HX := hid hx
      clear hc hx
      by_cases hg : GoodIt nx nw x
      · have HG := hid hg
        obtain ⟨g1, g2, g3, g4, g5⟩ := good_all hg
        obtain ⟨x1, x2, x3, x4, x5, x6⟩ := x
        simp only at g1 g2 g3 g4 g5
        obtain ⟨T, hT⟩ : ∃ T, T = true := ⟨_, rfl⟩
        have HT : Hid (timeB x1 = T) := hid (by rw [hT]; exact g1)
        have h4 : (k : Int) ≤ (n : Int) := by omega
        have h5 : k ≤ c := by omega
        subst hT
        clear hg g1
        go_wp2_with (first
          | (refine wpList_ld rfl (.tmp 38) rfl rfl R1.out ?_)
          | (refine wpList_ali rfl rfl ?_; intro w4 i4 b4 _; have V4 := hid (VR.out.below b4 VR.out.lt); have B4 : Hid (Below w.heap.size w w4) := hid (BW.out.trans (b4.mono BW.out.size)))
          | (refine wpList_svi (v := (x1, x2, x3, x4, x5, x6)) rfl (.tmp 4) (.tmp 39) rfl rfl rfl i4 ?_; intro w5 i5 b5 _ _; have I5 := hid i5; have V5 := hid (V4.out.below b5 VR.out.lt); have B5 : Hid (Below w.heap.size w w5) := hid (B4.out.trans (b5.mono BW.out.size)); have m0 : w5.cell? ⟨w0.heap.size, 0, none⟩ = some (.int .i64 x1) := i5.c0)
          | (go_at_call 34; have t2 := one_new w5 (.int .i64 x1) 2; have b6 := (Below.refl w5.heap.size w5).alloc (Nat.le_refl _) (.cells #[.int .i64 x1] 2); refine (refmay_1 w5.heap.size 1 x1 _ HT.out _ t2).mono ?_; rintro e w6 ⟨rfl, rfl⟩; have B6 : Hid (Below w.heap.size w (w5.alloc (.cells #[.int .i64 x1] 2))) := hid (B5.out.trans (b6.mono B5.out.size)); have I6 := hid (I5.out.below b6 I5.out.lt); have V6 := hid (V5.out.below b6 V5.out.lt); clear b6 t2 m0; generalize w5.alloc (.cells #[.int .i64 x1] 2) = w6 at *; have k0 : w6.cell? ⟨w0.heap.size, 0, none⟩ = some (.int .i64 x1) := I6.out.c0; have k1 : w6.cell? ⟨w0.heap.size, 1, none⟩ = some (.int .i64 x2) := I6.out.c1; have k2 : w6.cell? ⟨w0.heap.size, 2, none⟩ = some (.int .u64 x3) := I6.out.c2; have l0 : w6.cell? ⟨w.heap.size, 0, none⟩ = some (.slice (some ⟨b, o, none⟩) n c) := V6.out.c0; have l1 : w6.cell? ⟨w.heap.size, 1, none⟩ = some (.int .u64 nx) := V6.out.c1; have l2 : w6.cell? ⟨w.heap.size, 2, none⟩ = some (.int .i64 nw) := V6.out.c2))
        have HKB : Hid (b < B) := hid hb
        have N0 : Hid (w0.heap.size < w6.heap.size) := hid I6.out.lt
        clear k0 k1 k2 l0 l1 l2 i4 b4 i5 b5 V4 B4 I5 V5 B5 R1 g2 g3 g4 g5 HT
        go_loopw [74] (fun t wi => ∃ j : Nat, t = .int .i64 (j : Int) ∧ j ≤ k ∧ Below w.heap.size w wi ∧ VarQ wi w.heap.size ⟨some ⟨b, o, none⟩, n, c, nx, nw, hz⟩ ∧ VarI wi w0.heap.size (x1, x2, x3, x4, x5, x6) ∧ ∀ i, i < j → sq (nth xs i) ≠ x3) (fun t _ => k - (intOf t).toNat)
        case atStart => exact ⟨0, rfl, by omega, B6.out, V6.out, I6.out, fun i hi => by omega⟩
        case round =>
          obtain ⟨j, rfl, hj, bel, vq, vi, ne⟩ := hrel
          have BJ := hid bel
          have VJ := hid vq
          have IJ := hid vi
          have NE := hid ne
          clear bel vq vi ne B6 V6 I6
          by_cases hjk : j < k
          · have HRJ : Hid (Row wr B (some ⟨b, o, none⟩) n xs) := hid (HA.out.below (BJ.out.mono hB))
            obtain ⟨b', o', he, _, hc⟩ := HRJ.out.all (by omega)
            injection he with he; injection he with he1 he2; subst he1; subst he2
            have R1 := hid (hc j (by omega))
            have i2 : (j : Int) < (k : Int) := by omega
            obtain ⟨y, hy⟩ : ∃ y, nth xs j = y := ⟨_, rfl⟩
            rw [hy] at R1
            have HY := hid hy
            clear hc hy
            obtain ⟨y1, y2, y3, y4, y5, y6⟩ := y
            obtain ⟨EE, hEq⟩ : ∃ E, (x3 == y3) = E := ⟨_, rfl⟩
            have HEq := hid hEq
            have k2 : wr.cell? ⟨w0.heap.size, 2, none⟩ = some (.int .u64 x3) := IJ.out.c2
            go_wp2_with (first
              | (refine wpList_ld rfl (.tmp 76) rfl rfl R1.out ?_)
              | (refine wpList_ali rfl rfl ?_; intro w7 i7 b7 _; have VJ7 := hid (VJ.out.below b7 VJ.out.lt); have IJ7 := hid (IJ.out.below b7 IJ.out.lt); have BJ7 : Hid (Below w.heap.size w w7) := hid (BJ.out.trans (b7.mono BJ.out.size)))
              | (refine wpList_svi (v := (y1, y2, y3, y4, y5, y6)) rfl (.tmp 6) (.tmp 77) rfl rfl rfl i7 ?_; intro w8 i8 b8 _ _; have VJ8 := hid (VJ7.out.below b8 VJ.out.lt); have IJ8 := hid (IJ7.out.below b8 IJ.out.lt); have BJ8 : Hid (Below w.heap.size w w8) := hid (BJ7.out.trans (b8.mono BJ.out.size)); have m2 : w8.cell? ⟨wr.heap.size, 2, none⟩ = some (.int .u64 y3) := i8.c2; have m3 : w8.cell? ⟨w0.heap.size, 2, none⟩ = some (.int .u64 x3) := IJ8.out.c2))
            · have HN : Hid (okE nx nw hz xs = 1) := hid (okE_bad (okB_items (items_no kl.out (by
                cases e : badB nx nw (cnt xs k) (nth xs k) with
                | true => rfl
                | false =>
                  have h := cnt_le.1 (badB_false.1 e).1 j hjk (by have := kl.out; omega)
                  rw [HY.out, HX.out] at h
                  have h2 : x3 = y3 := eq_of_beq (hEq.trans (by assumption))
                  exact absurd h2.symm h))))
              go_ret
              exact ⟨ret_int HN.out.symm, BJ8.out⟩
            · refine ⟨⟨j + 1, by go_num, by omega, BJ8.out, VJ8.out, IJ8.out, fun i hi => ?_⟩, by simp [intOf]; omega⟩
              by_cases e : i = j
              · subst e
                rw [HY.out]
                have h2 : ¬ x3 = y3 := fun e => by
                  have h3 : (x3 == y3) = false := hEq.trans (by assumption)
                  rw [e, beq_self_eq_true] at h3
                  cases h3
                exact fun e => h2 e.symm
              · exact NE.out i (by omega)
          · have HCN : Hid (∀ j, j < k + 1 → badB nx nw (cnt xs j) (nth xs j) = false) := hid fun i hi => by
              by_cases e : i = k
              · subst e
                exact badB_false.2 ⟨cnt_le.2 fun j hj _ => by rw [HX.out]; exact NE.out j (by omega), by rw [HX.out]; exact HG.out⟩
              · exact OK.out i (by omega)
            go_wp2
            exact ⟨⟨k + 1, by go_num, by omega, BJ.out, VJ.out, HCN.out⟩, by simp [intOf]; omega⟩
      · have HN : Hid (okE nx nw hz xs = 1) := hid (okE_bad (okB_items (items_no kl.out (by
          cases e : badB nx nw (cnt xs k) (nth xs k) with
          | true => rfl
          | false => rw [HX.out] at e; exact absurd (badB_false.1 e).2 hg))))
        obtain hbad := bad_first hg
        obtain ⟨x1, x2, x3, x4, x5, x6⟩ := x
        simp only at hbad
        obtain ⟨T, hT⟩ : ∃ T, timeB x1 = T := ⟨_, rfl⟩
        have HT := hid hT
        rw [hT] at hbad
        clear hg hT
        rcases hbad with rfl | ⟨rfl, g2⟩ | ⟨rfl, g2, g3⟩ | ⟨rfl, g2, g3, g4⟩ | ⟨rfl, g2, g3, g4, g5⟩
        all_goals
          go_wp2_with (first
          | (refine wpList_ld rfl (.tmp 38) rfl rfl R1.out ?_)
          | (refine wpList_ali rfl rfl ?_; intro w4 i4 b4 _; have V4 := hid (VR.out.below b4 VR.out.lt); have B4 : Hid (Below w.heap.size w w4) := hid (BW.out.trans (b4.mono BW.out.size)))
          | (refine wpList_svi (v := (x1, x2, x3, x4, x5, x6)) rfl (.tmp 4) (.tmp 39) rfl rfl rfl i4 ?_; intro w5 i5 b5 _ _; have I5 := hid i5; have V5 := hid (V4.out.below b5 VR.out.lt); have B5 : Hid (Below w.heap.size w w5) := hid (B4.out.trans (b5.mono BW.out.size)); have m0 : w5.cell? ⟨w0.heap.size, 0, none⟩ = some (.int .i64 x1) := i5.c0)
          | (go_at_call 34; have t2 := one_new w5 (.int .i64 x1) 2; have b6 := (Below.refl w5.heap.size w5).alloc (Nat.le_refl _) (.cells #[.int .i64 x1] 2); refine (refmay_1 w5.heap.size 1 x1 _ HT.out _ t2).mono ?_; rintro e w6 ⟨rfl, rfl⟩; have B6 : Hid (Below w.heap.size w (w5.alloc (.cells #[.int .i64 x1] 2))) := hid (B5.out.trans (b6.mono B5.out.size)); have I6 := hid (I5.out.below b6 I5.out.lt); have V6 := hid (V5.out.below b6 V5.out.lt); clear b6 t2 m0; generalize w5.alloc (.cells #[.int .i64 x1] 2) = w6 at *; have k0 : w6.cell? ⟨w0.heap.size, 0, none⟩ = some (.int .i64 x1) := I6.out.c0; have k1 : w6.cell? ⟨w0.heap.size, 1, none⟩ = some (.int .i64 x2) := I6.out.c1; have k2 : w6.cell? ⟨w0.heap.size, 2, none⟩ = some (.int .u64 x3) := I6.out.c2; have l0 : w6.cell? ⟨w.heap.size, 0, none⟩ = some (.slice (some ⟨b, o, none⟩) n c) := V6.out.c0; have l1 : w6.cell? ⟨w.heap.size, 1, none⟩ = some (.int .u64 nx) := V6.out.c1; have l2 : w6.cell? ⟨w.heap.size, 2, none⟩ = some (.int .i64 nw) := V6.out.c2))
          go_ret
          exact ⟨ret_int HN.out.symm, B6.out⟩
    · have HE : Hid (okE nx nw hz xs = 0) := hid (okE_ok (by
        rw [HOK.out]; unfold itemsB; rw [List.all_eq_true]; intro j hj; rw [OK.out j (by have := List.mem_range.1 hj; rw [HL.out] at this; omega)]; rfl))
      go_wp2
      go_ret
      exact ⟨ret_int HE.out.symm, BW.out⟩
end Go.Proofs.Ytpfidohneddgkaa
