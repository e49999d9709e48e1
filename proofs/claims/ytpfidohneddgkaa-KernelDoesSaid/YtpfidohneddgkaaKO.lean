/-
  The document's own Post of queues, where something is posted: what it tells. What is asked: fewer than 4096 things, whose numbers are of 64 bits; the slice's length is no more than its capacity.
-/
import Derived.Test.YtpfidohneddgkaaKK
import Derived.Deep.DeepCutAuto
namespace Go.Proofs.Ytpfidohneddgkaa
open Go Go.RowKit Go.Maps
section
variable (A : Option Addr) (n c : Nat) (nx nw hz : Int) (B : Nat) (xs : List It) (w : World)
set_option maxRecDepth 100000 in
set_option maxHeartbeats 4000000 in
theorem rpost_ok (at_ cl wh wo nn : Int) (ha : Row w B A n xs) (hB : B ≤ w.heap.size) (hn : n < 4096) (hnc : n ≤ c) (hE : postE nx nw hz xs at_ cl = 0) (hx0 : 0 ≤ nx) (hx1 : nx < 18446744073709551615) :
    Calls Try.prog 13 #[qv ⟨A, n, c, nx, nw, hz⟩, .int .i64 at_, .int .i64 cl, .int .i64 wh, .int .i64 wo, .int .u64 nn] w (RetQ2 w (n + 1) (nx + 1) nw hz nx 0 (· = srt ((at_, cl, nx, wh, wo, nn) :: xs))) := by
  obtain ⟨hok, hf, hat, hne⟩ := postE_zero.1 hE
  have HK := hid (fun w' hb => rcheck_any A n c nx nw hz B xs w' (ha.below (w' := w') (Below.mono hb hB)) (Nat.le_trans hB hb.size) (by omega) hnc)
  rw [okE_ok hok] at HK
  have HC := hid (fun w' (hb : Below w.heap.size w w') => copy_any A n c nx nw hz B xs w' (ha.below (Below.mono hb hB)) (Nat.le_trans hB hb.size) (by omega))
  have HS := hid (fun w' (hb : Below w.heap.size w w') => refsorted_any A n c B xs w' (ha.below (Below.mono hb hB)) (Nat.le_trans hB hb.size) (by omega))
  have hd : decide (4096 ≤ (n : Int)) = false := decide_eq_false (by omega)
  have HP := hid (put_srt_eq xs (at_, cl, nx, wh, wo, nn))
  have hf' : timeB at_ = true ∧ decide (cl < 0) = false ∧ decide (15 < cl) = false := by
    unfold fitB at hf; simp at hf; refine ⟨hf.1, decide_eq_false (by omega), decide_eq_false (by omega)⟩
  obtain ⟨g0, g1, g2⟩ := hf'
  have HM := hid g0
  have g3 : decide (at_ < nw) = false := decide_eq_false (by omega)
  have g4 : (nx == 18446744073709551615) = false := by simpa using hne
  clear ha hE hok hf hat hne g0
  go_enter Try.func13, Try.ntmps13
  go_wp2_with (first
    | (refine wpList_boxq (q := ⟨A, n, c, nx, nw, hz⟩) rfl (.tmp 0) rfl rfl ?_; intro w1 v1 b1 s1)
    | (refine wpList_alq rfl rfl ?_; intro w4 o4 b4 _; have v4 := v3.below2 b4; have r4 := r3.below2 b4; have B4 : Hid (Below w.heap.size w w4) := hid (B3.out.trans (b4.mono B3.out.size)))
    | (refine wpList_alq rfl rfl ?_; intro w2 r2 b2 s2; have v2 := v1.below b2 v1.lt; have B2 : Hid (Below w.heap.size w w2) := hid (b1.trans (b2.mono b1.size)))
    | (refine wpList_ldq rfl (.tmp 6) rfl rfl v5 ?_)
    | (refine wpList_ldq rfl (.tmp 6) rfl rfl v2 ?_)
    | (go_at_call 11; refine (HC.out w2 B2.out).mono ?_; rintro e w3 ⟨A3, c3, l3, rfl, rfl, q3⟩; have v3 := v2.below2 q3.2.2; have r3 := r2.below2 q3.2.2; have B3 : Hid (Below w.heap.size w w3) := hid (B2.out.trans (q3.2.2.mono B2.out.size)))
    | (refine wpList_svq rfl (.tmp 15) (.tmp 17) rfl rfl rfl o4 ?_; intro w5 o5 b5 _ _; have v5 := v4.below b5 v3.lt; have r5 := r4.below b5 r3.lt; have B5 : Hid (Below w.heap.size w w5) := hid (B4.out.trans (b5.mono B3.out.size)))
    | (go_at_call 28; refine (HK.out w5 B5.out).mono ?_; rintro e w6 ⟨rfl, b6⟩; have v6 := v5.below2 b6; have r6 := r5.below2 b6; have o6 := o5.below2 b6; have B6 : Hid (Below w.heap.size w w6) := hid (B5.out.trans (b6.mono B5.out.size)))
    | (go_at_call 34; have t2 := one_new w6 (.int .i64 at_) 2; have b7 := (Below.refl w6.heap.size w6).alloc (Nat.le_refl _) (.cells #[.int .i64 at_] 2); refine (refmay_1 w6.heap.size 1 at_ _ HM.out _ t2).mono ?_; rintro e w7 ⟨rfl, rfl⟩; have B7 : Hid (Below w.heap.size w (w6.alloc (.cells #[.int .i64 at_] 2))) := hid (B6.out.trans (b7.mono B6.out.size)); have v7 := v6.below2 b7; have r7 := r6.below2 b7; have o7 := o6.below2 b7; clear t2 b7; generalize w6.alloc (.cells #[.int .i64 at_] 2) = w7 at *; have c0 : w7.cell? ⟨w.heap.size, 0, none⟩ = some (.slice A n c) := v7.c0; have c1 : w7.cell? ⟨w.heap.size, 1, none⟩ = some (.int .u64 nx) := v7.c1; have c2 : w7.cell? ⟨w.heap.size, 2, none⟩ = some (.int .i64 nw) := v7.c2))
  have N1 : Hid (w.heap.size < w1.heap.size) := hid v1.lt
  have N2 : Hid (w1.heap.size < w3.heap.size) := hid r3.lt
  have V7 : Hid (VarQ w7.drew w.heap.size ⟨A, n, c, nx, nw, hz⟩) := hid v7
  have R7 : Hid (VarQ w7.drew w1.heap.size qz) := hid r7
  have O7 : Hid (VarQ w7.drew w3.heap.size ⟨A3, n, c3, nx, nw, hz⟩) := hid o7
  have BX : Hid (Below w.heap.size w w7.drew) := hid B7.out.drew
  clear v1 v2 v3 v4 v5 v6 v7 r2 r3 r4 r5 r6 r7 o4 o5 o6 o7 b1 b2 b4 b5 b6 s1 s2 q3 B2 B3 B4 B5 B6 B7 c2 HK HC HM g1 g2 g3 g4 hd
  have hne : ¬ w.heap.size = w3.heap.size := by have := N1.out; have := N2.out; omega
  have CA := hid (fun (w' : World) (j k : Nat) (v : Value) => cell_apart w' j k v hne)
  go_region_held3 (fun w' => w'.cell? ⟨w.heap.size, 0, none⟩ = some (.slice A n c) ∧ w'.cell? ⟨w.heap.size, 1, none⟩ = some (.int .u64 nx))
    (first | with_reducible exact ⟨c0, c1⟩ | with_reducible exact ⟨d0, d1⟩ | with_reducible exact ⟨e0, e1⟩ | (simp only [CA.out]; exact ⟨e0, e1⟩) | go_keep)
    (first
      | (go_at_call 36; refine (HS.out w7.drew BX.out).mono ?_; rintro e w8 ⟨A8, c8, l8, rfl, h8, own8, b8⟩; have d0 : w8.cell? ⟨w.heap.size, 0, none⟩ = some (.slice A n c) := (V7.out.below2 b8).c0; have d1 : w8.cell? ⟨w.heap.size, 1, none⟩ = some (.int .u64 nx) := (V7.out.below2 b8).c1; dsimp only)
      | (go_at_call 35; refine (put_any A8 n c8 w8.heap.size l8 (at_, cl, nx, wh, wo, nn) w8 own8.row own8.cap (Nat.le_refl _) (by omega)).mono ?_; rintro e w9 ⟨A9, c9, l9, rfl, h9, own9, b9⟩; have v9 := V7.out.below2 (Below.trans2 b8 b9); have e0 : w9.cell? ⟨w.heap.size, 0, none⟩ = some (.slice A n c) := v9.c0; have e1 : w9.cell? ⟨w.heap.size, 1, none⟩ = some (.int .u64 nx) := v9.c1; have o9 := O7.out.below2 (Below.trans2 b8 b9); have f0 : w9.cell? ⟨w3.heap.size, 0, none⟩ = some (.slice A3 n c3) := o9.c0; have f1 : w9.frozen? ⟨w3.heap.size, 0, none⟩ = false := (o9.2 0 (by omega)).2; dsimp only))
  have hst := setCells_oth w3.heap.size [.slice A9 (n + 1) c9] 0 w9
  have o10 : VarQ (w9.setCells w3.heap.size 0 [.slice A9 (n + 1) c9]) w3.heap.size ⟨A9, n + 1, c9, nx, nw, hz⟩ := ⟨range_set (cs := encq ⟨A3, n, c3, nx, nw, hz⟩) o9.1 o9.2 (by rw [encq_len]; omega), there_set _ _ o9.2⟩
  have v10 := v9.other hst.2 hne
  have r10 := (R7.out.below2 (Below.trans2 b8 b9)).other hst.2 (by have := N2.out; omega)
  have N3 : Hid (w3.heap.size < w7.heap.size) := hid O7.out.lt
  have own10 := own9.other (w' := w9.setCells w3.heap.size 0 [.slice A9 (n + 1) c9]) (fun g hg => hst.2 g (by have := N3.out; have : w7.heap.size ≤ w8.heap.size := b8.size; omega))
  have B10 : Hid (Below w.heap.size w (w9.setCells w3.heap.size 0 [.slice A9 (n + 1) c9])) := hid (BX.out.trans (((Below.trans2 b8 b9).mono BX.out.size).trans (hst.1.mono (by have := N1.out; have := N2.out; omega))))
  have SB : Hid (w.heap.size ≤ w8.heap.size) := hid (by have := N1.out; have := N2.out; have := N3.out; have : w7.heap.size ≤ w8.heap.size := b8.size; omega)
  have SC : Hid (w3.heap.size < w8.heap.size) := hid (by have := N3.out; have : w7.heap.size ≤ w8.heap.size := b8.size; omega)
  rw [h9, h8, HP.out] at own10
  change Exit.then _ _ Exit.normal _ (w9.setCells w3.heap.size 0 [.slice A9 (n + 1) c9])
  generalize w9.setCells w3.heap.size 0 [.slice A9 (n + 1) c9] = w10 at *
  clear hst v9 o9 e0 e1 d0 d1 c0 c1 f0 f1 own8 own9 b8 b9 h8 h9 R7 O7 V7 BX HS CA HP N3
  generalize hm : n + 1 = m at *
  have HM1 := hid hm
  clear hm
  have k1 : w10.cell? ⟨w3.heap.size, 1, none⟩ = some (.int .u64 nx) := o10.c1
  go_wp2_with (first
    | (refine wpList_sf1 rfl (.tmp 67) (.tmp 66) rfl rfl rfl o10 ?_; intro w11 o11 b11 oth11 _; have v11 := v10.other oth11 hne; have r11 := r10.other oth11 (by have := N2.out; omega); have own11 := own10.other (w' := w11) (fun g hg => oth11 g (by have := SC.out; omega)); have B11 : Hid (Below w.heap.size w w11) := hid (B10.out.trans (b11.mono (by have := N1.out; have := N2.out; omega)))))
  obtain ⟨a0, a1, a2, a3⟩ := four_of o11
  have a4 : w11.cell? ⟨w.heap.size, 1, none⟩ = some (.int .u64 nx) := v11.c1
  obtain ⟨⟨y0, j0⟩, ⟨y1, j1⟩, ⟨y2, j2⟩, ⟨y3, j3⟩⟩ : (∃ u, w11.cell? ⟨w1.heap.size, 0, none⟩ = some u) ∧ (∃ u, w11.cell? ⟨w1.heap.size, 1, none⟩ = some u) ∧ (∃ u, w11.cell? ⟨w1.heap.size, 2, none⟩ = some u) ∧ (∃ u, w11.cell? ⟨w1.heap.size, 3, none⟩ = some u) := ⟨⟨_, r11.c0⟩, ⟨_, r11.c1⟩, ⟨_, r11.c2⟩, ⟨_, r11.c3⟩⟩
  obtain ⟨q0, q1, q2, q3⟩ : w11.frozen? ⟨w1.heap.size, 0, none⟩ = false ∧ w11.frozen? ⟨w1.heap.size, 1, none⟩ = false ∧ w11.frozen? ⟨w1.heap.size, 2, none⟩ = false ∧ w11.frozen? ⟨w1.heap.size, 3, none⟩ = false := ⟨(r11.2 0 (by omega)).2, (r11.2 1 (by omega)).2, (r11.2 2 (by omega)).2, (r11.2 3 (by omega)).2⟩
  have R11 := hid r11
  have O11 := hid own11
  have N4 : Hid (w1.heap.size < w8.heap.size) := hid (by have := N2.out; have := SC.out; omega)
  clear v10 v11 o10 o11 r10 r11 own10 own11 b11 oth11 k1 B10
  generalize w3.heap.size = g3 at *
  generalize w1.heap.size = g2 at *
  generalize hG : w.heap.size = g1 at *
  have n1 : ¬ g1 = g2 := by have := N1.out; omega
  have n2 : ¬ g3 = g2 := by have := N2.out; omega
  go_region
  go_wp2_with fail
  have o12 := setCells_oth g2 (encq ⟨A9, m, c9, nx + 1, nw, hz⟩) 0 w11
  have r12 := varq_stored R11.out.2 ⟨A9, m, c9, nx + 1, nw, hz⟩
  have own12 := O11.out.other (w' := w11.setCells g2 0 (encq ⟨A9, m, c9, nx + 1, nw, hz⟩)) (fun g hg => o12.2 g (by have := N4.out; omega))
  have b12 : Below g1 w (w11.setCells g2 0 (encq ⟨A9, m, c9, nx + 1, nw, hz⟩)) := B11.out.trans (o12.1.mono (by have := N1.out; omega))
  generalize hV : w11.setCells g2 0 (encq ⟨A9, m, c9, nx + 1, nw, hz⟩) = W at r12 own12 b12
  simp only [World.setCells, encq, Nat.reduceAdd] at hV
  rw [hV]
  clear hV o12
  refine bodyPost_ret (w := W.drew) (results_q2 Try.results13 _ rfl r12.drew) rfl ?_
  have hm := HM1.out
  subst hm
  refine ⟨A9, c9, _, rfl, rfl, (show Row W.drew _ _ _ _ from own12.row), fun g o e => ?_, (show Below _ _ W.drew from ?_)⟩
  · have := own12.new g o e; have := SB.out; omega
  · rw [hG]; exact b12.drew
end
end Go.Proofs.Ytpfidohneddgkaa
