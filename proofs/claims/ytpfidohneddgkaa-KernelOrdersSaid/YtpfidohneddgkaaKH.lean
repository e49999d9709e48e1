/-
  kernel.Step: what it tells. What is asked: at most 4096 things, whose numbers are of 64 bits.
-/
import Derived.Test.YtpfidohneddgkaaKG
namespace Go.Proofs.Ytpfidohneddgkaa
open Go Go.RowKit Go.Maps
section
variable (A : Option Addr) (n c : Nat) (nx nw hz : Int) (B : Nat) (xs : List It) (w : World)
/-- Step, where Peek has an error. -/
theorem step_err (x : It) (E : Int) (ha : Row w B A n xs) (hB : B ≤ w.heap.size) (hn : n ≤ 4096) (hE : E ≠ 0) (hp : ∀ w', Below w.heap.size w w' → Calls Try.prog 19 #[qv ⟨A, n, c, nx, nw, hz⟩] w' (RetI w' x E)) :
    Calls Try.prog 17 #[qv ⟨A, n, c, nx, nw, hz⟩] w (RetQI w n nx nw hz zr E (· = xs)) := by
  have HA := hid ha
  have HK := hid hp
  have hd : (E != 0) = true := by simpa using hE
  have hd2 : (E == 0) = false := by simpa using hE
  clear ha hp hE
  go_enter Try.func17, Try.ntmps17
  go_wp2_with (first
    | (refine wpList_boxq (q := ⟨A, n, c, nx, nw, hz⟩) rfl (.tmp 0) rfl rfl ?_; intro w1 v1 b1 s1)
    | (refine wpList_alq rfl rfl ?_; intro w2 r2 b2 s2; have v2 := v1.below b2 v1.lt; have B2 : Hid (Below w.heap.size w w2) := hid (b1.trans (b2.mono b1.size)))
    | (refine wpList_ali rfl rfl ?_; intro w5 i5 b5 s5; have v5 := v4.below b5 v4.lt; have r5 := r4.below b5 r4.lt; have t5 := t4.below b5 t4.lt; have B5 : Hid (Below w.heap.size w w5) := hid (B4.out.trans (b5.mono B4.out.size)))
    | (refine wpList_ali rfl rfl ?_; intro w3 t3 b3 s3; have v3 := v2.below b3 v2.lt; have r3 := r2.below b3 r2.lt; have B3 : Hid (Below w.heap.size w w3) := hid (B2.out.trans (b3.mono B2.out.size)))
    | (refine wpList_ldq rfl (.tmp 1) rfl rfl v6 ?_)
    | (refine wpList_ldq rfl (.tmp 1) rfl rfl v3 ?_)
    | (go_at_call 19; refine (HK.out w3 B3.out).mono ?_; rintro e w4 ⟨rfl, b4⟩; have v4 := v3.below b4 v3.lt; have r4 := r3.below b4 r3.lt; have t4 := t3.below b4 t3.lt; have B4 : Hid (Below w.heap.size w w4) := hid (B3.out.trans (b4.mono B3.out.size)))
    | (refine wpList_svi (v := x) rfl (.tmp 5) (.tmp 10) rfl rfl rfl i5 ?_; intro w6 i6 b6 o6 _; have v6 := v5.below b6 v4.lt; have r6 := r5.below b6 r4.lt; have t6 := t5.below b6 t4.lt; have B6 : Hid (Below w.heap.size w w6) := hid (B5.out.trans (b6.mono B4.out.size)))
    | (go_at_call 32; refine (own_any A n c nx nw hz B xs w6 (HA.out.below (B6.out.mono hB)) (Nat.le_trans hB B6.out.size) hn).mono ?_; rintro e w7 ⟨A7, c7, l7, rfl, rfl, q7⟩; have r7 := r6.below q7.2.2 r6.lt; have t7 := t6.below q7.2.2 t6.lt; have B7 : Hid (Below w.heap.size w w7) := hid (B6.out.trans (q7.2.2.mono B6.out.size)))
    | (refine wpList_svq rfl (.tmp 2) (.tmp 24) rfl rfl rfl r7 ?_; intro w8 r8 b8 o8 _; have t8 := t7.other o8 (by have := r2.lt; omega); have B8 : Hid (Below w.heap.size w w8) := hid (B7.out.trans (b8.mono b1.size)))
    | (refine wpList_svi (v := zr) rfl (.tmp 3) (.tmp 25) rfl rfl rfl t8 ?_; intro w9 t9 b9 o9 _; have r9 := r8.other o9 (by have := r2.lt; omega); have B9 : Hid (Below w.heap.size w w9) := hid (B8.out.trans (b9.mono B2.out.size))))
  refine bodyPost_ret (w := w9) (results_qi1 Try.results17 _ rfl rfl r9 t9) rfl ?_
  exact ⟨A7, c7, l7, rfl, rfl, ((q7.1.oth o8 (fun g o e => by have := q7.2.1 g o e; have := r6.lt; omega)).oth o9 (fun g o e => by have := q7.2.1 g o e; have := t6.lt; omega)).top, q7.2.1.le B6.out.size, B9.out⟩
/-- Step, where the first is later than the horizon. -/
theorem step_over (x : It) (ha : Row w B A n xs) (hB : B ≤ w.heap.size) (hn : n ≤ 4096) (hx : hz < x.1) (hp : ∀ w', Below w.heap.size w w' → Calls Try.prog 19 #[qv ⟨A, n, c, nx, nw, hz⟩] w' (RetI w' x 0)) :
    Calls Try.prog 17 #[qv ⟨A, n, c, nx, nw, hz⟩] w (RetQI w n nx nw hz zr 2 (· = xs)) := by
  have HA := hid ha
  have HK := hid hp
  obtain ⟨x1, x2, x3, x4, x5, x6⟩ := x
  have hd : decide (hz < x1) = true := decide_eq_true hx
  clear ha hp hx
  go_enter Try.func17, Try.ntmps17
  go_wp2_with (first
    | (refine wpList_boxq (q := ⟨A, n, c, nx, nw, hz⟩) rfl (.tmp 0) rfl rfl ?_; intro w1 v1 b1 s1)
    | (refine wpList_alq rfl rfl ?_; intro w2 r2 b2 s2; have v2 := v1.below b2 v1.lt; have B2 : Hid (Below w.heap.size w w2) := hid (b1.trans (b2.mono b1.size)))
    | (refine wpList_ali rfl rfl ?_; intro w5 i5 b5 s5; have v5 := v4.below b5 v4.lt; have r5 := r4.below b5 r4.lt; have t5 := t4.below b5 t4.lt; have B5 : Hid (Below w.heap.size w w5) := hid (B4.out.trans (b5.mono B4.out.size)))
    | (refine wpList_ali rfl rfl ?_; intro w3 t3 b3 s3; have v3 := v2.below b3 v2.lt; have r3 := r2.below b3 r2.lt; have B3 : Hid (Below w.heap.size w w3) := hid (B2.out.trans (b3.mono B2.out.size)))
    | (refine wpList_ldq rfl (.tmp 1) rfl rfl v6 ?_)
    | (refine wpList_ldq rfl (.tmp 1) rfl rfl v3 ?_)
    | (go_at_call 19; refine (HK.out w3 B3.out).mono ?_; rintro e w4 ⟨rfl, b4⟩; have v4 := v3.below b4 v3.lt; have r4 := r3.below b4 r3.lt; have t4 := t3.below b4 t3.lt; have B4 : Hid (Below w.heap.size w w4) := hid (B3.out.trans (b4.mono B3.out.size)))
    | (refine wpList_svi (v := (x1, x2, x3, x4, x5, x6)) rfl (.tmp 5) (.tmp 10) rfl rfl rfl i5 ?_; intro w6 i6 b6 o6 _; have v6 := v5.below b6 v4.lt; have r6 := r5.below b6 r4.lt; have t6 := t5.below b6 t4.lt; have c0 : w6.cell? ⟨w4.heap.size, 0, none⟩ = some (.int .i64 x1) := i6.c0; have c3 : w6.cell? ⟨w.heap.size, 3, none⟩ = some (.int .i64 hz) := v6.c3; have B6 : Hid (Below w.heap.size w w6) := hid (B5.out.trans (b6.mono B4.out.size)))
    | (go_at_call 32; refine (own_any A n c nx nw hz B xs w6 (HA.out.below (B6.out.mono hB)) (Nat.le_trans hB B6.out.size) hn).mono ?_; rintro e w7 ⟨A7, c7, l7, rfl, rfl, q7⟩; have r7 := r6.below q7.2.2 r6.lt; have t7 := t6.below q7.2.2 t6.lt; have B7 : Hid (Below w.heap.size w w7) := hid (B6.out.trans (q7.2.2.mono B6.out.size)))
    | (refine wpList_svq rfl (.tmp 2) (.tmp 24) rfl rfl rfl r7 ?_; intro w8 r8 b8 o8 _; have t8 := t7.other o8 (by have := r2.lt; omega); have B8 : Hid (Below w.heap.size w w8) := hid (B7.out.trans (b8.mono b1.size)))
    | (refine wpList_svi (v := zr) rfl (.tmp 3) (.tmp 25) rfl rfl rfl t8 ?_; intro w9 t9 b9 o9 _; have r9 := r8.other o9 (by have := r2.lt; omega); have B9 : Hid (Below w.heap.size w w9) := hid (B8.out.trans (b9.mono B2.out.size))))
  refine bodyPost_ret (w := w9) (results_qi1 Try.results17 _ rfl rfl r9 t9) rfl ?_
  exact ⟨A7, c7, l7, rfl, rfl, ((q7.1.oth o8 (fun g o e => by have := q7.2.1 g o e; have := r6.lt; omega)).oth o9 (fun g o e => by have := q7.2.1 g o e; have := t6.lt; omega)).top, q7.2.1.le B6.out.size, B9.out⟩
set_option maxHeartbeats 1000000 in
/-- Step, where something comes. -/
theorem step_ok (k : Nat) (x : It) (ha : Row w B A (k + 1) xs) (hB : B ≤ w.heap.size) (hn : k < 4096) (hh : Hp xs) (hx0 : nth xs 0 = x) (hx : x.1 ≤ hz) (hp : ∀ w', Below w.heap.size w w' → Calls Try.prog 19 #[qv ⟨A, k + 1, c, nx, nw, hz⟩] w' (RetI w' x 0)) :
    Calls Try.prog 17 #[qv ⟨A, k + 1, c, nx, nw, hz⟩] w (RetQI w k nx x.1 hz x 0 (fun l => Hp l ∧ xs.Perm (x :: l))) := by
  have HT := hid (fun w' hb => pop_ok A k c B xs x w' (ha.below (w' := w') (Below.mono hb hB)) (Nat.le_trans hB hb.size) hn hh hx0)
  have HK := hid hp
  obtain ⟨x1, x2, x3, x4, x5, x6⟩ := x
  have hd : decide (hz < x1) = false := decide_eq_false (by have : x1 ≤ hz := hx; omega)
  clear ha hp hx hh hx0
  obtain ⟨m, hm⟩ : ∃ m, m = k + 1 := ⟨_, rfl⟩
  rw [← hm] at HK HT ⊢
  clear hm
  go_enter Try.func17, Try.ntmps17
  go_wp2_with (first
    | (refine wpList_boxq (q := ⟨A, m, c, nx, nw, hz⟩) rfl (.tmp 0) rfl rfl ?_; intro w1 v1 b1 s1)
    | (refine wpList_alq rfl rfl ?_; intro w2 r2 b2 s2; have v2 := v1.below b2 v1.lt; have B2 : Hid (Below w.heap.size w w2) := hid (b1.trans (b2.mono b1.size)))
    | (refine wpList_ali rfl rfl ?_; intro w5 i5 b5 s5; have v5 := v4.below b5 v4.lt; have r5 := r4.below b5 r4.lt; have t5 := t4.below b5 t4.lt; have B5 : Hid (Below w.heap.size w w5) := hid (B4.out.trans (b5.mono B4.out.size)))
    | (refine wpList_ali rfl rfl ?_; intro w3 t3 b3 s3; have v3 := v2.below b3 v2.lt; have r3 := r2.below b3 r2.lt; have B3 : Hid (Below w.heap.size w w3) := hid (B2.out.trans (b3.mono B2.out.size)))
    | (refine wpList_ldq rfl (.tmp 1) rfl rfl v3 ?_)
    | (go_at_call 19; refine (HK.out w3 B3.out).mono ?_; rintro e w4 ⟨rfl, b4⟩; have v4 := v3.below b4 v3.lt; have r4 := r3.below b4 r3.lt; have t4 := t3.below b4 t3.lt; have B4 : Hid (Below w.heap.size w w4) := hid (B3.out.trans (b4.mono B3.out.size)))
    | (refine wpList_svi (v := (x1, x2, x3, x4, x5, x6)) rfl (.tmp 5) (.tmp 10) rfl rfl rfl i5 ?_; intro w6 i6 b6 o6 _; have v6 := v5.below b6 v4.lt; have r6 := r5.below b6 r4.lt; have t6 := t5.below b6 t4.lt; have c0 : w6.cell? ⟨w4.heap.size, 0, none⟩ = some (.int .i64 x1) := i6.c0; have c3 : w6.cell? ⟨w.heap.size, 3, none⟩ = some (.int .i64 hz) := v6.c3; have d0 : w6.cell? ⟨w.heap.size, 0, none⟩ = some (.slice A m c) := v6.c0; have B6 : Hid (Below w.heap.size w w6) := hid (B5.out.trans (b6.mono B4.out.size)))
    | (go_at_call 40; refine (HT.out w6 B6.out).mono ?_; rintro e w7 ⟨A7, c7, l7, rfl, p7, own7, b7⟩; have v7 := v6.below b7 v6.lt; have r7 := r6.below b7 r6.lt; have t7 := t6.below b7 t6.lt; have i7 := i6.below b7 i6.lt; have B7 : Hid (Below w.heap.size w w7) := hid (B6.out.trans (b7.mono B6.out.size)))
    | (refine wpList_sf0 rfl (.tmp 34) (.tmp 32) rfl rfl rfl v7 ?_; intro w8 v8 b8 o8 _; have r8 := r7.other o8 (by have := v1.lt; omega); have t8 := t7.other o8 (by have := v2.lt; omega); have i8 := i7.other o8 (by have := v4.lt; omega); have B8 : Hid (Below w.heap.size w w8) := hid (B7.out.trans b8); have own8 := own7.other (w' := w8) (fun g hg => o8 g (by have := v6.lt; omega)); have e0 : w8.cell? ⟨w4.heap.size, 0, none⟩ = some (.int .i64 x1) := i8.c0)
    | (refine wpList_sf2 rfl (.tmp 37) (.tmp 36) rfl rfl rfl v8 ?_; intro w9 v9 b9 o9 _; have r9 := r8.other o9 (by have := v1.lt; omega); have t9 := t8.other o9 (by have := v2.lt; omega); have i9 := i8.other o9 (by have := v4.lt; omega); have B9 : Hid (Below w.heap.size w w9) := hid (B8.out.trans b9); have own9 := own8.other (w' := w9) (fun g hg => o9 g (by have := v6.lt; omega))))
  obtain ⟨a0, a1, a2, a3⟩ : w9.cell? ⟨w.heap.size, 0, none⟩ = some (.slice A7 k c7) ∧ w9.cell? ⟨w.heap.size, 1, none⟩ = some (.int .u64 nx) ∧ w9.cell? ⟨w.heap.size, 2, none⟩ = some (.int .i64 x1) ∧ w9.cell? ⟨w.heap.size, 3, none⟩ = some (.int .i64 hz) := ⟨v9.c0, v9.c1, v9.c2, v9.c3⟩
  obtain ⟨j0, j1, j2, j3, j4, j5⟩ := six_of i9.1
  obtain ⟨⟨u0, h0⟩, ⟨u1, h1⟩, ⟨u2, h2⟩, ⟨u3, h3⟩, ⟨u4, h4⟩, ⟨u5, h5⟩⟩ := six_there t9.2
  obtain ⟨f0, f1, f2, f3, f4, f5⟩ := six_frozen t9.2
  obtain ⟨⟨y0, k0⟩, ⟨y1, k1⟩, ⟨y2, k2⟩, ⟨y3, k3⟩⟩ : (∃ u, w9.cell? ⟨w1.heap.size, 0, none⟩ = some u) ∧ (∃ u, w9.cell? ⟨w1.heap.size, 1, none⟩ = some u) ∧ (∃ u, w9.cell? ⟨w1.heap.size, 2, none⟩ = some u) ∧ (∃ u, w9.cell? ⟨w1.heap.size, 3, none⟩ = some u) := ⟨⟨_, r9.c0⟩, ⟨_, r9.c1⟩, ⟨_, r9.c2⟩, ⟨_, r9.c3⟩⟩
  obtain ⟨q0, q1, q2, q3⟩ : w9.frozen? ⟨w1.heap.size, 0, none⟩ = false ∧ w9.frozen? ⟨w1.heap.size, 1, none⟩ = false ∧ w9.frozen? ⟨w1.heap.size, 2, none⟩ = false ∧ w9.frozen? ⟨w1.heap.size, 3, none⟩ = false := ⟨(r9.2 0 (by omega)).2, (r9.2 1 (by omega)).2, (r9.2 2 (by omega)).2, (r9.2 3 (by omega)).2⟩
  have O9 := hid own9
  have R9 := hid r9
  have T9 := hid t9
  have P7 := hid p7
  have N1 : Hid (w.heap.size < w1.heap.size) := hid v1.lt
  have N2 : Hid (w1.heap.size < w2.heap.size) := hid r2.lt
  have N3 : Hid (w2.heap.size < w4.heap.size) := hid t4.lt
  have N4 : Hid (w4.heap.size < w6.heap.size) := hid i6.lt
  clear v1 v2 v3 v4 v5 v6 v7 v8 v9 r2 r3 r4 r5 r6 r7 r8 r9 t3 t4 t5 t6 t7 t8 t9 i5 i6 i7 i8 i9 own7 own8 own9 o6 o8 o9 c0 c3 d0 e0 B2 B3 B4 B5 B7 B8 HT HK b1 b2 b3 b4 b5 b6 b7 b8 b9 s1 s2 s3 s5 p7
  generalize w4.heap.size = g5 at *
  generalize w2.heap.size = g3 at *
  generalize w1.heap.size = g2 at *
  generalize hG : w.heap.size = g1 at *
  have n1 : ¬ g1 = g2 := by have := N1.out; omega
  have n2 : ¬ g1 = g3 := by have := N1.out; have := N2.out; omega
  have n3 : ¬ g5 = g2 := by have := N2.out; have := N3.out; omega
  have n4 : ¬ g5 = g3 := by have := N3.out; omega
  have n5 : ¬ g2 = g3 := by have := N2.out; omega
  have n6 : ¬ g3 = g2 := by have := N2.out; omega
  go_region
  go_wp2_with fail
  have r10 := varq_stored R9.out.2 ⟨A7, k, c7, nx, x1, hz⟩
  have o10 := setCells_oth g2 (encq ⟨A7, k, c7, nx, x1, hz⟩) 0 w9
  have t10 := T9.out.other o10.2 n6
  have t11 := vari_stored t10.2 (x1, x2, x3, x4, x5, x6)
  have o11 := setCells_oth g3 (enc (x1, x2, x3, x4, x5, x6)) 0 (w9.setCells g2 0 (encq ⟨A7, k, c7, nx, x1, hz⟩))
  have r11 := r10.other o11.2 n5
  have own11 : Own ((w9.setCells g2 0 (encq ⟨A7, k, c7, nx, x1, hz⟩)).setCells g3 0 (enc (x1, x2, x3, x4, x5, x6))) w6.heap.size A7 k c7 l7 := O9.out.other (fun g hg => (o11.2 g (by have := N4.out; have := N3.out; omega)).trans (o10.2 g (by have := N4.out; have := N3.out; have := N2.out; omega)))
  have b11 : Below g1 w ((w9.setCells g2 0 (encq ⟨A7, k, c7, nx, x1, hz⟩)).setCells g3 0 (enc (x1, x2, x3, x4, x5, x6))) := B9.out.trans ((o10.1.mono (by have := N1.out; omega)).trans (o11.1.mono (by have := N1.out; have := N2.out; omega)))
  clear a0 a1 a2 a3 j0 j1 j2 j3 j4 j5 h0 h1 h2 h3 h4 h5 f0 f1 f2 f3 f4 f5 k0 k1 k2 k3 q0 q1 q2 q3
  generalize hV : (w9.setCells g2 0 (encq ⟨A7, k, c7, nx, x1, hz⟩)).setCells g3 0 (enc (x1, x2, x3, x4, x5, x6)) = W at r11 t11 own11 b11
  simp only [World.setCells, encq, enc, Nat.reduceAdd] at hV
  rw [hV]
  clear hV o11 o10 t10 r10
  refine bodyPost_ret (w := W.drew) (results_qi1 Try.results17 _ rfl rfl r11.drew (show VarI W.drew _ _ from t11)) rfl ?_
  refine ⟨A7, c7, l7, rfl, P7.out, (show Row W.drew _ _ _ _ from own11.row), fun g o e => ?_, (show Below _ _ W.drew from ?_)⟩
  · have := own11.new g o e; have := B6.out.size; omega
  · rw [hG]; exact b11.drew
end
end Go.Proofs.Ytpfidohneddgkaa
