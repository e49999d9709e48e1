/-
  The document's own Step of queues: what it tells. What is asked: at most 4096 things; the slice's length is no more than its capacity.
-/
import Derived.Test.YtpfidohneddgkaaKM
namespace Go.Proofs.Ytpfidohneddgkaa
open Go Go.RowKit Go.Maps
section
variable (A : Option Addr) (n c : Nat) (nx nw hz : Int) (B : Nat) (xs : List It) (w : World)
set_option maxRecDepth 100000 in
theorem rstep_err (x : It) (E : Int) (ha : Row w B A n xs) (hB : B ≤ w.heap.size) (hn : n ≤ 4096) (hE : E ≠ 0) (hp : ∀ w', Below w.heap.size w w' → Calls Try.prog 20 #[qv ⟨A, n, c, nx, nw, hz⟩] w' (RetI w' x E)) :
    Calls Try.prog 18 #[qv ⟨A, n, c, nx, nw, hz⟩] w (RetQI w n nx nw hz zr E (· = xs)) := by
  have HC := hid (fun w' (hb : Below w.heap.size w w') => copy_any A n c nx nw hz B xs w' (ha.below (Below.mono hb hB)) (Nat.le_trans hB hb.size) (by omega))
  have HK := hid hp
  have hd : (E != 0) = true := by simpa using hE
  clear ha hp hE
  go_enter Try.func18, Try.ntmps18
  go_wp2_with (first
    | (refine wpList_boxq (q := ⟨A, n, c, nx, nw, hz⟩) rfl (.tmp 0) rfl rfl ?_; intro w1 v1 b1 s1)
    | (refine wpList_alq rfl rfl ?_; intro w5 o5 b5 _; have v5 := v4.below2 b5; have r5 := r4.below2 b5; have t5 := t4.below2 b5; have row5 := q4.1.below b5; have B5 : Hid (Below w.heap.size w w5) := hid (B4.out.trans (b5.mono B4.out.size)))
    | (refine wpList_alq rfl rfl ?_; intro w2 r2 b2 s2; have v2 := v1.below b2 v1.lt; have B2 : Hid (Below w.heap.size w w2) := hid (b1.trans (b2.mono b1.size)))
    | (refine wpList_ali rfl rfl ?_; intro w8 i8 b8 _; have r8 := r7.below2 b8; have t8 := t7.below2 b8; have o8 := o7.below2 b8; have row8 := row7.below (b8.mono Z7.out); have B8 : Hid (Below w.heap.size w w8) := hid (B7.out.trans (b8.mono B7.out.size)))
    | (refine wpList_ali rfl rfl ?_; intro w3 t3 b3 _; have v3 := v2.below2 b3; have r3 := r2.below2 b3; have B3 : Hid (Below w.heap.size w w3) := hid (B2.out.trans (b3.mono B2.out.size)))
    | (refine wpList_ldq rfl (.tmp 1) rfl rfl v6 ?_)
    | (refine wpList_ldq rfl (.tmp 1) rfl rfl v3 ?_)
    | (go_at_call 11; refine (HC.out w3 B3.out).mono ?_; rintro e w4 ⟨A4, c4, l4, rfl, rfl, q4⟩; have v4 := v3.below2 q4.2.2; have r4 := r3.below2 q4.2.2; have t4 := t3.below2 q4.2.2; have B4 : Hid (Below w.heap.size w w4) := hid (B3.out.trans (q4.2.2.mono B3.out.size)))
    | (refine wpList_svq rfl (.tmp 5) (.tmp 9) rfl rfl rfl o5 ?_; intro w6 o6 b6 _ _; have v6 := v5.below b6 v4.lt; have r6 := r5.below b6 r4.lt; have t6 := t5.below b6 t4.lt; have row6 := row5.below b6; have B6 : Hid (Below w.heap.size w w6) := hid (B5.out.trans (b6.mono B4.out.size)); have Z6 : Hid (w4.heap.size ≤ w6.heap.size) := hid (Nat.le_trans b5.size b6.size))
    | (go_at_call 20; refine (HK.out w6 B6.out).mono ?_; rintro e w7 ⟨rfl, b7⟩; have r7 := r6.below2 b7; have t7 := t6.below2 b7; have o7 := o6.below2 b7; have row7 := row6.below (b7.mono Z6.out); have B7 : Hid (Below w.heap.size w w7) := hid (B6.out.trans (b7.mono B6.out.size)); have Z7 : Hid (w4.heap.size ≤ w7.heap.size) := hid (Nat.le_trans Z6.out b7.size))
    | (refine wpList_svi (v := x) rfl (.tmp 6) (.tmp 13) rfl rfl rfl i8 ?_; intro w9 i9 b9 _ _; have r9 := r8.below b9 r7.lt; have t9 := t8.below b9 t7.lt; have o9 := o8.below b9 o7.lt; have row9 := row8.below (b9.mono Z7.out); have B9 : Hid (Below w.heap.size w w9) := hid (B8.out.trans (b9.mono B7.out.size)))
    | (refine wpList_ldq rfl (.tmp 5) rfl rfl o9 ?_)
    | (refine wpList_svq rfl (.tmp 2) (.tmp 17) rfl rfl rfl r9 ?_; intro w10 r10 b10 oth10 _; have t10 := t9.other oth10 (by have := r2.lt; omega); have row10 := row9.oth oth10 (fun g o e => by have := q4.2.1 g o e; have := r3.lt; omega); have B10 : Hid (Below w.heap.size w w10) := hid (B9.out.trans (b10.mono b1.size)))
    | (refine wpList_svi (v := zr) rfl (.tmp 3) (.tmp 18) rfl rfl rfl t10 ?_; intro w11 t11 b11 oth11 _; have r11 := r10.other oth11 (by have := r2.lt; omega); have row11 := row10.oth oth11 (fun g o e => by have := q4.2.1 g o e; have := t3.lt; omega); have B11 : Hid (Below w.heap.size w w11) := hid (B10.out.trans (b11.mono B2.out.size))))
  refine bodyPost_ret (w := w11) (results_qi1 Try.results18 _ rfl rfl r11 t11) rfl ?_
  exact ⟨A4, c4, l4, rfl, rfl, row11.top, q4.2.1.le B3.out.size, B11.out⟩
set_option maxRecDepth 100000 in
theorem rstep_over (x : It) (ha : Row w B A n xs) (hB : B ≤ w.heap.size) (hn : n ≤ 4096) (hx : hz < x.1) (hp : ∀ w', Below w.heap.size w w' → Calls Try.prog 20 #[qv ⟨A, n, c, nx, nw, hz⟩] w' (RetI w' x 0)) :
    Calls Try.prog 18 #[qv ⟨A, n, c, nx, nw, hz⟩] w (RetQI w n nx nw hz zr 2 (· = xs)) := by
  have HC := hid (fun w' (hb : Below w.heap.size w w') => copy_any A n c nx nw hz B xs w' (ha.below (Below.mono hb hB)) (Nat.le_trans hB hb.size) (by omega))
  have HK := hid hp
  obtain ⟨x1, x2, x3, x4, x5, x6⟩ := x
  have hd : decide (hz < x1) = true := decide_eq_true hx
  clear ha hp hx
  go_enter Try.func18, Try.ntmps18
  go_wp2_with (first
    | (refine wpList_boxq (q := ⟨A, n, c, nx, nw, hz⟩) rfl (.tmp 0) rfl rfl ?_; intro w1 v1 b1 s1)
    | (refine wpList_alq rfl rfl ?_; intro w5 o5 b5 _; have v5 := v4.below2 b5; have r5 := r4.below2 b5; have t5 := t4.below2 b5; have row5 := q4.1.below b5; have B5 : Hid (Below w.heap.size w w5) := hid (B4.out.trans (b5.mono B4.out.size)))
    | (refine wpList_alq rfl rfl ?_; intro w2 r2 b2 s2; have v2 := v1.below b2 v1.lt; have B2 : Hid (Below w.heap.size w w2) := hid (b1.trans (b2.mono b1.size)))
    | (refine wpList_ali rfl rfl ?_; intro w8 i8 b8 _; have v8 := v7.below2 b8; have r8 := r7.below2 b8; have t8 := t7.below2 b8; have o8 := o7.below2 b8; have row8 := row7.below (b8.mono Z7.out); have B8 : Hid (Below w.heap.size w w8) := hid (B7.out.trans (b8.mono B7.out.size)))
    | (refine wpList_ali rfl rfl ?_; intro w3 t3 b3 _; have v3 := v2.below2 b3; have r3 := r2.below2 b3; have B3 : Hid (Below w.heap.size w w3) := hid (B2.out.trans (b3.mono B2.out.size)))
    | (refine wpList_ldq rfl (.tmp 1) rfl rfl v6 ?_)
    | (refine wpList_ldq rfl (.tmp 1) rfl rfl v3 ?_)
    | (go_at_call 11; refine (HC.out w3 B3.out).mono ?_; rintro e w4 ⟨A4, c4, l4, rfl, rfl, q4⟩; have v4 := v3.below2 q4.2.2; have r4 := r3.below2 q4.2.2; have t4 := t3.below2 q4.2.2; have B4 : Hid (Below w.heap.size w w4) := hid (B3.out.trans (q4.2.2.mono B3.out.size)))
    | (refine wpList_svq rfl (.tmp 5) (.tmp 9) rfl rfl rfl o5 ?_; intro w6 o6 b6 _ _; have v6 := v5.below b6 v4.lt; have r6 := r5.below b6 r4.lt; have t6 := t5.below b6 t4.lt; have row6 := row5.below b6; have B6 : Hid (Below w.heap.size w w6) := hid (B5.out.trans (b6.mono B4.out.size)); have Z6 : Hid (w4.heap.size ≤ w6.heap.size) := hid (Nat.le_trans b5.size b6.size))
    | (go_at_call 20; refine (HK.out w6 B6.out).mono ?_; rintro e w7 ⟨rfl, b7⟩; have v7 := v6.below2 b7; have r7 := r6.below2 b7; have t7 := t6.below2 b7; have o7 := o6.below2 b7; have row7 := row6.below (b7.mono Z6.out); have B7 : Hid (Below w.heap.size w w7) := hid (B6.out.trans (b7.mono B6.out.size)); have Z7 : Hid (w4.heap.size ≤ w7.heap.size) := hid (Nat.le_trans Z6.out b7.size))
    | (refine wpList_svi (v := (x1, x2, x3, x4, x5, x6)) rfl (.tmp 6) (.tmp 13) rfl rfl rfl i8 ?_; intro w9 i9 b9 _ _; have v9 := v8.below b9 v7.lt; have r9 := r8.below b9 r7.lt; have t9 := t8.below b9 t7.lt; have o9 := o8.below b9 o7.lt; have row9 := row8.below (b9.mono Z7.out); have B9 : Hid (Below w.heap.size w w9) := hid (B8.out.trans (b9.mono B7.out.size)); have z0 : w9.cell? ⟨w7.heap.size, 0, none⟩ = some (.int .i64 x1) := i9.c0; have z3 : w9.cell? ⟨w.heap.size, 3, none⟩ = some (.int .i64 hz) := v9.c3)
    | (refine wpList_ldq rfl (.tmp 5) rfl rfl o9 ?_)
    | (refine wpList_svq rfl (.tmp 2) (.tmp 25) rfl rfl rfl r9 ?_; intro w10 r10 b10 oth10 _; have t10 := t9.other oth10 (by have := r2.lt; omega); have row10 := row9.oth oth10 (fun g o e => by have := q4.2.1 g o e; have := r3.lt; omega); have B10 : Hid (Below w.heap.size w w10) := hid (B9.out.trans (b10.mono b1.size)))
    | (refine wpList_svi (v := zr) rfl (.tmp 3) (.tmp 26) rfl rfl rfl t10 ?_; intro w11 t11 b11 oth11 _; have r11 := r10.other oth11 (by have := r2.lt; omega); have row11 := row10.oth oth11 (fun g o e => by have := q4.2.1 g o e; have := t3.lt; omega); have B11 : Hid (Below w.heap.size w w11) := hid (B10.out.trans (b11.mono B2.out.size))))
  refine bodyPost_ret (w := w11) (results_qi1 Try.results18 _ rfl rfl r11 t11) rfl ?_
  exact ⟨A4, c4, l4, rfl, rfl, row11.top, q4.2.1.le B3.out.size, B11.out⟩
set_option maxRecDepth 100000 in
set_option maxHeartbeats 2000000 in
theorem rstep_ok (k : Nat) (x : It) (ha : Row w B A (k + 1) xs) (hB : B ≤ w.heap.size) (hn : k < 4096) (hx : x.1 ≤ hz) (hp : ∀ w', Below w.heap.size w w' → Calls Try.prog 20 #[qv ⟨A, k + 1, c, nx, nw, hz⟩] w' (RetI w' x 0)) :
    Calls Try.prog 18 #[qv ⟨A, k + 1, c, nx, nw, hz⟩] w (RetQI w k nx x.1 hz x 0 (· = (srt xs).tail)) := by
  have HC := hid (fun w' (hb : Below w.heap.size w w') => copy_any A (k + 1) c nx nw hz B xs w' (ha.below (Below.mono hb hB)) (Nat.le_trans hB hb.size) (by omega))
  have HS := hid (fun w' (hb : Below w.heap.size w w') => refsorted_any A (k + 1) c B xs w' (ha.below (Below.mono hb hB)) (Nat.le_trans hB hb.size) (by omega))
  have HK := hid hp
  obtain ⟨x1, x2, x3, x4, x5, x6⟩ := x
  have hd : decide (hz < x1) = false := decide_eq_false (by have : x1 ≤ hz := hx; omega)
  obtain ⟨m, hm⟩ : ∃ m, m = k + 1 := ⟨_, rfl⟩
  rw [← hm] at HK HS HC ⊢
  have HM := hid hm
  have m0 : 0 < m := by omega
  have m1 : (1 : Int) ≤ (m : Int) := by omega
  have m2 : 1 ≤ m := by omega
  clear ha hp hx hm
  go_enter Try.func18, Try.ntmps18
  go_wp2_with (first
    | (refine wpList_boxq (q := ⟨A, m, c, nx, nw, hz⟩) rfl (.tmp 0) rfl rfl ?_; intro w1 v1 b1 s1)
    | (refine wpList_alq rfl rfl ?_; intro w5 o5 b5 _; have v5 := v4.below2 b5; have r5 := r4.below2 b5; have t5 := t4.below2 b5; have B5 : Hid (Below w.heap.size w w5) := hid (B4.out.trans (b5.mono B4.out.size)))
    | (refine wpList_alq rfl rfl ?_; intro w2 r2 b2 s2; have v2 := v1.below b2 v1.lt; have B2 : Hid (Below w.heap.size w w2) := hid (b1.trans (b2.mono b1.size)))
    | (refine wpList_ali rfl rfl ?_; intro w8 i8 b8 _; have v8 := v7.below2 b8; have r8 := r7.below2 b8; have t8 := t7.below2 b8; have o8 := o7.below2 b8; have B8 : Hid (Below w.heap.size w w8) := hid (B7.out.trans (b8.mono B7.out.size)))
    | (refine wpList_ali rfl rfl ?_; intro w3 t3 b3 _; have v3 := v2.below2 b3; have r3 := r2.below2 b3; have B3 : Hid (Below w.heap.size w w3) := hid (B2.out.trans (b3.mono B2.out.size)))
    | (refine wpList_ldq rfl (.tmp 1) rfl rfl v6 ?_)
    | (refine wpList_ldq rfl (.tmp 1) rfl rfl v3 ?_)
    | (go_at_call 11; refine (HC.out w3 B3.out).mono ?_; rintro e w4 ⟨A4, c4, l4, rfl, rfl, q4⟩; have v4 := v3.below2 q4.2.2; have r4 := r3.below2 q4.2.2; have t4 := t3.below2 q4.2.2; have B4 : Hid (Below w.heap.size w w4) := hid (B3.out.trans (q4.2.2.mono B3.out.size)))
    | (refine wpList_svq rfl (.tmp 5) (.tmp 9) rfl rfl rfl o5 ?_; intro w6 o6 b6 _ _; have v6 := v5.below b6 v4.lt; have r6 := r5.below b6 r4.lt; have t6 := t5.below b6 t4.lt; have B6 : Hid (Below w.heap.size w w6) := hid (B5.out.trans (b6.mono B4.out.size)))
    | (go_at_call 20; refine (HK.out w6 B6.out).mono ?_; rintro e w7 ⟨rfl, b7⟩; have v7 := v6.below2 b7; have r7 := r6.below2 b7; have t7 := t6.below2 b7; have o7 := o6.below2 b7; have B7 : Hid (Below w.heap.size w w7) := hid (B6.out.trans (b7.mono B6.out.size)))
    | (refine wpList_svi (v := (x1, x2, x3, x4, x5, x6)) rfl (.tmp 6) (.tmp 13) rfl rfl rfl i8 ?_; intro w9 i9 b9 _ _; have v9 := v8.below b9 v7.lt; have r9 := r8.below b9 r7.lt; have t9 := t8.below b9 t7.lt; have o9 := o8.below b9 o7.lt; have B9 : Hid (Below w.heap.size w w9) := hid (B8.out.trans (b9.mono B7.out.size)); have z0 : w9.cell? ⟨w7.heap.size, 0, none⟩ = some (.int .i64 x1) := i9.c0; have z3 : w9.cell? ⟨w.heap.size, 3, none⟩ = some (.int .i64 hz) := v9.c3; have y0 : w9.cell? ⟨w.heap.size, 0, none⟩ = some (.slice A m c) := v9.c0)
    | (go_at_call 36; refine (HS.out w9 B9.out).mono ?_; rintro e w10 ⟨A10, c10, l10, rfl, h10, own10, b10⟩; obtain ⟨g10, rfl⟩ := own10.some m0; have hcap := own10.cap; have m3 : (m : Int) ≤ (c10 : Int) := (by omega); have m4 : 1 ≤ c10 := (by omega); have r10 := r9.below2 b10; have t10 := t9.below2 b10; have o10 := o9.below2 b10; have i10 := i9.below2 b10; have B10 : Hid (Below w.heap.size w w10) := hid (B9.out.trans (b10.mono B9.out.size)))
    | (refine wpList_sf0 rfl (.tmp 31) (.tmp 30) rfl rfl rfl o10 ?_; intro w11 o11 b11 oth11 _; have r11 := r10.other oth11 (by have := r4.lt; omega); have t11 := t10.other oth11 (by have := t4.lt; omega); have i11 := i10.other oth11 (by have := o7.lt; omega); have own11 := own10.other (w' := w11) (fun g hg => oth11 g (by have := o9.lt; omega)); have B11 : Hid (Below w.heap.size w w11) := hid (B10.out.trans (b11.mono B4.out.size)); have x0 : w11.cell? ⟨w7.heap.size, 0, none⟩ = some (.int .i64 x1) := i11.c0)
    | (refine wpList_sf2 rfl (.tmp 34) (.tmp 33) rfl rfl rfl o11 ?_; intro w12 o12 b12 oth12 _; have r12 := r11.other oth12 (by have := r4.lt; omega); have t12 := t11.other oth12 (by have := t4.lt; omega); have i12 := i11.other oth12 (by have := o7.lt; omega); have own12 := own11.other (w' := w12) (fun g hg => oth12 g (by have := o9.lt; omega)); have B12 : Hid (Below w.heap.size w w12) := hid (B11.out.trans (b12.mono B4.out.size))))
  all_goals
    obtain ⟨A', hA'⟩ : ∃ A', A' = (if c10 = 1 then some (⟨g10, 0, none⟩ : Addr) else some ⟨g10, 6, none⟩) := ⟨_, rfl⟩
    have rowX : Row w12 w12.heap.size A' (m - 1) ((l10.take m).drop 1) := by
      have h := own12.row.cut (l := 1) (r := m) (c := c10) m2 (Nat.le_refl _) hcap
      have e6 : (some (⟨g10, 0, none⟩ : Addr)).map (fun x => x.add (1 * 6)) = some ⟨g10, 6, none⟩ := by simp [plain_add]
      rw [e6] at h
      rw [hA']; exact h
    have newX : New w9.heap.size A' := fun b o e => by
      have hge := own10.ge.1
      rw [hA'] at e
      split at e
      all_goals
        injection e with e; injection e with e1 e2; omega
    rw [← hA'] at o12
    have hl : (l10.take m).drop 1 = (srt l4).tail := by rw [← h10, List.take_of_length_le (by rw [own10.len]; exact Nat.le_refl _), List.drop_one]
    have hk : m - 1 = k := by have := HM.out; omega
    rw [hl, hk] at rowX
    rw [hk] at o12
    generalize c10 - 1 = cX at o12
    obtain ⟨a0, a1, a2, a3⟩ := four_of o12
    obtain ⟨j0, j1, j2, j3, j4, j5⟩ := six_of i12.1
    obtain ⟨⟨u0, h0⟩, ⟨u1, h1⟩, ⟨u2, h2⟩, ⟨u3, h3⟩, ⟨u4, h4⟩, ⟨u5, h5⟩⟩ := six_there t12.2
    obtain ⟨f0, f1, f2, f3, f4, f5⟩ := six_frozen t12.2
    obtain ⟨⟨y0', k0⟩, ⟨y1, k1⟩, ⟨y2, k2⟩, ⟨y3, k3⟩⟩ : (∃ u, w12.cell? ⟨w1.heap.size, 0, none⟩ = some u) ∧ (∃ u, w12.cell? ⟨w1.heap.size, 1, none⟩ = some u) ∧ (∃ u, w12.cell? ⟨w1.heap.size, 2, none⟩ = some u) ∧ (∃ u, w12.cell? ⟨w1.heap.size, 3, none⟩ = some u) := ⟨⟨_, r12.c0⟩, ⟨_, r12.c1⟩, ⟨_, r12.c2⟩, ⟨_, r12.c3⟩⟩
    obtain ⟨q0, q1, q2, q3⟩ : w12.frozen? ⟨w1.heap.size, 0, none⟩ = false ∧ w12.frozen? ⟨w1.heap.size, 1, none⟩ = false ∧ w12.frozen? ⟨w1.heap.size, 2, none⟩ = false ∧ w12.frozen? ⟨w1.heap.size, 3, none⟩ = false := ⟨(r12.2 0 (by omega)).2, (r12.2 1 (by omega)).2, (r12.2 2 (by omega)).2, (r12.2 3 (by omega)).2⟩
    have RX := hid rowX
    have NX := hid newX
    have R9 := hid r12
    have T9 := hid t12
    have N1 : Hid (w.heap.size < w1.heap.size) := hid v1.lt
    have N2 : Hid (w1.heap.size < w2.heap.size) := hid r2.lt
    have N3 : Hid (w2.heap.size < w4.heap.size) := hid t4.lt
    have N4 : Hid (w4.heap.size < w7.heap.size) := hid o7.lt
    have N5 : Hid (w7.heap.size < w9.heap.size) := hid i9.lt
    have HB9 : Hid (w.heap.size ≤ w9.heap.size) := hid B9.out.size
    clear v1 v2 v3 v4 v5 v6 v7 v8 v9 r2 r3 r4 r5 r6 r7 r8 r9 r10 r11 r12 t3 t4 t5 t6 t7 t8 t9 t10 t11 t12 o5 o6 o7 o8 o9 o10 o11 o12 i8 i9 i10 i11 i12 own10 own11 own12 oth11 oth12 q4 z0 z3 y0 x0 B2 B3 B4 B5 B6 B7 B8 B9 B10 B11 HS HC HK b1 b2 b3 b5 b6 b7 b8 b9 b10 b11 b12 s1 s2 hA' h10 hl hk rowX newX m0 m1 m2 m3 m4 hcap
    generalize w7.heap.size = g6 at *
    generalize w4.heap.size = g5 at *
    generalize w2.heap.size = g3 at *
    generalize w1.heap.size = g2 at *
    generalize hG : w.heap.size = g1 at *
    have n1 : ¬ g5 = g2 := by have := N2.out; have := N3.out; omega
    have n2 : ¬ g5 = g3 := by have := N3.out; omega
    have n3 : ¬ g6 = g2 := by have := N2.out; have := N3.out; have := N4.out; omega
    have n4 : ¬ g6 = g3 := by have := N3.out; have := N4.out; omega
    have n5 : ¬ g2 = g3 := by have := N2.out; omega
    have n6 : ¬ g3 = g2 := by have := N2.out; omega
    go_region
    go_wp2_with fail
    have r10 := varq_stored R9.out.2 ⟨A', k, cX, nx, x1, hz⟩
    have o10 := setCells_oth g2 (encq ⟨A', k, cX, nx, x1, hz⟩) 0 w12
    have t10 := T9.out.other o10.2 n6
    have t11 := vari_stored t10.2 (x1, x2, x3, x4, x5, x6)
    have o11 := setCells_oth g3 (enc (x1, x2, x3, x4, x5, x6)) 0 (w12.setCells g2 0 (encq ⟨A', k, cX, nx, x1, hz⟩))
    have r11 := r10.other o11.2 n5
    have row11 := (RX.out.oth o10.2 (fun g o e => by have := NX.out g o e; have := N5.out; have := N4.out; have := N3.out; have := N2.out; omega)).oth o11.2 (fun g o e => by have := NX.out g o e; have := N5.out; have := N4.out; have := N3.out; omega)
    have b11 : Below g1 w ((w12.setCells g2 0 (encq ⟨A', k, cX, nx, x1, hz⟩)).setCells g3 0 (enc (x1, x2, x3, x4, x5, x6))) := B12.out.trans ((o10.1.mono (by have := N1.out; omega)).trans (o11.1.mono (by have := N1.out; have := N2.out; omega)))
    clear a0 a1 a2 a3 j0 j1 j2 j3 j4 j5 h0 h1 h2 h3 h4 h5 f0 f1 f2 f3 f4 f5 k0 k1 k2 k3 q0 q1 q2 q3
    generalize hV : (w12.setCells g2 0 (encq ⟨A', k, cX, nx, x1, hz⟩)).setCells g3 0 (enc (x1, x2, x3, x4, x5, x6)) = W at r11 t11 row11 b11
    simp only [World.setCells, encq, enc, Nat.reduceAdd] at hV
    rw [hV]
    clear hV o11 o10 t10 r10
    refine bodyPost_ret (w := W.drew) (results_qi1 Try.results18 _ rfl rfl r11.drew (show VarI W.drew _ _ from t11)) rfl ?_
    refine ⟨A', cX, (srt l4).tail, rfl, rfl, (show Row W.drew _ _ _ _ from row11.top), fun g o e => ?_, (show Below _ _ W.drew from ?_)⟩
    · have := NX.out g o e; have := HB9.out; omega
    · rw [hG]; exact b11.drew
end
end Go.Proofs.Ytpfidohneddgkaa
