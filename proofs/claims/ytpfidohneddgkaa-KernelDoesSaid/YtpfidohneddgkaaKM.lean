/-
  The document's own Peek, Cancel, and Post (where it has an error): what they tell. What is asked: fewer than 4096 things; the slice's length is no more than its capacity.
-/
import Derived.Test.YtpfidohneddgkaaKK
namespace Go.Proofs.Ytpfidohneddgkaa
open Go Go.RowKit Go.Maps
section
variable (A : Option Addr) (n c : Nat) (nx nw hz : Int) (B : Nat) (xs : List It) (w : World)
theorem rpeek_bad (ha : Row w B A n xs) (hB : B ≤ w.heap.size) (hn : n ≤ 4096) (hnc : n ≤ c) (hok : okB nx nw hz xs = false) :
    Calls Try.prog 20 #[qv ⟨A, n, c, nx, nw, hz⟩] w (RetI w zr 1) := by
  have HK := hid (fun w' hb => rcheck_any A n c nx nw hz B xs w' (ha.below (w' := w') (Below.mono hb hB)) (Nat.le_trans hB hb.size) hn hnc)
  rw [okE_bad hok] at HK
  clear ha hok
  go_enter Try.func20, Try.ntmps20
  go_wp2_with (first
    | (refine wpList_boxq (q := ⟨A, n, c, nx, nw, hz⟩) rfl (.tmp 0) rfl rfl ?_; intro w1 v1 b1 s1)
    | (refine wpList_ali rfl rfl ?_; intro w2 r2 b2 s2; have v2 := v1.below b2 v1.lt; have B2 : Hid (Below w.heap.size w w2) := hid (b1.trans (b2.mono b1.size)))
    | (refine wpList_ldq rfl (.tmp 1) rfl rfl v2 ?_)
    | (go_at_call 28; refine (HK.out w2 B2.out).mono ?_; rintro e w3 ⟨rfl, b3⟩; have r3 := r2.below b3 r2.lt; have B3 : Hid (Below w.heap.size w w3) := hid (B2.out.trans (b3.mono B2.out.size)))
    | (refine wpList_svi (v := zr) rfl (.tmp 2) (.tmp 7) rfl rfl rfl r3 ?_; intro w5 r5 b5 o5 _; have B5 : Hid (Below w.heap.size w w5) := hid (B3.out.trans (b5.mono b1.size))))
  refine bodyPost_ret (w := w5) (results_i1 Try.results20 _ rfl r5) rfl ?_
  exact ⟨rfl, B5.out⟩
theorem rpeek_none (hok : okB nx nw hz [] = true) :
    Calls Try.prog 20 #[qv ⟨A, 0, c, nx, nw, hz⟩] w (RetI w zr 8) := by
  have HK := hid (fun w' => rcheck_any A 0 c nx nw hz w'.heap.size [] w' (Row.nil _ _ _) (Nat.le_refl _) (Nat.zero_le _) (Nat.zero_le _))
  rw [okE_ok hok] at HK
  clear hok
  go_enter Try.func20, Try.ntmps20
  go_wp2_with (first
    | (refine wpList_boxq (q := ⟨A, 0, c, nx, nw, hz⟩) rfl (.tmp 0) rfl rfl ?_; intro w1 v1 b1 s1)
    | (refine wpList_ali rfl rfl ?_; intro w2 r2 b2 s2; have v2 := v1.below b2 v1.lt; have B2 : Hid (Below w.heap.size w w2) := hid (b1.trans (b2.mono b1.size)))
    | (refine wpList_ldq rfl (.tmp 1) rfl rfl v2 ?_)
    | (go_at_call 28; refine (HK.out w2).mono ?_; rintro e w3 ⟨rfl, b3⟩; have r3 := r2.below b3 r2.lt; have v3 := v2.below b3 v2.lt; have B3 : Hid (Below w.heap.size w w3) := hid (B2.out.trans (b3.mono B2.out.size)); have c0 : w3.cell? ⟨w.heap.size, 0, none⟩ = some (.slice A (0 : Nat) c) := v3.c0)
    | (refine wpList_svi (v := zr) rfl (.tmp 2) (.tmp 12) rfl rfl rfl r3 ?_; intro w5 r5 b5 o5 _; have B5 : Hid (Below w.heap.size w w5) := hid (B3.out.trans (b5.mono b1.size))))
  refine bodyPost_ret (w := w5) (results_i1 Try.results20 _ rfl r5) rfl ?_
  exact ⟨rfl, B5.out⟩
theorem rpeek_ok (x : It) (ha : Row w B A n xs) (hB : B ≤ w.heap.size) (hn : n ≤ 4096) (hnc : n ≤ c) (hok : okB nx nw hz xs = true) (hn0 : 0 < n) (hx : nth (srt xs) 0 = x) :
    Calls Try.prog 20 #[qv ⟨A, n, c, nx, nw, hz⟩] w (RetI w x 0) := by
  have HK := hid (fun w' hb => rcheck_any A n c nx nw hz B xs w' (ha.below (w' := w') (Below.mono hb hB)) (Nat.le_trans hB hb.size) hn hnc)
  rw [okE_ok hok] at HK
  have HS := hid (fun w' (hb : Below w.heap.size w w') => refsorted_any A n c B xs w' (ha.below (Below.mono hb hB)) (Nat.le_trans hB hb.size) (by omega))
  have hd : ((n : Int) == 0) = false := by simp; omega
  have i2 : (0 : Int) < (n : Int) := by omega
  have HX := hid hx
  clear ha hok hx
  go_enter Try.func20, Try.ntmps20
  go_wp2_with (first
    | (refine wpList_boxq (q := ⟨A, n, c, nx, nw, hz⟩) rfl (.tmp 0) rfl rfl ?_; intro w1 v1 b1 s1)
    | (refine wpList_ali rfl rfl ?_; intro w2 r2 b2 s2; have v2 := v1.below b2 v1.lt; have B2 : Hid (Below w.heap.size w w2) := hid (b1.trans (b2.mono b1.size)))
    | (refine wpList_ldq rfl (.tmp 1) rfl rfl v2 ?_)
    | (go_at_call 28; refine (HK.out w2 B2.out).mono ?_; rintro e w3 ⟨rfl, b3⟩; have r3 := r2.below b3 r2.lt; have v3 := v2.below b3 v2.lt; have B3 : Hid (Below w.heap.size w w3) := hid (B2.out.trans (b3.mono B2.out.size)); have c0 : w3.cell? ⟨w.heap.size, 0, none⟩ = some (.slice A n c) := v3.c0)
    | (go_at_call 36; refine (HS.out w3 B3.out).mono ?_; rintro e w4 ⟨A4, c4, l4, rfl, h4, own4, b4⟩; obtain ⟨g4, rfl⟩ := own4.some hn0; have rg := own4.range (k := 0) hn0; rw [h4, HX.out, Nat.zero_mul] at rg; have r4 := r3.below2 b4; have B4 : Hid (Below w.heap.size w w4) := hid (B3.out.trans (b4.mono B3.out.size)))
    | (refine wpList_ld rfl (.tmp 16) rfl rfl rg ?_)
    | (refine wpList_svi (v := x) rfl (.tmp 2) (.tmp 17) rfl rfl rfl r4 ?_; intro w5 r5 b5 o5 _; have B5 : Hid (Below w.heap.size w w5) := hid (B4.out.trans (b5.mono b1.size))))
  refine bodyPost_ret (w := w5) (results_i1 Try.results20 _ rfl r5) rfl ?_
  exact ⟨rfl, B5.out⟩

set_option maxRecDepth 100000 in
theorem rcancel_bad (s : Int) (ha : Row w B A n xs) (hB : B ≤ w.heap.size) (hn : n ≤ 4096) (hnc : n ≤ c) (hok : okB nx nw hz xs = false) :
    Calls Try.prog 16 #[qv ⟨A, n, c, nx, nw, hz⟩, .int .u64 s] w (RetQ1 w n nx nw hz 1 (· = xs)) := by
  have HK := hid (fun w' hb => rcheck_any A n c nx nw hz B xs w' (ha.below (w' := w') (Below.mono hb hB)) (Nat.le_trans hB hb.size) hn hnc)
  rw [okE_bad hok] at HK
  have HA := hid ha
  clear ha hok
  go_enter Try.func16, Try.ntmps16
  go_wp2_with (first
    | (refine wpList_boxq (q := ⟨A, n, c, nx, nw, hz⟩) rfl (.tmp 0) rfl rfl ?_; intro w1 v1 b1 s1)
    | (refine wpList_alq rfl rfl ?_; intro w4 o4 b4 _; have v4 := v3.below2 b4; have r4 := r3.below2 b4; have row4 := q3.1.below b4; have B4 : Hid (Below w.heap.size w w4) := hid (B3.out.trans (b4.mono B3.out.size)))
    | (refine wpList_alq rfl rfl ?_; intro w2 r2 b2 s2; have v2 := v1.below b2 v1.lt; have B2 : Hid (Below w.heap.size w w2) := hid (b1.trans (b2.mono b1.size)))
    | (refine wpList_ldq rfl (.tmp 2) rfl rfl v5 ?_)
    | (refine wpList_ldq rfl (.tmp 2) rfl rfl v2 ?_)
    | (go_at_call 11; refine (copy_any A n c nx nw hz B xs w2 (HA.out.below (B2.out.mono hB)) (Nat.le_trans hB B2.out.size) hn).mono ?_; rintro e w3 ⟨A3, c3, l3, rfl, rfl, q3⟩; have v3 := v2.below2 q3.2.2; have r3 := r2.below2 q3.2.2; have B3 : Hid (Below w.heap.size w w3) := hid (B2.out.trans (q3.2.2.mono B2.out.size)))
    | (refine wpList_svq rfl (.tmp 6) (.tmp 11) rfl rfl rfl o4 ?_; intro w5 o5 b5 _ _; have v5 := v4.below b5 v3.lt; have r5 := r4.below b5 r3.lt; have row5 := row4.below b5; have B5 : Hid (Below w.heap.size w w5) := hid (B4.out.trans (b5.mono B3.out.size)); have Z5 : Hid (w3.heap.size ≤ w5.heap.size) := hid (Nat.le_trans b4.size b5.size))
    | (go_at_call 28; refine (HK.out w5 B5.out).mono ?_; rintro e w6 ⟨rfl, b6⟩; have r6 := r5.below2 b6; have o6 := o5.below2 b6; have row6 := row5.below (b6.mono Z5.out); have B6 : Hid (Below w.heap.size w w6) := hid (B5.out.trans (b6.mono B5.out.size)))
    | (refine wpList_ldq rfl (.tmp 6) rfl rfl o6 ?_)
    | (refine wpList_svq rfl (.tmp 4) (.tmp 15) rfl rfl rfl r6 ?_; intro w7 r7 b7 oth7 _; have B7 : Hid (Below w.heap.size w w7) := hid (B6.out.trans (b7.mono b1.size))))
  refine bodyPost_ret (w := w7) (results_q1 Try.results16 _ rfl r7) rfl ?_
  exact ⟨A3, c3, l3, rfl, rfl, (row6.oth oth7 (fun g o e => by have := q3.2.1 g o e; have := r2.lt; omega)).top, q3.2.1.le B2.out.size, B7.out⟩
set_option maxRecDepth 100000 in
theorem rcancel_none (s : Int) (ha : Row w B A n xs) (hB : B ≤ w.heap.size) (hn : n ≤ 4096) (hnc : n ≤ c) (hok : okB nx nw hz xs = true) (hno : NoSq (srt xs) s) :
    Calls Try.prog 16 #[qv ⟨A, n, c, nx, nw, hz⟩, .int .u64 s] w (RetQ1 w n nx nw hz 8 (· = xs)) := by
  have HK := hid (fun w' hb => rcheck_any A n c nx nw hz B xs w' (ha.below (w' := w') (Below.mono hb hB)) (Nat.le_trans hB hb.size) hn hnc)
  rw [okE_ok hok] at HK
  have HT := hid (fun w' (hb : Below w.heap.size w w') => reftake_none A n c B xs s w' (ha.below (Below.mono hb hB)) (Nat.le_trans hB hb.size) hn (ok_chk hok) hno)
  have HA := hid ha
  clear ha hok hno
  go_enter Try.func16, Try.ntmps16
  go_wp2_with (first
    | (refine wpList_boxq (q := ⟨A, n, c, nx, nw, hz⟩) rfl (.tmp 0) rfl rfl ?_; intro w1 v1 b1 s1)
    | (refine wpList_alq rfl rfl ?_; intro w4 o4 b4 _; have v4 := v3.below2 b4; have r4 := r3.below2 b4; have row4 := q3.1.below b4; have B4 : Hid (Below w.heap.size w w4) := hid (B3.out.trans (b4.mono B3.out.size)))
    | (refine wpList_alq rfl rfl ?_; intro w2 r2 b2 s2; have v2 := v1.below b2 v1.lt; have B2 : Hid (Below w.heap.size w w2) := hid (b1.trans (b2.mono b1.size)))
    | (refine wpList_ldq rfl (.tmp 2) rfl rfl v5 ?_)
    | (refine wpList_ldq rfl (.tmp 2) rfl rfl v2 ?_)
    | (go_at_call 11; refine (copy_any A n c nx nw hz B xs w2 (HA.out.below (B2.out.mono hB)) (Nat.le_trans hB B2.out.size) hn).mono ?_; rintro e w3 ⟨A3, c3, l3, rfl, rfl, q3⟩; have v3 := v2.below2 q3.2.2; have r3 := r2.below2 q3.2.2; have B3 : Hid (Below w.heap.size w w3) := hid (B2.out.trans (q3.2.2.mono B2.out.size)))
    | (refine wpList_svq rfl (.tmp 6) (.tmp 11) rfl rfl rfl o4 ?_; intro w5 o5 b5 _ _; have v5 := v4.below b5 v3.lt; have r5 := r4.below b5 r3.lt; have row5 := row4.below b5; have B5 : Hid (Below w.heap.size w w5) := hid (B4.out.trans (b5.mono B3.out.size)); have Z5 : Hid (w3.heap.size ≤ w5.heap.size) := hid (Nat.le_trans b4.size b5.size))
    | (go_at_call 28; refine (HK.out w5 B5.out).mono ?_; rintro e w6 ⟨rfl, b6⟩; have v6 := v5.below2 b6; have r6 := r5.below2 b6; have o6 := o5.below2 b6; have row6 := row5.below (b6.mono Z5.out); have B6 : Hid (Below w.heap.size w w6) := hid (B5.out.trans (b6.mono B5.out.size)); have Z6 : Hid (w3.heap.size ≤ w6.heap.size) := hid (Nat.le_trans Z5.out b6.size); have c0 : w6.cell? ⟨w.heap.size, 0, none⟩ = some (.slice A n c) := v6.c0)
    | (go_at_call 39; refine (HT.out w6 B6.out).mono ?_; rintro e w7 ⟨rfl, b7⟩; have r7 := r6.below2 b7; have o7 := o6.below2 b7; have row7 := row6.below (b7.mono Z6.out); have B7 : Hid (Below w.heap.size w w7) := hid (B6.out.trans (b7.mono B6.out.size)); have Z7 : Hid (w3.heap.size ≤ w7.heap.size) := hid (Nat.le_trans Z6.out b7.size))
    | (refine wpList_ali rfl rfl ?_; intro w8 i8 b8 _; have r8 := r7.below2 b8; have o8 := o7.below2 b8; have row8 := row7.below (b8.mono Z7.out); have B8 : Hid (Below w.heap.size w w8) := hid (B7.out.trans (b8.mono B7.out.size)))
    | (refine wpList_svi (v := zr) rfl (.tmp 7) (.tmp 21) rfl rfl rfl i8 ?_; intro w9 i9 b9 _ _; have r9 := r8.below b9 r7.lt; have o9 := o8.below b9 o7.lt; have row9 := row8.below (b9.mono Z7.out); have B9 : Hid (Below w.heap.size w w9) := hid (B8.out.trans (b9.mono B7.out.size)))
    | (refine wpList_ldq rfl (.tmp 6) rfl rfl o9 ?_)
    | (refine wpList_svq rfl (.tmp 4) (.tmp 26) rfl rfl rfl r9 ?_; intro w10 r10 b10 oth10 _; have B10 : Hid (Below w.heap.size w w10) := hid (B9.out.trans (b10.mono b1.size))))
  refine bodyPost_ret (w := w10) (results_q1 Try.results16 _ rfl r10) rfl ?_
  exact ⟨A3, c3, l3, rfl, rfl, (row9.oth oth10 (fun g o e => by have := q3.2.1 g o e; have := r2.lt; omega)).top, q3.2.1.le B2.out.size, B10.out⟩
set_option maxRecDepth 100000 in
theorem rcancel_ok (k i : Nat) (s : Int) (ha : Row w B A (k + 1) xs) (hB : B ≤ w.heap.size) (hn : k < 4096) (hnc : k + 1 ≤ c) (hok : okB nx nw hz xs = true) (hi : First (srt xs) s i) :
    Calls Try.prog 16 #[qv ⟨A, k + 1, c, nx, nw, hz⟩, .int .u64 s] w (RetQ1 w k nx nw hz 0 (· = (srt xs).take i ++ (srt xs).drop (i + 1))) := by
  have HK := hid (fun w' hb => rcheck_any A (k + 1) c nx nw hz B xs w' (ha.below (w' := w') (Below.mono hb hB)) (Nat.le_trans hB hb.size) (by omega) hnc)
  rw [okE_ok hok] at HK
  have HT := hid (fun w' (hb : Below w.heap.size w w') => reftake_ok A k c B i xs s w' (ha.below (Below.mono hb hB)) (Nat.le_trans hB hb.size) hn (ok_chk hok) hi)
  have HC := hid (fun w' (hb : Below w.heap.size w w') => copy_any A (k + 1) c nx nw hz B xs w' (ha.below (Below.mono hb hB)) (Nat.le_trans hB hb.size) (by omega))
  clear ha hok hi
  obtain ⟨m, hm⟩ : ∃ m, m = k + 1 := ⟨_, rfl⟩
  rw [← hm] at HK HT HC ⊢
  obtain ⟨L, hL⟩ : ∃ L, L = (srt xs).take i ++ (srt xs).drop (i + 1) := ⟨_, rfl⟩
  rw [← hL] at HT ⊢
  generalize nth (srt xs) i = x0 at *
  clear hm hL
  go_enter Try.func16, Try.ntmps16
  go_wp2_with (first
    | (refine wpList_boxq (q := ⟨A, m, c, nx, nw, hz⟩) rfl (.tmp 0) rfl rfl ?_; intro w1 v1 b1 s1)
    | (refine wpList_alq rfl rfl ?_; intro w4 o4 b4 _; have v4 := v3.below2 b4; have r4 := r3.below2 b4; have B4 : Hid (Below w.heap.size w w4) := hid (B3.out.trans (b4.mono B3.out.size)))
    | (refine wpList_alq rfl rfl ?_; intro w2 r2 b2 s2; have v2 := v1.below b2 v1.lt; have B2 : Hid (Below w.heap.size w w2) := hid (b1.trans (b2.mono b1.size)))
    | (refine wpList_ldq rfl (.tmp 2) rfl rfl v5 ?_)
    | (refine wpList_ldq rfl (.tmp 2) rfl rfl v2 ?_)
    | (go_at_call 11; refine (HC.out w2 B2.out).mono ?_; rintro e w3 ⟨A3, c3, l3, rfl, rfl, q3⟩; have v3 := v2.below2 q3.2.2; have r3 := r2.below2 q3.2.2; have B3 : Hid (Below w.heap.size w w3) := hid (B2.out.trans (q3.2.2.mono B2.out.size)))
    | (refine wpList_svq rfl (.tmp 6) (.tmp 11) rfl rfl rfl o4 ?_; intro w5 o5 b5 _ _; have v5 := v4.below b5 v3.lt; have r5 := r4.below b5 r3.lt; have B5 : Hid (Below w.heap.size w w5) := hid (B4.out.trans (b5.mono B3.out.size)))
    | (go_at_call 28; refine (HK.out w5 B5.out).mono ?_; rintro e w6 ⟨rfl, b6⟩; have v6 := v5.below2 b6; have r6 := r5.below2 b6; have o6 := o5.below2 b6; have B6 : Hid (Below w.heap.size w w6) := hid (B5.out.trans (b6.mono B5.out.size)); have c0 : w6.cell? ⟨w.heap.size, 0, none⟩ = some (.slice A m c) := v6.c0)
    | (go_at_call 39; refine (HT.out w6 B6.out).mono ?_; rintro e w7 ⟨A7, c7, rfl, row7, new7, b7⟩; have r7 := r6.below2 b7; have o7 := o6.below2 b7; have B7 : Hid (Below w.heap.size w w7) := hid (B6.out.trans (b7.mono B6.out.size)))
    | (refine wpList_ali rfl rfl ?_; intro w8 i8 b8 _; have r8 := r7.below2 b8; have o8 := o7.below2 b8; have row8 := row7.below b8; have B8 : Hid (Below w.heap.size w w8) := hid (B7.out.trans (b8.mono B7.out.size)))
    | (refine wpList_svi (v := x0) rfl (.tmp 7) (.tmp 21) rfl rfl rfl i8 ?_; intro w9 i9 b9 _ _; have r9 := r8.below b9 r7.lt; have o9 := o8.below b9 o7.lt; have row9 := row8.below b9; have B9 : Hid (Below w.heap.size w w9) := hid (B8.out.trans (b9.mono B7.out.size)))
    | (refine wpList_sf0 rfl (.tmp 29) (.tmp 28) rfl rfl rfl o9 ?_; intro w10 o10 b10 oth10 _; have r10 := r9.other oth10 (by have := r2.lt; have := q3.2.2.size; omega); have row10 := row9.oth oth10 (fun g o e => by have := new7 g o e; have := o6.lt; omega); have B10 : Hid (Below w.heap.size w w10) := hid (B9.out.trans (b10.mono B3.out.size)))
    | (refine wpList_ldq rfl (.tmp 6) rfl rfl o10 ?_)
    | (refine wpList_svq rfl (.tmp 4) (.tmp 30) rfl rfl rfl r10 ?_; intro w11 r11 b11 oth11 _; have row11 := row10.oth oth11 (fun g o e => by have := new7 g o e; have := r6.lt; omega); have B11 : Hid (Below w.heap.size w w11) := hid (B10.out.trans (b11.mono b1.size))))
  refine bodyPost_ret (w := w11) (results_q1 Try.results16 _ rfl r11) rfl ?_
  exact ⟨A7, c7, L, rfl, rfl, row11.top, fun g o e => Nat.le_trans B6.out.size (new7 g o e), B11.out⟩
end
end Go.Proofs.Ytpfidohneddgkaa
