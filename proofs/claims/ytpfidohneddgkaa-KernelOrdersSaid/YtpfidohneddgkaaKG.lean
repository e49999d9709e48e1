/-
  kernel.Cancel, kernel.New, kernel.Tidy, kernel.Step: what they tell. What is asked: at most 4096 things, whose numbers are of 64 bits.
-/
import Derived.Test.YtpfidohneddgkaaKF
import Derived.Deep.CutBlock
import Derived.Deep.RegionWith
import Derived.Deep.RegionHeld3
namespace Go.Proofs.Ytpfidohneddgkaa
open Go Go.RowKit Go.Maps
section
variable (A : Option Addr) (n c : Nat) (nx nw hz : Int) (B : Nat) (xs : List It) (w : World)
set_option maxRecDepth 100000 in
theorem cancel_bad (s : Int) (ha : Row w B A n xs) (hB : B ≤ w.heap.size) (hn : n ≤ 4096) (hs : ∀ x ∈ xs, 0 ≤ sq x ∧ sq x ≤ 18446744073709551615) (hok : okB nx nw hz xs = false) :
    Calls Try.prog 15 #[qv ⟨A, n, c, nx, nw, hz⟩, .int .u64 s] w (RetQ1 w n nx nw hz 1 (· = xs)) := by
  have HK := hid (fun w' hb => kcheck_any ⟨A, n, c, nx, nw, hz⟩ B xs w' (ha.below (w' := w') (Below.mono hb hB)) (Nat.le_trans hB hb.size) hn hs)
  rw [okE_bad hok] at HK
  have HA := hid ha
  clear ha hs hok
  go_enter Try.func15, Try.ntmps15
  go_wp2_with (first
    | (refine wpList_boxq (q := ⟨A, n, c, nx, nw, hz⟩) rfl (.tmp 0) rfl rfl ?_; intro w1 v1 b1 s1)
    | (refine wpList_alq rfl rfl ?_; intro w2 r2 b2 s2; have v2 := v1.below b2 v1.lt; have B2 : Hid (Below w.heap.size w w2) := hid (b1.trans (b2.mono b1.size)))
    | (refine wpList_ldq rfl (.tmp 2) rfl rfl v3 ?_)
    | (refine wpList_ldq rfl (.tmp 2) rfl rfl v2 ?_)
    | (go_at_call 27; refine (HK.out w2 B2.out).mono ?_; rintro e w3 ⟨rfl, b3⟩; have r3 := r2.below b3 r2.lt; have v3 := v2.below b3 v2.lt; have B3 : Hid (Below w.heap.size w w3) := hid (B2.out.trans (b3.mono B2.out.size)))
    | (go_at_call 32; refine (own_any A n c nx nw hz B xs w3 (HA.out.below (B3.out.mono hB)) (Nat.le_trans hB B3.out.size) hn).mono ?_; rintro e w4 ⟨A4, c4, l4, rfl, rfl, q4⟩; have r4 := r3.below q4.2.2 r3.lt; have B4 : Hid (Below w.heap.size w w4) := hid (B3.out.trans (q4.2.2.mono B3.out.size)))
    | (refine wpList_svq rfl (.tmp 4) (.tmp 15) rfl rfl rfl r4 ?_; intro w5 r5 b5 o5 _; have B5 : Hid (Below w.heap.size w w5) := hid (B4.out.trans (b5.mono b1.size))))
  refine bodyPost_ret (w := w5) (results_q1 Try.results15 _ rfl r5) rfl ?_
  exact ⟨A4, c4, l4, rfl, rfl, (q4.1.oth o5 (fun g o e => by have := q4.2.1 g o e; have := r3.lt; omega)).top, q4.2.1.le B3.out.size, B5.out⟩
set_option maxRecDepth 100000 in
theorem cancel_none (s : Int) (ha : Row w B A n xs) (hB : B ≤ w.heap.size) (hn : n ≤ 4096) (hs : ∀ x ∈ xs, 0 ≤ sq x ∧ sq x ≤ 18446744073709551615) (hok : okB nx nw hz xs = true) (hch : chk xs = true) (hno : NoSq xs s) :
    Calls Try.prog 15 #[qv ⟨A, n, c, nx, nw, hz⟩, .int .u64 s] w (RetQ1 w n nx nw hz 8 (· = xs)) := by
  have HK := hid (fun w' hb => kcheck_any ⟨A, n, c, nx, nw, hz⟩ B xs w' (ha.below (w' := w') (Below.mono hb hB)) (Nat.le_trans hB hb.size) hn hs)
  rw [okE_ok hok] at HK
  have HA := hid ha
  have HCH := hid hch
  have HNO := hid hno
  clear ha hs hok hch hno
  go_enter Try.func15, Try.ntmps15
  go_wp2_with (first
    | (refine wpList_boxq (q := ⟨A, n, c, nx, nw, hz⟩) rfl (.tmp 0) rfl rfl ?_; intro w1 v1 b1 s1)
    | (refine wpList_alq rfl rfl ?_; intro w2 r2 b2 s2; have v2 := v1.below b2 v1.lt; have B2 : Hid (Below w.heap.size w w2) := hid (b1.trans (b2.mono b1.size)))
    | (refine wpList_ldq rfl (.tmp 2) rfl rfl v6 ?_)
    | (refine wpList_ldq rfl (.tmp 2) rfl rfl v2 ?_)
    | (go_at_call 27; refine (HK.out w2 B2.out).mono ?_; rintro e w3 ⟨rfl, b3⟩; have r3 := r2.below b3 r2.lt; have v3 := v2.below b3 v2.lt; have B3 : Hid (Below w.heap.size w w3) := hid (B2.out.trans (b3.mono B2.out.size)); have c0 : w3.cell? ⟨w.heap.size, 0, none⟩ = some (.slice A n c) := v3.c0)
    | (go_at_call 38; refine (take_none A n c B xs s w3 (HA.out.below (B3.out.mono hB)) (Nat.le_trans hB B3.out.size) hn HCH.out HNO.out).mono ?_; rintro e w4 ⟨rfl, b4⟩; have r4 := r3.below b4 r3.lt; have v4 := v3.below b4 v3.lt; have B4 : Hid (Below w.heap.size w w4) := hid (B3.out.trans (b4.mono B3.out.size)))
    | (refine wpList_ali rfl rfl ?_; intro w5 i5 b5 s5; have r5 := r4.below b5 r4.lt; have v5 := v4.below b5 v4.lt; have B5 : Hid (Below w.heap.size w w5) := hid (B4.out.trans (b5.mono B4.out.size)))
    | (refine wpList_svi (v := zr) rfl (.tmp 7) (.tmp 22) rfl rfl rfl i5 ?_; intro w6 i6 b6 o6 _; have r6 := r5.below b6 r4.lt; have v6 := v5.below b6 v4.lt; have B6 : Hid (Below w.heap.size w w6) := hid (B5.out.trans (b6.mono B4.out.size)))
    | (go_at_call 32; refine (own_any A n c nx nw hz B xs w6 (HA.out.below (B6.out.mono hB)) (Nat.le_trans hB B6.out.size) hn).mono ?_; rintro e w7 ⟨A7, c7, l7, rfl, rfl, q7⟩; have r7 := r6.below q7.2.2 r6.lt; have B7 : Hid (Below w.heap.size w w7) := hid (B6.out.trans (q7.2.2.mono B6.out.size)))
    | (refine wpList_svq rfl (.tmp 4) (.tmp 28) rfl rfl rfl r7 ?_; intro w8 r8 b8 o8 _; have B8 : Hid (Below w.heap.size w w8) := hid (B7.out.trans (b8.mono b1.size))))
  refine bodyPost_ret (w := w8) (results_q1 Try.results15 _ rfl r8) rfl ?_
  exact ⟨A7, c7, l7, rfl, rfl, (q7.1.oth o8 (fun g o e => by have := q7.2.1 g o e; have := r6.lt; omega)).top, q7.2.1.le B6.out.size, B8.out⟩
set_option maxRecDepth 100000 in
theorem cancel_ok (k : Nat) (s : Int) (x0 : It) (ha : Row w B A (k + 1) xs) (hB : B ≤ w.heap.size) (hn : k < 4096) (hs : ∀ x ∈ xs, 0 ≤ sq x ∧ sq x ≤ 18446744073709551615) (hok : okB nx nw hz xs = true) (hh : Hp xs) (hx0 : Least xs s x0) :
    Calls Try.prog 15 #[qv ⟨A, k + 1, c, nx, nw, hz⟩, .int .u64 s] w (RetQ1 w k nx nw hz 0 (fun l => Hp l ∧ xs.Perm (x0 :: l))) := by
  have HK := hid (fun w' hb => kcheck_any ⟨A, k + 1, c, nx, nw, hz⟩ B xs w' (ha.below (w' := w') (Below.mono hb hB)) (Nat.le_trans hB hb.size) (by show k + 1 ≤ 4096; omega) hs)
  rw [okE_ok hok] at HK
  have HT := hid (fun w' hb => take_ok A k c B xs s x0 w' (ha.below (w' := w') (Below.mono hb hB)) (Nat.le_trans hB hb.size) hn hh hx0)
  clear ha hs hok hh hx0
  obtain ⟨m, hm⟩ : ∃ m, m = k + 1 := ⟨_, rfl⟩
  rw [← hm] at HK HT ⊢
  clear hm
  go_enter Try.func15, Try.ntmps15
  go_wp2_with (first
    | (refine wpList_boxq (q := ⟨A, m, c, nx, nw, hz⟩) rfl (.tmp 0) rfl rfl ?_; intro w1 v1 b1 s1)
    | (refine wpList_alq rfl rfl ?_; intro w2 r2 b2 s2; have v2 := v1.below b2 v1.lt; have B2 : Hid (Below w.heap.size w w2) := hid (b1.trans (b2.mono b1.size)))
    | (refine wpList_ldq rfl (.tmp 2) rfl rfl v7 ?_)
    | (refine wpList_ldq rfl (.tmp 2) rfl rfl v2 ?_)
    | (go_at_call 27; refine (HK.out w2 B2.out).mono ?_; rintro e w3 ⟨rfl, b3⟩; have r3 := r2.below b3 r2.lt; have v3 := v2.below b3 v2.lt; have B3 : Hid (Below w.heap.size w w3) := hid (B2.out.trans (b3.mono B2.out.size)); have c0 : w3.cell? ⟨w.heap.size, 0, none⟩ = some (.slice A m c) := v3.c0)
    | (go_at_call 38; refine (HT.out w3 B3.out).mono ?_; rintro e w4 ⟨A4, c4, l4, rfl, p4, own4, b4⟩; have r4 := r3.below b4 r3.lt; have v4 := v3.below b4 v3.lt; have B4 : Hid (Below w.heap.size w w4) := hid (B3.out.trans (b4.mono B3.out.size)))
    | (refine wpList_ali rfl rfl ?_; intro w5 i5 b5 s5; have r5 := r4.below b5 r4.lt; have v5 := v4.below b5 v4.lt; have own5 := own4.below b5; have B5 : Hid (Below w.heap.size w w5) := hid (B4.out.trans (b5.mono B4.out.size)))
    | (refine wpList_svi (v := x0) rfl (.tmp 7) (.tmp 22) rfl rfl rfl i5 ?_; intro w6 i6 b6 o6 _; have r6 := r5.below b6 r4.lt; have v6 := v5.below b6 v4.lt; have row6 := own4.row.below (b5.trans b6); have new4 := own4.new; have B6 : Hid (Below w.heap.size w w6) := hid (B5.out.trans (b6.mono B4.out.size)))
    | (refine wpList_sf0 rfl (.tmp 31) (.tmp 30) rfl rfl rfl v6 ?_; intro w7 v7 b7 o7 _; have r7 := r6.other o7 (by have := v1.lt; omega); have row7 := row6.oth o7 (fun g o e => by have := new4 g o e; have := v3.lt; omega); have B7 : Hid (Below w.heap.size w w7) := hid (B6.out.trans b7))
    | (refine wpList_svq rfl (.tmp 4) (.tmp 32) rfl rfl rfl r7 ?_; intro w8 r8 b8 o8 _; have row8 := row7.oth o8 (fun g o e => by have := new4 g o e; have := r3.lt; omega); have B8 : Hid (Below w.heap.size w w8) := hid (B7.out.trans (b8.mono b1.size))))
  refine bodyPost_ret (w := w8) (results_q1 Try.results15 _ rfl r8) rfl ?_
  exact ⟨A4, c4, l4, rfl, p4, row8.top, fun g o e => Nat.le_trans B3.out.size (new4 g o e), B8.out⟩
set_option maxRecDepth 100000 in
theorem new_any (ok : Bool) (hok : (timeB hz && decide (0 ≤ hz)) = ok) :
    Calls Try.prog 21 #[.int .i64 hz] w fun e w' => e = .returned (.tuple #[qv (if ok then ⟨none, 0, 0, 0, 0, hz⟩ else qz), .int .i64 (if ok then 0 else 1)]) ∧ Below w.heap.size w w' := by
  have HK := hid (fun w' => kcheck_any ⟨none, 0, 0, 0, 0, hz⟩ w'.heap.size [] w' (Row.nil _ _ _) (Nat.le_refl _) (Nat.zero_le _) (fun x hx => by cases hx))
  have he : okB 0 0 hz [] = ok := by rw [← hok]; simp [okB, timeB, chk, itemsB]
  cases ok with
  | true =>
    rw [okE_ok he] at HK
    clear hok he
    go_enter Try.func21, Try.ntmps21
    go_wp2_with (first
      | (refine wpList_alq rfl rfl ?_; intro w2 v2 b2 s2; have r2 := r1.below b2 r1.lt; have B2 : Hid (Below w.heap.size w w2) := hid (B1.out.trans (b2.mono B1.out.size)))
      | (refine wpList_alq rfl rfl ?_; intro w1 r1 b1 s1; have B1 : Hid (Below w.heap.size w w1) := hid b1)
      | (refine wpList_svq (q := ⟨none, 0, 0, 0, 0, hz⟩) rfl (.tmp 2) (.tmp 11) rfl rfl rfl r4 ?_; intro w5 r5 b5 o5 _; have B5 : Hid (Below w.heap.size w w5) := hid (B4.out.trans b5))
      | (refine wpList_svq (q := ⟨none, 0, 0, 0, 0, hz⟩) rfl (.tmp 4) (.tmp 6) rfl rfl rfl v2 ?_; intro w3 v3 b3 o3 _; have r3 := r2.below b3 r1.lt; have B3 : Hid (Below w.heap.size w w3) := hid (B2.out.trans (b3.mono B1.out.size)))
      | (refine wpList_ldq rfl (.tmp 4) rfl rfl v4 ?_)
      | (refine wpList_ldq rfl (.tmp 4) rfl rfl v3 ?_)
      | (go_at_call 27; refine (HK.out w3).mono ?_; rintro e w4 ⟨rfl, b4⟩; have r4 := r3.below b4 r3.lt; have v4 := v3.below b4 v3.lt; have B4 : Hid (Below w.heap.size w w4) := hid (B3.out.trans (b4.mono B3.out.size))))
    refine bodyPost_ret (w := w5) (results_q1 Try.results21 _ rfl r5) rfl ?_
    exact ⟨rfl, B5.out⟩
  | false =>
    rw [okE_bad he] at HK
    clear hok he
    go_enter Try.func21, Try.ntmps21
    go_wp2_with (first
      | (refine wpList_alq rfl rfl ?_; intro w2 v2 b2 s2; have r2 := r1.below b2 r1.lt; have B2 : Hid (Below w.heap.size w w2) := hid (B1.out.trans (b2.mono B1.out.size)))
      | (refine wpList_alq rfl rfl ?_; intro w1 r1 b1 s1; have B1 : Hid (Below w.heap.size w w1) := hid b1)
      | (refine wpList_svq (q := qz) rfl (.tmp 2) (.tmp 10) rfl rfl rfl r4 ?_; intro w5 r5 b5 o5 _; have B5 : Hid (Below w.heap.size w w5) := hid (B4.out.trans b5))
      | (refine wpList_svq (q := ⟨none, 0, 0, 0, 0, hz⟩) rfl (.tmp 4) (.tmp 6) rfl rfl rfl v2 ?_; intro w3 v3 b3 o3 _; have r3 := r2.below b3 r1.lt; have B3 : Hid (Below w.heap.size w w3) := hid (B2.out.trans (b3.mono B1.out.size)))
      | (refine wpList_ldq rfl (.tmp 4) rfl rfl v3 ?_)
      | (go_at_call 27; refine (HK.out w3).mono ?_; rintro e w4 ⟨rfl, b4⟩; have r4 := r3.below b4 r3.lt; have B4 : Hid (Below w.heap.size w w4) := hid (B3.out.trans (b4.mono B3.out.size))))
    refine bodyPost_ret (w := w5) (results_q1 Try.results21 _ rfl r5) rfl ?_
    exact ⟨rfl, B5.out⟩
set_option maxRecDepth 100000 in
theorem tidy_any (ok : Bool) (ha : Row w B A n xs) (hB : B ≤ w.heap.size) (hn : n ≤ 4096) (hs : ∀ x ∈ xs, 0 ≤ sq x ∧ sq x ≤ 18446744073709551615) (hok : okB nx nw hz xs = ok) :
    Calls Try.prog 25 #[qv ⟨A, n, c, nx, nw, hz⟩] w (RetQ w n nx nw hz (· = if ok then srt xs else xs)) := by
  have HK := hid (fun w' hb => kcheck_any ⟨A, n, c, nx, nw, hz⟩ B xs w' (ha.below (w' := w') (Below.mono hb hB)) (Nat.le_trans hB hb.size) hn hs)
  have HA := hid ha
  cases ok with
  | false =>
    rw [okE_bad hok] at HK
    clear ha hs hok
    go_enter Try.func25, Try.ntmps25
    go_wp2_with (first
      | (refine wpList_boxq (q := ⟨A, n, c, nx, nw, hz⟩) rfl (.tmp 0) rfl rfl ?_; intro w1 v1 b1 s1)
      | (refine wpList_alq rfl rfl ?_; intro w2 r2 b2 s2; have v2 := v1.below b2 v1.lt; have B2 : Hid (Below w.heap.size w w2) := hid (b1.trans (b2.mono b1.size)))
      | (refine wpList_ldq rfl (.tmp 1) rfl rfl v3 ?_)
      | (refine wpList_ldq rfl (.tmp 1) rfl rfl v2 ?_)
      | (go_at_call 27; refine (HK.out w2 B2.out).mono ?_; rintro e w3 ⟨rfl, b3⟩; have r3 := r2.below b3 r2.lt; have v3 := v2.below b3 v2.lt; have B3 : Hid (Below w.heap.size w w3) := hid (B2.out.trans (b3.mono B2.out.size)))
      | (go_at_call 32; refine (own_any A n c nx nw hz B xs w3 (HA.out.below (B3.out.mono hB)) (Nat.le_trans hB B3.out.size) hn).mono ?_; rintro e w4 ⟨A4, c4, l4, rfl, rfl, q4⟩; have r4 := r3.below q4.2.2 r3.lt; have B4 : Hid (Below w.heap.size w w4) := hid (B3.out.trans (q4.2.2.mono B3.out.size)))
      | (refine wpList_svq rfl (.tmp 2) (.tmp 7) rfl rfl rfl r4 ?_; intro w5 r5 b5 o5 _; have B5 : Hid (Below w.heap.size w w5) := hid (B4.out.trans (b5.mono b1.size))))
    refine bodyPost_ret (w := w5) (results_q Try.results25 _ rfl r5) rfl ?_
    exact ⟨A4, c4, l4, rfl, rfl, (q4.1.oth o5 (fun g o e => by have := q4.2.1 g o e; have := r3.lt; omega)).top, q4.2.1.le B3.out.size, B5.out⟩
  | true =>
    rw [okE_ok hok] at HK
    clear ha hs hok
    go_enter Try.func25, Try.ntmps25
    go_wp2_with (first
      | (refine wpList_boxq (q := ⟨A, n, c, nx, nw, hz⟩) rfl (.tmp 0) rfl rfl ?_; intro w1 v1 b1 s1)
      | (refine wpList_alq rfl rfl ?_; intro w2 r2 b2 s2; have v2 := v1.below b2 v1.lt; have B2 : Hid (Below w.heap.size w w2) := hid (b1.trans (b2.mono b1.size)))
      | (refine wpList_ldq rfl (.tmp 1) rfl rfl v5 ?_)
      | (refine wpList_ldq rfl (.tmp 1) rfl rfl v2 ?_)
      | (go_at_call 27; refine (HK.out w2 B2.out).mono ?_; rintro e w3 ⟨rfl, b3⟩; have r3 := r2.below b3 r2.lt; have v3 := v2.below b3 v2.lt; have B3 : Hid (Below w.heap.size w w3) := hid (B2.out.trans (b3.mono B2.out.size)); have c0 : w3.cell? ⟨w.heap.size, 0, none⟩ = some (.slice A n c) := v3.c0)
      | (go_at_call 41; refine (sorted_any A n c B xs w3 (HA.out.below (B3.out.mono hB)) (Nat.le_trans hB B3.out.size) (by omega)).mono ?_; rintro e w4 ⟨A4, c4, l4, rfl, rfl, own4, b4⟩; have r4 := r3.below b4 r3.lt; have v4 := v3.below b4 v3.lt; have B4 : Hid (Below w.heap.size w w4) := hid (B3.out.trans (b4.mono B3.out.size)))
      | (refine wpList_sf0 rfl (.tmp 11) (.tmp 10) rfl rfl rfl v4 ?_; intro w5 v5 b5 o5 _; have r5 := r4.other o5 (by have := v1.lt; omega); have B5 : Hid (Below w.heap.size w w5) := hid (B4.out.trans b5); have own5 := own4.other (w' := w5) (fun g hg => o5 g (by have := v3.lt; omega)))
      | (refine wpList_svq rfl (.tmp 2) (.tmp 12) rfl rfl rfl r5 ?_; intro w6 r6 b6 o6 _; have B6 : Hid (Below w.heap.size w w6) := hid (B5.out.trans (b6.mono b1.size)); have own6 := own5.other (w' := w6) (fun g hg => o6 g (by have := r3.lt; omega))))
    refine bodyPost_ret (w := w6) (results_q Try.results25 _ rfl r6) rfl ?_
    exact ⟨A4, c4, _, rfl, rfl, (own6.base_le B3.out.size).qr B6.out⟩
end
end Go.Proofs.Ytpfidohneddgkaa
