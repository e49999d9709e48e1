/-
  kernel.refusal, kernel.Post, kernel.Cancel, kernel.Step, kernel.New, kernel.Tidy: what they tell. What is asked: fewer than 4096 things, whose numbers are of 64 bits.
-/
import Derived.Test.YtpfidohneddgkaaKE
import Derived.Test.YtpfidohneddgkaaY
namespace Go.Proofs.Ytpfidohneddgkaa
open Go Go.RowKit Go.Maps

/-- Why something is not posted. -/
def postE (nx nw hz : Int) (xs : List It) (at_ cl : Int) : Int :=
  if okB nx nw hz xs then (if fitB at_ cl then (if at_ < nw then 2 else if nx = 18446744073709551615 then 7 else 0) else 1) else 1
section
variable (A : Option Addr) (n c : Nat) (nx nw hz : Int) (B : Nat) (xs : List It) (w : World)
set_option maxRecDepth 100000 in
set_option maxHeartbeats 1000000 in
theorem refusal_any (at_ cl : Int) (ha : Row w B A n xs) (hB : B ≤ w.heap.size) (hn : n < 4096) (hs : ∀ x ∈ xs, 0 ≤ sq x ∧ sq x ≤ 18446744073709551615) :
    Calls Try.prog 31 #[qv ⟨A, n, c, nx, nw, hz⟩, .int .i64 at_, .int .i64 cl] w fun e w' => e = .returned (.int .i64 (postE nx nw hz xs at_ cl)) ∧ Below w.heap.size w w' := by
  have HK := hid (fun w' hb => kcheck_any ⟨A, n, c, nx, nw, hz⟩ B xs w' (ha.below (w' := w') (Below.mono hb hB)) (Nat.le_trans hB hb.size) (by show n ≤ 4096; omega) hs)
  have hd : ((n : Int) == 4096) = false := by simp; omega
  have HF := hid (fun w => fits_any at_ cl w)
  cases hok : okB nx nw hz xs with
  | false =>
    rw [okE_bad hok] at HK
    have HE : Hid (postE nx nw hz xs at_ cl = 1) := hid (by unfold postE; rw [hok]; rfl)
    clear ha hs hok
    go_enter Try.func31, Try.ntmps31
    go_wp2_with (first
      | (refine wpList_boxq (q := ⟨A, n, c, nx, nw, hz⟩) rfl (.tmp 0) rfl rfl ?_; intro w1 v1 b1 s1)
      | (refine wpList_ldq rfl (.tmp 3) rfl rfl v1 ?_)
      | (go_at_call 27; refine (HK.out w1 b1).mono ?_; rintro e w3 ⟨rfl, b3⟩; have B3 : Hid (Below w.heap.size w w3) := hid (b1.trans (b3.mono b1.size))))
    go_ret
    exact ⟨ret_int HE.out.symm, B3.out⟩
  | true =>
    rw [okE_ok hok] at HK
    have HE : Hid (postE nx nw hz xs at_ cl = (if fitB at_ cl then (if at_ < nw then 2 else if nx = 18446744073709551615 then 7 else 0) else 1)) := hid (by unfold postE; rw [hok]; rfl)
    clear ha hs hok
    generalize fitB at_ cl = F at *
    go_enter Try.func31, Try.ntmps31
    go_wp2_with (first
      | (refine wpList_boxq (q := ⟨A, n, c, nx, nw, hz⟩) rfl (.tmp 0) rfl rfl ?_; intro w1 v1 b1 s1)
      | (refine wpList_ldq rfl (.tmp 3) rfl rfl v1 ?_)
      | (go_at_call 27; refine (HK.out w1 b1).mono ?_; rintro e w3 ⟨rfl, b3⟩; have B3 : Hid (Below w.heap.size w w3) := hid (b1.trans (b3.mono b1.size)); have v3 := v1.below b3 v1.lt)
      | (go_at_call 46; refine (HF.out w3).mono ?_; rintro e w4 ⟨rfl, b4⟩; have B4 : Hid (Below w.heap.size w w4) := hid (B3.out.trans (b4.mono B3.out.size)); have v4 := v3.below b4 v3.lt; have c0 : w4.cell? ⟨w.heap.size, 0, none⟩ = some (.slice A n c) := v4.c0; have c1 : w4.cell? ⟨w.heap.size, 1, none⟩ = some (.int .u64 nx) := v4.c1; have c2 : w4.cell? ⟨w.heap.size, 2, none⟩ = some (.int .i64 nw) := v4.c2))
    all_goals
      go_ret
      exact ⟨ret_int (by rw [HE.out]; clear HE HF HK; simp_all <;> omega), B4.out⟩
set_option maxRecDepth 100000 in
set_option maxHeartbeats 1000000 in
theorem post_err (at_ cl wh wo nn E : Int) (ha : Row w B A n xs) (hB : B ≤ w.heap.size) (hn : n < 4096) (hs : ∀ x ∈ xs, 0 ≤ sq x ∧ sq x ≤ 18446744073709551615) (hE : postE nx nw hz xs at_ cl = E) (h0 : E ≠ 0) :
    Calls Try.prog 12 #[qv ⟨A, n, c, nx, nw, hz⟩, .int .i64 at_, .int .i64 cl, .int .i64 wh, .int .i64 wo, .int .u64 nn] w (RetQ2 w n nx nw hz 0 E (· = xs)) := by
  have HK := hid (fun w' hb => refusal_any A n c nx nw hz B xs w' at_ cl (ha.below (w' := w') (Below.mono hb hB)) (Nat.le_trans hB hb.size) hn hs)
  rw [hE] at HK
  have HA := hid ha
  have hd : (E != 0) = true := by simpa using h0
  clear ha hs hE h0
  go_enter Try.func12, Try.ntmps12
  go_wp2_with (first
    | (refine wpList_boxq (q := ⟨A, n, c, nx, nw, hz⟩) rfl (.tmp 0) rfl rfl ?_; intro w1 v1 b1 s1)
    | (refine wpList_alq rfl rfl ?_; intro w2 r2 b2 s2; have v2 := v1.below b2 v1.lt; have B2 : Hid (Below w.heap.size w w2) := hid (b1.trans (b2.mono b1.size)))
    | (refine wpList_ldq rfl (.tmp 6) rfl rfl v3 ?_)
    | (refine wpList_ldq rfl (.tmp 6) rfl rfl v2 ?_)
    | (go_at_call 31; refine (HK.out w2 B2.out).mono ?_; rintro e w3 ⟨rfl, b3⟩; have r3 := r2.below b3 r2.lt; have v3 := v2.below b3 v2.lt; have B3 : Hid (Below w.heap.size w w3) := hid (B2.out.trans (b3.mono B2.out.size)))
    | (go_at_call 32; refine (own_any A n c nx nw hz B xs w3 (HA.out.below (B3.out.mono hB)) (Nat.le_trans hB B3.out.size) (by omega)).mono ?_; rintro e w4 ⟨A4, c4, l4, rfl, rfl, q4⟩; have r4 := r3.below q4.2.2 r3.lt; have B4 : Hid (Below w.heap.size w w4) := hid (B3.out.trans (q4.2.2.mono B3.out.size)))
    | (refine wpList_svq rfl (.tmp 12) (.tmp 24) rfl rfl rfl r4 ?_; intro w5 r5 b5 o5 _; have B5 : Hid (Below w.heap.size w w5) := hid (B4.out.trans (b5.mono b1.size))))
  refine bodyPost_ret (w := w5) (results_q2 Try.results12 _ rfl r5) rfl ?_
  exact ⟨A4, c4, l4, rfl, rfl, (q4.1.oth o5 (fun g o e => by have := q4.2.1 g o e; have := r3.lt; omega)).top, q4.2.1.le B3.out.size, B5.out⟩
set_option maxRecDepth 100000 in
set_option maxHeartbeats 1000000 in
theorem post_ok (at_ cl wh wo nn : Int) (ha : Row w B A n xs) (hB : B ≤ w.heap.size) (hn : n < 4096) (hs : ∀ x ∈ xs, 0 ≤ sq x ∧ sq x ≤ 18446744073709551615) (hE : postE nx nw hz xs at_ cl = 0) (hx0 : 0 ≤ nx) (hx1 : nx < 18446744073709551615) (hh : Hp xs) :
    Calls Try.prog 12 #[qv ⟨A, n, c, nx, nw, hz⟩, .int .i64 at_, .int .i64 cl, .int .i64 wh, .int .i64 wo, .int .u64 nn] w (RetQ2 w (n + 1) (nx + 1) nw hz nx 0 (fun l => Hp l ∧ l.Perm ((at_, cl, nx, wh, wo, nn) :: xs))) := by
  have HK := hid (fun w' hb => refusal_any A n c nx nw hz B xs w' at_ cl (ha.below (w' := w') (Below.mono hb hB)) (Nat.le_trans hB hb.size) hn hs)
  rw [hE] at HK
  have HA := hid ha
  have HH := hid hh
  clear ha hs hE hh
  go_enter Try.func12, Try.ntmps12
  go_wp2_with (first
    | (refine wpList_boxq (q := ⟨A, n, c, nx, nw, hz⟩) rfl (.tmp 0) rfl rfl ?_; intro w1 v1 b1 s1)
    | (refine wpList_alq rfl rfl ?_; intro w2 r2 b2 s2; have v2 := v1.below b2 v1.lt; have B2 : Hid (Below w.heap.size w w2) := hid (b1.trans (b2.mono b1.size)))
    | (refine wpList_ldq rfl (.tmp 6) rfl rfl v6 ?_)
    | (refine wpList_ldq rfl (.tmp 6) rfl rfl v2 ?_)
    | (go_at_call 31; refine (HK.out w2 B2.out).mono ?_; rintro e w3 ⟨rfl, b3⟩; have r3 := r2.below b3 r2.lt; have v3 := v2.below b3 v2.lt; have B3 : Hid (Below w.heap.size w w3) := hid (B2.out.trans (b3.mono B2.out.size)); have c0 : w3.cell? ⟨w.heap.size, 0, none⟩ = some (.slice A n c) := v3.c0; have c1 : w3.cell? ⟨w.heap.size, 1, none⟩ = some (.int .u64 nx) := v3.c1)
    | (go_at_call 33; refine (push_ok A n c B xs (at_, cl, nx, wh, wo, nn) w3 (HA.out.below (B3.out.mono hB)) (Nat.le_trans hB B3.out.size) hn HH.out).mono ?_; rintro e w4 ⟨A4, c4, l4, rfl, p4, own4, b4⟩; have r4 := r3.below b4 r3.lt; have v4 := v3.below b4 v3.lt; have B4 : Hid (Below w.heap.size w w4) := hid (B3.out.trans (b4.mono B3.out.size)))
    | (refine wpList_sf0 rfl (.tmp 41) (.tmp 39) rfl rfl rfl v4 ?_; intro w5 v5 b5 o5 _; have r5 := r4.other o5 (by have := v1.lt; omega); have B5 : Hid (Below w.heap.size w w5) := hid (B4.out.trans b5); have own5 := own4.other (w' := w5) (fun g hg => o5 g (by have := v3.lt; omega)))
    | (refine wpList_sf1 rfl (.tmp 44) (.tmp 43) rfl rfl rfl v5 ?_; intro w6 v6 b6 o6 _; have r6 := r5.other o6 (by have := v1.lt; omega); have B6 : Hid (Below w.heap.size w w6) := hid (B5.out.trans b6); have own6 := own5.other (w' := w6) (fun g hg => o6 g (by have := v3.lt; omega)))
    | (refine wpList_svq rfl (.tmp 12) (.tmp 45) rfl rfl rfl r6 ?_; intro w7 r7 b7 o7 _; have B7 : Hid (Below w.heap.size w w7) := hid (B6.out.trans (b7.mono b1.size)); have own7 := own6.other (w' := w7) (fun g hg => o7 g (by have := r3.lt; omega))))
  refine bodyPost_ret (w := w7) (results_q2 Try.results12 _ rfl r7) rfl ?_
  exact ⟨A4, c4, l4, rfl, p4, (own7.base_le B3.out.size).qr B7.out⟩
end
end Go.Proofs.Ytpfidohneddgkaa
