/-
  The document's own Post of queues: what it tells. What is asked: fewer than 4096 things, whose numbers are of 64 bits; the slice's length is no more than its capacity.
-/
import Derived.Test.YtpfidohneddgkaaKK
import Derived.Deep.DeepCutAuto
namespace Go.Proofs.Ytpfidohneddgkaa
open Go Go.RowKit Go.Maps
section
variable (A : Option Addr) (n c : Nat) (nx nw hz : Int) (B : Nat) (xs : List It) (w : World)
theorem post_why {nx nw hz at_ cl E : Int} {xs : List It} (h : postE nx nw hz xs at_ cl = E) (h0 : E ≠ 0) :
    (E = 1 ∧ okB nx nw hz xs = false) ∨ (E = 1 ∧ okB nx nw hz xs = true ∧ timeB at_ = false) ∨ (E = 1 ∧ okB nx nw hz xs = true ∧ timeB at_ = true ∧ decide (cl < 0) = true) ∨ (E = 1 ∧ okB nx nw hz xs = true ∧ timeB at_ = true ∧ decide (cl < 0) = false ∧ decide (15 < cl) = true) ∨
    (E = 2 ∧ okB nx nw hz xs = true ∧ timeB at_ = true ∧ decide (cl < 0) = false ∧ decide (15 < cl) = false ∧ decide (at_ < nw) = true) ∨ (E = 7 ∧ okB nx nw hz xs = true ∧ timeB at_ = true ∧ decide (cl < 0) = false ∧ decide (15 < cl) = false ∧ decide (at_ < nw) = false ∧ (nx == 18446744073709551615) = true) := by
  unfold postE at h
  cases hok : okB nx nw hz xs with
  | false => rw [hok] at h; left; exact ⟨h.symm, rfl⟩
  | true =>
    rw [hok, if_pos rfl] at h
    right
    unfold fitB at h
    cases ht : timeB at_ with
    | false => rw [ht] at h; left; exact ⟨h.symm, rfl, rfl⟩
    | true =>
      rw [ht] at h
      right
      by_cases h1 : cl < 0
      · left; rw [if_neg (by simp; omega)] at h; exact ⟨h.symm, rfl, rfl, decide_eq_true h1⟩
      · right
        by_cases h2 : 15 < cl
        · left; rw [if_neg (by simp; omega)] at h; exact ⟨h.symm, rfl, rfl, decide_eq_false h1, decide_eq_true h2⟩
        · right
          rw [if_pos (by simp; omega)] at h
          by_cases h3 : at_ < nw
          · left; rw [if_pos h3] at h; exact ⟨h.symm, rfl, rfl, decide_eq_false h1, decide_eq_false h2, decide_eq_true h3⟩
          · right
            rw [if_neg h3] at h
            by_cases h4 : nx = 18446744073709551615
            · rw [if_pos h4] at h; exact ⟨h.symm, rfl, rfl, decide_eq_false h1, decide_eq_false h2, decide_eq_false h3, by rw [h4]; rfl⟩
            · rw [if_neg h4] at h; exact absurd h.symm h0
set_option maxRecDepth 100000 in
set_option maxHeartbeats 4000000 in
theorem rpost_err (at_ cl wh wo nn E : Int) (ha : Row w B A n xs) (hB : B ≤ w.heap.size) (hn : n < 4096) (hnc : n ≤ c) (hE : postE nx nw hz xs at_ cl = E) (h0 : E ≠ 0) :
    Calls Try.prog 13 #[qv ⟨A, n, c, nx, nw, hz⟩, .int .i64 at_, .int .i64 cl, .int .i64 wh, .int .i64 wo, .int .u64 nn] w (RetQ2 w n nx nw hz 0 E (· = xs)) := by
  have HK := hid (fun w' hb => rcheck_any A n c nx nw hz B xs w' (ha.below (w' := w') (Below.mono hb hB)) (Nat.le_trans hB hb.size) (by omega) hnc)
  have hd : decide (4096 ≤ (n : Int)) = false := decide_eq_false (by omega)
  have HC := hid (fun w' (hb : Below w.heap.size w w') => copy_any A n c nx nw hz B xs w' (ha.below (Below.mono hb hB)) (Nat.le_trans hB hb.size) (by omega))
  have hwhy := post_why hE h0
  obtain ⟨M, hM⟩ : ∃ M, timeB at_ = M := ⟨_, rfl⟩
  rw [hM] at hwhy
  have HM := hid hM
  clear ha hE h0 hM
  rcases hwhy with ⟨rfl, hok⟩ | ⟨rfl, hok, rfl⟩ | ⟨rfl, hok, rfl, g1⟩ | ⟨rfl, hok, rfl, g1, g2⟩ | ⟨rfl, hok, rfl, g1, g2, g3⟩ | ⟨rfl, hok, rfl, g1, g2, g3, g4⟩
  all_goals
    first | rw [okE_bad hok] at HK | rw [okE_ok hok] at HK
    clear hok
    go_enter Try.func13, Try.ntmps13
    go_wp2_with (first
      | (refine wpList_boxq (q := ⟨A, n, c, nx, nw, hz⟩) rfl (.tmp 0) rfl rfl ?_; intro w1 v1 b1 s1)
      | (refine wpList_alq rfl rfl ?_; intro w4 o4 b4 _; have v4 := v3.below2 b4; have r4 := r3.below2 b4; have row4 := q3.1.below b4; have B4 : Hid (Below w.heap.size w w4) := hid (B3.out.trans (b4.mono B3.out.size)))
      | (refine wpList_alq rfl rfl ?_; intro w2 r2 b2 s2; have v2 := v1.below b2 v1.lt; have B2 : Hid (Below w.heap.size w w2) := hid (b1.trans (b2.mono b1.size)))
      | (refine wpList_ldq rfl (.tmp 6) rfl rfl v5 ?_)
      | (refine wpList_ldq rfl (.tmp 6) rfl rfl v2 ?_)
      | (go_at_call 11; refine (HC.out w2 B2.out).mono ?_; rintro e w3 ⟨A3, c3, l3, rfl, rfl, q3⟩; have v3 := v2.below2 q3.2.2; have r3 := r2.below2 q3.2.2; have B3 : Hid (Below w.heap.size w w3) := hid (B2.out.trans (q3.2.2.mono B2.out.size)))
      | (refine wpList_svq rfl (.tmp 15) (.tmp 17) rfl rfl rfl o4 ?_; intro w5 o5 b5 _ _; have v5 := v4.below b5 v3.lt; have r5 := r4.below b5 r3.lt; have row5 := row4.below b5; have B5 : Hid (Below w.heap.size w w5) := hid (B4.out.trans (b5.mono B3.out.size)); have Z5 : Hid (w3.heap.size ≤ w5.heap.size) := hid (Nat.le_trans b4.size b5.size))
      | (go_at_call 28; refine (HK.out w5 B5.out).mono ?_; rintro e w6 ⟨rfl, b6⟩; have v6 := v5.below2 b6; have r6 := r5.below2 b6; have o6 := o5.below2 b6; have row6 := row5.below (b6.mono Z5.out); have B6 : Hid (Below w.heap.size w w6) := hid (B5.out.trans (b6.mono B5.out.size)); have Z6 : Hid (w3.heap.size ≤ w6.heap.size) := hid (Nat.le_trans Z5.out b6.size))
      | (go_at_call 34; have t2 := one_new w6 (.int .i64 at_) 2; have b7 := (Below.refl w6.heap.size w6).alloc (Nat.le_refl _) (.cells #[.int .i64 at_] 2); refine (refmay_1 w6.heap.size 1 at_ _ HM.out _ t2).mono ?_; rintro e w7 ⟨rfl, rfl⟩; have B7 : Hid (Below w.heap.size w (w6.alloc (.cells #[.int .i64 at_] 2))) := hid (B6.out.trans (b7.mono B6.out.size)); have v7 := v6.below2 b7; have r7 := r6.below2 b7; have o7 := o6.below2 b7; have row7 := row6.below (b7.mono Z6.out); clear t2 b7; generalize w6.alloc (.cells #[.int .i64 at_] 2) = w7 at *; have c0 : w7.cell? ⟨w.heap.size, 0, none⟩ = some (.slice A n c) := v7.c0; have c1 : w7.cell? ⟨w.heap.size, 1, none⟩ = some (.int .u64 nx) := v7.c1; have c2 : w7.cell? ⟨w.heap.size, 2, none⟩ = some (.int .i64 nw) := v7.c2)
      | (refine wpList_ldq rfl (.tmp 15) rfl rfl o7 ?_)
      | (refine wpList_ldq rfl (.tmp 15) rfl rfl o6 ?_)
      | (refine wpList_svq rfl (.tmp 12) (.tmp 35) rfl rfl rfl r7 ?_; intro w8 r8 b8 oth8 _; have row8 := row7.oth oth8 (fun g o e => by have := q3.2.1 g o e; have := r2.lt; omega); have B8 : Hid (Below w.heap.size w w8) := hid (B7.out.trans (b8.mono b1.size)))
      | (refine wpList_svq rfl (.tmp 12) (.tmp 35) rfl rfl rfl r6 ?_; intro w8 r8 b8 oth8 _; have row8 := row6.oth oth8 (fun g o e => by have := q3.2.1 g o e; have := r2.lt; omega); have B8 : Hid (Below w.heap.size w w8) := hid (B6.out.trans (b8.mono b1.size)))
      | (refine wpList_svq rfl (.tmp 12) (.tmp 40) rfl rfl rfl r7 ?_; intro w8 r8 b8 oth8 _; have row8 := row7.oth oth8 (fun g o e => by have := q3.2.1 g o e; have := r2.lt; omega); have B8 : Hid (Below w.heap.size w w8) := hid (B7.out.trans (b8.mono b1.size)))
      | (refine wpList_svq rfl (.tmp 12) (.tmp 50) rfl rfl rfl r7 ?_; intro w8 r8 b8 oth8 _; have row8 := row7.oth oth8 (fun g o e => by have := q3.2.1 g o e; have := r2.lt; omega); have B8 : Hid (Below w.heap.size w w8) := hid (B7.out.trans (b8.mono b1.size))))
    refine bodyPost_ret (w := w8) (results_q2 Try.results13 _ rfl r8) rfl ?_
    exact ⟨A3, c3, l3, rfl, rfl, row8.top, q3.2.1.le B2.out.size, B8.out⟩
end
end Go.Proofs.Ytpfidohneddgkaa
