/-
  The walk of KernelApart: something posted, and another thing cancelled, come to the same either way round. What is asked: the queue came in (numbers of 64 bits).
-/
import Derived.Test.YtpfidohneddgkaaBA
namespace Go.Proofs.Ytpfidohneddgkaa
open Go Go.RowKit Go.Maps

set_option maxRecDepth 100000 in
theorem apart_none (A : Option Addr) (n c : Nat) (nx nw hz at_ cl tk : Int) (w : World) (h : 200 < n ∨ nx ≤ tk) :
    Calls Try.prog 8 #[qv ⟨A, n, c, nx, nw, hz⟩, .int .i64 at_, .int .i64 cl, .int .u64 tk] w fun e w' => e = .returned (.bool true) ∧ Below w.heap.size w w' := by
  have h' : decide ((n : Int) ≤ 200) = false ∨ (decide ((n : Int) ≤ 200) = true ∧ decide (nx ≤ tk) = true) := by
    simp; omega
  clear h
  rcases h' with h1 | ⟨h1, h2⟩
  all_goals
    have HFEW := hid h1
    clear h1
    go_enter Try.func8, Try.ntmps8
    go_wp2_with (first
      | (refine wpList_boxq (q := ⟨A, n, c, nx, nw, hz⟩) rfl (.tmp 0) rfl rfl ?_; intro w1 v1 b1 _; have B1 : Hid (Below w.heap.size w w1) := hid b1)
      | (go_at_call 9; refine (live_any w1).mono ?_; rintro e w2 ⟨rfl, b2⟩; have v2 := v1.below2 b2; have B2 : Hid (Below w.heap.size w w2) := hid (B1.out.trans (b2.mono B1.out.size)))
      | (go_at_call 10; refine (few_any A n c nx nw hz w2 _ HFEW.out).mono ?_; rintro e w3 ⟨rfl, b3⟩; have v3 := v2.below2 b3; have c1 : w3.cell? ⟨w.heap.size, 1, none⟩ = some (.int .u64 nx) := v3.c1; have B3 : Hid (Below w.heap.size w w3) := hid (B2.out.trans (b3.mono B2.out.size)))
      | (refine wpList_ldq rfl (.tmp 4) rfl rfl v2 ?_))
    go_ret
    exact ⟨rfl, B3.out⟩
set_option maxRecDepth 100000 in
set_option maxHeartbeats 4000000 in
theorem apart_no (A : Option Addr) (n c n1 n2 n3 n4 : Nat) (nx nx1 nx4 nw hz at_ cl tk t u E F G H : Int) (P1 P3 : List It → Prop) (P2 P4 : List It → List It → Prop) (w : World) (hn : n ≤ 200) (htk : decide (nx ≤ tk) = false)
    (hp1 : ∀ w', Below w.heap.size w w' → Calls Try.prog 12 #[qv ⟨A, n, c, nx, nw, hz⟩, .int .i64 at_, .int .i64 cl, .int .i64 1, .int .i64 2, .int .u64 3] w' (RetQ2 w' n1 nx1 nw hz t E P1))
    (hc1 : ∀ (A' : Option Addr) (c' : Nat) (l : List It) (B : Nat) (w' : World), P1 l → Row w' B A' n1 l → B ≤ w'.heap.size → Calls Try.prog 15 #[qv ⟨A', n1, c', nx1, nw, hz⟩, .int .u64 tk] w' (RetQ1 w' n2 nx1 nw hz F (P2 l)))
    (hc2 : ∀ w', Below w.heap.size w w' → Calls Try.prog 15 #[qv ⟨A, n, c, nx, nw, hz⟩, .int .u64 tk] w' (RetQ1 w' n3 nx nw hz G P3))
    (hp2 : ∀ (A' : Option Addr) (c' : Nat) (l : List It) (B : Nat) (w' : World), P3 l → Row w' B A' n3 l → B ≤ w'.heap.size → Calls Try.prog 12 #[qv ⟨A', n3, c', nx, nw, hz⟩, .int .i64 at_, .int .i64 cl, .int .i64 1, .int .i64 2, .int .u64 3] w' (RetQ2 w' n4 nx4 nw hz u H (P4 l)))
    (hFG : (F != G) = false) (hEF : (E != 0) = true ∨ ((E != 0) = false ∧ (F != 0) = true)) (hE2 : (E != 2) = true ∨ ((E != 2) = false ∧ (H == E) = true)) :
    Calls Try.prog 8 #[qv ⟨A, n, c, nx, nw, hz⟩, .int .i64 at_, .int .i64 cl, .int .u64 tk] w fun e w' => e = .returned (.bool true) ∧ Below w.heap.size w w' := by
  have HFEW : Hid (decide ((n : Int) ≤ 200) = true) := hid (decide_eq_true (by omega))
  have HP1 := hid hp1
  have HC1 := hid hc1
  have HC2 := hid hc2
  have HP2 := hid hp2
  clear hp1 hc1 hc2 hp2
  rcases hEF with f1 | ⟨f1, f2⟩ <;> rcases hE2 with g1 | ⟨g1, g2⟩
  all_goals
    go_enter Try.func8, Try.ntmps8
    go_wp2_with (first
      | (refine wpList_boxq (q := ⟨A, n, c, nx, nw, hz⟩) rfl (.tmp 0) rfl rfl ?_; intro w1 v1 b1 _; have B1 : Hid (Below w.heap.size w w1) := hid b1)
      | (go_at_call 9; refine (live_any w1).mono ?_; rintro e w2 ⟨rfl, b2⟩; have v2 := v1.below2 b2; have B2 : Hid (Below w.heap.size w w2) := hid (B1.out.trans (b2.mono B1.out.size)))
      | (go_at_call 10; refine (few_any A n c nx nw hz w2 _ HFEW.out).mono ?_; rintro e w3 ⟨rfl, b3⟩; have v3 := v2.below2 b3; have c1 : w3.cell? ⟨w.heap.size, 1, none⟩ = some (.int .u64 nx) := v3.c1; have B3 : Hid (Below w.heap.size w w3) := hid (B2.out.trans (b3.mono B2.out.size)))
      | (go_at_call 12; refine (HP2.out A10 c10 l10 w10.heap.size w12 p10 r12 Z12.out).mono ?_; rintro e w13 ⟨A13, c13, l13, rfl, p13, q13⟩; have v13 := v12.below2 q13.2.2; have b13v := b12v.below2 q13.2.2; have B13 : Hid (Below w.heap.size w w13) := hid (B12.out.trans (q13.2.2.mono B12.out.size)); have rb13 := rb12.below (q13.2.2.mono Y12.out); have Y13 : Hid (w7.heap.size ≤ w13.heap.size) := hid (Nat.le_trans Y12.out q13.2.2.size))
      | (go_at_call 12; refine (HP1.out w3 B3.out).mono ?_; rintro e w4 ⟨A4, c4, l4, rfl, p4, q4⟩; have v4 := v3.below2 q4.2.2; have B4 : Hid (Below w.heap.size w w4) := hid (B3.out.trans (q4.2.2.mono B3.out.size)))
      | (refine wpList_svq rfl (.tmp 17) (.tmp 56) rfl rfl rfl d14 ?_; intro w15 d15 b15 _ _; have v15 := v14.below b15 v13.lt; have b15v := b14v.below b15 b13v.lt; have B15 : Hid (Below w.heap.size w w15) := hid (B14.out.trans (b15.mono B13.out.size)); have rb15 := rb14.below (b15.mono Y13.out); have rd15 := rd14.below b15; have Y15 : Hid (w7.heap.size ≤ w15.heap.size) := hid (Nat.le_trans Y14.out b15.size); have X15 : Hid (w13.heap.size ≤ w15.heap.size) := hid (Nat.le_trans X14.out b15.size))
      | (refine wpList_alq rfl rfl ?_; intro w14 d14 b14 _; have v14 := v13.below2 b14; have b14v := b13v.below2 b14; have B14 : Hid (Below w.heap.size w w14) := hid (B13.out.trans (b14.mono B13.out.size)); have rb14 := rb13.below (b14.mono Y13.out); have rd14 := q13.1.below b14; have Y14 : Hid (w7.heap.size ≤ w14.heap.size) := hid (Nat.le_trans Y13.out b14.size); have X14 : Hid (w13.heap.size ≤ w14.heap.size) := hid b14.size)
      | (refine wpList_svq rfl (.tmp 15) (.tmp 49) rfl rfl rfl k11 ?_; intro w12 k12 b12 _ _; have v12 := v11.below b12 v10.lt; have b12v := b11v.below b12 b10v.lt; have r12 := r11.below b12; have rb12 := rb11.below (b12.mono Y10.out); have B12 : Hid (Below w.heap.size w w12) := hid (B11.out.trans (b12.mono B10.out.size)); have Z12 : Hid (w10.heap.size ≤ w12.heap.size) := hid (Nat.le_trans Z11.out b12.size); have Y12 : Hid (w7.heap.size ≤ w12.heap.size) := hid (Nat.le_trans Y11.out b12.size))
      | (refine wpList_alq rfl rfl ?_; intro w11 k11 b11 _; have v11 := v10.below2 b11; have b11v := b10v.below2 b11; have r11 := q10.1.below b11; have rb11 := rb10.below (b11.mono Y10.out); have B11 : Hid (Below w.heap.size w w11) := hid (B10.out.trans (b11.mono B10.out.size)); have Z11 : Hid (w10.heap.size ≤ w11.heap.size) := hid b11.size; have Y11 : Hid (w7.heap.size ≤ w11.heap.size) := hid (Nat.le_trans Y10.out b11.size))
      | (go_at_call 15; refine (HC2.out w9 B9.out).mono ?_; rintro e w10 ⟨A10, c10, l10, rfl, p10, q10⟩; have v10 := v9.below2 q10.2.2; have b10v := b9v.below2 q10.2.2; have rb10 := rb9.below (q10.2.2.mono Y9.out); have B10 : Hid (Below w.heap.size w w10) := hid (B9.out.trans (q10.2.2.mono B9.out.size)); have Y10 : Hid (w7.heap.size ≤ w10.heap.size) := hid (Nat.le_trans Y9.out q10.2.2.size))
      | (refine wpList_svq rfl (.tmp 13) (.tmp 43) rfl rfl rfl k8 ?_; intro w9 b9v b9 _ _; have v9 := v8.below b9 v7.lt; have rb9 := rb8.below b9; have B9 : Hid (Below w.heap.size w w9) := hid (B8.out.trans (b9.mono B7.out.size)); have Y9 : Hid (w7.heap.size ≤ w9.heap.size) := hid (Nat.le_trans Y8.out b9.size))
      | (refine wpList_alq rfl rfl ?_; intro w8 k8 b8 _; have v8 := v7.below2 b8; have rb8 := q7.1.below b8; have B8 : Hid (Below w.heap.size w w8) := hid (B7.out.trans (b8.mono B7.out.size)); have Y8 : Hid (w7.heap.size ≤ w8.heap.size) := hid b8.size)
      | (go_at_call 15; refine (HC1.out A4 c4 l4 w4.heap.size w6 p4 r6 Z6.out).mono ?_; rintro e w7 ⟨A7, c7, l7, rfl, p7, q7⟩; have v7 := v6.below2 q7.2.2; have B7 : Hid (Below w.heap.size w w7) := hid (B6.out.trans (q7.2.2.mono B6.out.size)))
      | (refine wpList_svq rfl (.tmp 10) (.tmp 36) rfl rfl rfl a5 ?_; intro w6 a6 b6 _ _; have v6 := v5.below b6 v4.lt; have r6 := r5.below b6; have B6 : Hid (Below w.heap.size w w6) := hid (B5.out.trans (b6.mono B4.out.size)); have Z6 : Hid (w4.heap.size ≤ w6.heap.size) := hid (Nat.le_trans b5.size b6.size))
      | (refine wpList_alq rfl rfl ?_; intro w5 a5 b5 _; have v5 := v4.below2 b5; have r5 := q4.1.below b5; have B5 : Hid (Below w.heap.size w w5) := hid (B4.out.trans (b5.mono B4.out.size)))
      | (refine wpList_ldq rfl (.tmp 17) rfl rfl d15 ?_)
      | (refine wpList_ldq rfl (.tmp 15) rfl rfl k12 ?_)
      | (refine wpList_ldq rfl (.tmp 13) rfl rfl b15v ?_)
      | (refine wpList_ldq rfl (.tmp 10) rfl rfl a6 ?_)
      | (refine wpList_ldq rfl (.tmp 4) rfl rfl v9 ?_)
      | (refine wpList_ldq rfl (.tmp 4) rfl rfl v3 ?_)
      | (refine wpList_ldq rfl (.tmp 4) rfl rfl v2 ?_))
    go_ret
    exact ⟨rfl, B15.out⟩
set_option maxRecDepth 100000 in
set_option maxHeartbeats 4000000 in
theorem apart_yes (A : Option Addr) (n c n1 n2 n3 n4 : Nat) (nx nx1 nw hz at_ cl tk t u E F G H : Int) (P1 P3 : List It → Prop) (P2 P4 : List It → List It → Prop) (w : World) (hn : n ≤ 200) (htk : decide (nx ≤ tk) = false)
    (hp1 : ∀ w', Below w.heap.size w w' → Calls Try.prog 12 #[qv ⟨A, n, c, nx, nw, hz⟩, .int .i64 at_, .int .i64 cl, .int .i64 1, .int .i64 2, .int .u64 3] w' (RetQ2 w' n1 nx1 nw hz t E P1))
    (hc1 : ∀ (A' : Option Addr) (c' : Nat) (l : List It) (B : Nat) (w' : World), P1 l → Row w' B A' n1 l → B ≤ w'.heap.size → Calls Try.prog 15 #[qv ⟨A', n1, c', nx1, nw, hz⟩, .int .u64 tk] w' (RetQ1 w' n2 nx1 nw hz F (P2 l)))
    (hc2 : ∀ w', Below w.heap.size w w' → Calls Try.prog 15 #[qv ⟨A, n, c, nx, nw, hz⟩, .int .u64 tk] w' (RetQ1 w' n3 nx nw hz G P3))
    (hp2 : ∀ (A' : Option Addr) (c' : Nat) (l : List It) (B : Nat) (w' : World), P3 l → Row w' B A' n3 l → B ≤ w'.heap.size → Calls Try.prog 12 #[qv ⟨A', n3, c', nx, nw, hz⟩, .int .i64 at_, .int .i64 cl, .int .i64 1, .int .i64 2, .int .u64 3] w' (RetQ2 w' n4 nx1 nw hz u H (P4 l)))
    (hFG : (F != G) = false) (hE : (E != 0) = false) (hF : (F != 0) = false) (hH : (H == 0) = true) (htu : (t == u) = true) (hlen : ((n2 : Int) == (n : Int)) = true) (hn2 : n2 ≤ 4096) (hn4 : n4 ≤ 4096)
    (hS : ∀ l1 l2 l3 l4, P1 l1 → P2 l1 l2 → P3 l3 → P4 l3 l4 → srt l2 = srt l4) :
    Calls Try.prog 8 #[qv ⟨A, n, c, nx, nw, hz⟩, .int .i64 at_, .int .i64 cl, .int .u64 tk] w fun e w' => e = .returned (.bool true) ∧ Below w.heap.size w w' := by
  have HFEW : Hid (decide ((n : Int) ≤ 200) = true) := hid (decide_eq_true (by omega))
  have HP1 := hid hp1
  have HC1 := hid hc1
  have HC2 := hid hc2
  have HP2 := hid hp2
  have HS := hid hS
  clear hS hp1 hc1 hc2 hp2
  go_enter Try.func8, Try.ntmps8
  go_wp2_with (first
      | (refine wpList_boxq (q := ⟨A, n, c, nx, nw, hz⟩) rfl (.tmp 0) rfl rfl ?_; intro w1 v1 b1 _; have B1 : Hid (Below w.heap.size w w1) := hid b1)
      | (go_at_call 9; refine (live_any w1).mono ?_; rintro e w2 ⟨rfl, b2⟩; have v2 := v1.below2 b2; have B2 : Hid (Below w.heap.size w w2) := hid (B1.out.trans (b2.mono B1.out.size)))
      | (go_at_call 10; refine (few_any A n c nx nw hz w2 _ HFEW.out).mono ?_; rintro e w3 ⟨rfl, b3⟩; have v3 := v2.below2 b3; have c1 : w3.cell? ⟨w.heap.size, 1, none⟩ = some (.int .u64 nx) := v3.c1; have B3 : Hid (Below w.heap.size w w3) := hid (B2.out.trans (b3.mono B2.out.size)))
      | (go_at_call 12; refine (HP2.out A10 c10 l10 w10.heap.size w12 p10 r12 Z12.out).mono ?_; rintro e w13 ⟨A13, c13, l13, rfl, p13, q13⟩; have v13 := v12.below2 q13.2.2; have b13v := b12v.below2 q13.2.2; have B13 : Hid (Below w.heap.size w w13) := hid (B12.out.trans (q13.2.2.mono B12.out.size)); have rb13 := rb12.below (q13.2.2.mono Y12.out); have Y13 : Hid (w7.heap.size ≤ w13.heap.size) := hid (Nat.le_trans Y12.out q13.2.2.size))
      | (go_at_call 12; refine (HP1.out w3 B3.out).mono ?_; rintro e w4 ⟨A4, c4, l4, rfl, p4, q4⟩; have v4 := v3.below2 q4.2.2; have B4 : Hid (Below w.heap.size w w4) := hid (B3.out.trans (q4.2.2.mono B3.out.size)))
      | (refine wpList_svq rfl (.tmp 17) (.tmp 56) rfl rfl rfl d14 ?_; intro w15 d15 b15 _ _; have v15 := v14.below b15 v13.lt; have b15v := b14v.below b15 b13v.lt; have B15 : Hid (Below w.heap.size w w15) := hid (B14.out.trans (b15.mono B13.out.size)); have rb15 := rb14.below (b15.mono Y13.out); have rd15 := rd14.below b15; have Y15 : Hid (w7.heap.size ≤ w15.heap.size) := hid (Nat.le_trans Y14.out b15.size); have X15 : Hid (w13.heap.size ≤ w15.heap.size) := hid (Nat.le_trans X14.out b15.size))
      | (refine wpList_alq rfl rfl ?_; intro w14 d14 b14 _; have v14 := v13.below2 b14; have b14v := b13v.below2 b14; have B14 : Hid (Below w.heap.size w w14) := hid (B13.out.trans (b14.mono B13.out.size)); have rb14 := rb13.below (b14.mono Y13.out); have rd14 := q13.1.below b14; have Y14 : Hid (w7.heap.size ≤ w14.heap.size) := hid (Nat.le_trans Y13.out b14.size); have X14 : Hid (w13.heap.size ≤ w14.heap.size) := hid b14.size)
      | (refine wpList_svq rfl (.tmp 15) (.tmp 49) rfl rfl rfl k11 ?_; intro w12 k12 b12 _ _; have v12 := v11.below b12 v10.lt; have b12v := b11v.below b12 b10v.lt; have r12 := r11.below b12; have rb12 := rb11.below (b12.mono Y10.out); have B12 : Hid (Below w.heap.size w w12) := hid (B11.out.trans (b12.mono B10.out.size)); have Z12 : Hid (w10.heap.size ≤ w12.heap.size) := hid (Nat.le_trans Z11.out b12.size); have Y12 : Hid (w7.heap.size ≤ w12.heap.size) := hid (Nat.le_trans Y11.out b12.size))
      | (refine wpList_alq rfl rfl ?_; intro w11 k11 b11 _; have v11 := v10.below2 b11; have b11v := b10v.below2 b11; have r11 := q10.1.below b11; have rb11 := rb10.below (b11.mono Y10.out); have B11 : Hid (Below w.heap.size w w11) := hid (B10.out.trans (b11.mono B10.out.size)); have Z11 : Hid (w10.heap.size ≤ w11.heap.size) := hid b11.size; have Y11 : Hid (w7.heap.size ≤ w11.heap.size) := hid (Nat.le_trans Y10.out b11.size))
      | (go_at_call 15; refine (HC2.out w9 B9.out).mono ?_; rintro e w10 ⟨A10, c10, l10, rfl, p10, q10⟩; have v10 := v9.below2 q10.2.2; have b10v := b9v.below2 q10.2.2; have rb10 := rb9.below (q10.2.2.mono Y9.out); have B10 : Hid (Below w.heap.size w w10) := hid (B9.out.trans (q10.2.2.mono B9.out.size)); have Y10 : Hid (w7.heap.size ≤ w10.heap.size) := hid (Nat.le_trans Y9.out q10.2.2.size))
      | (refine wpList_svq rfl (.tmp 13) (.tmp 43) rfl rfl rfl k8 ?_; intro w9 b9v b9 _ _; have v9 := v8.below b9 v7.lt; have rb9 := rb8.below b9; have B9 : Hid (Below w.heap.size w w9) := hid (B8.out.trans (b9.mono B7.out.size)); have Y9 : Hid (w7.heap.size ≤ w9.heap.size) := hid (Nat.le_trans Y8.out b9.size))
      | (refine wpList_alq rfl rfl ?_; intro w8 k8 b8 _; have v8 := v7.below2 b8; have rb8 := q7.1.below b8; have B8 : Hid (Below w.heap.size w w8) := hid (B7.out.trans (b8.mono B7.out.size)); have Y8 : Hid (w7.heap.size ≤ w8.heap.size) := hid b8.size)
      | (go_at_call 15; refine (HC1.out A4 c4 l4 w4.heap.size w6 p4 r6 Z6.out).mono ?_; rintro e w7 ⟨A7, c7, l7, rfl, p7, q7⟩; have v7 := v6.below2 q7.2.2; have B7 : Hid (Below w.heap.size w w7) := hid (B6.out.trans (q7.2.2.mono B6.out.size)))
      | (refine wpList_svq rfl (.tmp 10) (.tmp 36) rfl rfl rfl a5 ?_; intro w6 a6 b6 _ _; have v6 := v5.below b6 v4.lt; have r6 := r5.below b6; have B6 : Hid (Below w.heap.size w w6) := hid (B5.out.trans (b6.mono B4.out.size)); have Z6 : Hid (w4.heap.size ≤ w6.heap.size) := hid (Nat.le_trans b5.size b6.size))
      | (refine wpList_alq rfl rfl ?_; intro w5 a5 b5 _; have v5 := v4.below2 b5; have r5 := q4.1.below b5; have B5 : Hid (Below w.heap.size w w5) := hid (B4.out.trans (b5.mono B4.out.size)))
      | (refine wpList_ldq rfl (.tmp 17) rfl rfl d15 ?_)
      | (refine wpList_ldq rfl (.tmp 15) rfl rfl k12 ?_)
      | (refine wpList_ldq rfl (.tmp 13) rfl rfl b15v ?_)
      | (refine wpList_ldq rfl (.tmp 10) rfl rfl a6 ?_)
      | (refine wpList_ldq rfl (.tmp 4) rfl rfl v9 ?_)
      | (refine wpList_ldq rfl (.tmp 4) rfl rfl v3 ?_)
      | (refine wpList_ldq rfl (.tmp 4) rfl rfl v2 ?_)
      | (go_at_call 29; refine (ksame_yes A7 A13 n2 c7 n4 c13 w7.heap.size w13.heap.size nx1 nw hz l7 l13 true w15 rb15 rd15 Y15.out X15.out (by omega) (by omega) (decide_eq_true (HS.out l4 l7 l10 l13 p4 p7 p10 p13))).mono ?_; rintro e w16 ⟨rfl, b16⟩; have B16 : Hid (Below w.heap.size w w16) := hid (B15.out.trans (b16.mono B15.out.size)); have z1 : w16.cell? ⟨w7.heap.size, 0, none⟩ = some (.slice A7 n2 c7) := (b15v.below2 b16).c0; have z2 : w16.cell? ⟨w.heap.size, 0, none⟩ = some (.slice A n c) := (v15.below2 b16).c0))
  go_ret
  exact ⟨rfl, B16.out⟩

theorem perm_len {xs l : List It} {x : It} {n : Nat} (h : xs.Perm (x :: l)) (hn : xs.length = n) : ∃ k, n = k + 1 ∧ l.length = k := ⟨l.length, by rw [← hn, h.length_eq]; rfl, rfl⟩
theorem postE_of {nx nw hz at_ cl : Int} {xs l : List It} (h : okB nx nw hz xs = true) (k : okB nx nw hz l = true) : postE nx nw hz l at_ cl = postE nx nw hz xs at_ cl := by unfold postE; rw [h, k]

theorem apart_row {w : World} (A : Option Addr) (n c : Nat) (nx nw hz : Int) (xs : List It) (ha : Row w w.heap.size A n xs) (_ : n ≤ c) (_ : c ≤ 9223372036854775807) (hs : SqOk xs) (hx0 : 0 ≤ nx) (hx1 : nx ≤ 18446744073709551615) (at_ : Int) (_ : -9223372036854775808 ≤ at_) (_ : at_ ≤ 9223372036854775807) (cl : Int) (_ : -9223372036854775808 ≤ cl) (_ : cl ≤ 9223372036854775807) (tk : Int) (_ : 0 ≤ tk) (_ : tk ≤ 18446744073709551615) :
    Calls Try.prog 8 #[qv ⟨A, n, c, nx, nw, hz⟩, .int .i64 at_, .int .i64 cl, .int .u64 tk] w fun e w' => e = .returned (.bool true) ∧ Below w.heap.size w w' := by
  by_cases hn : 200 < n
  · exact apart_none A n c nx nw hz at_ cl tk w (.inl hn)
  by_cases htk : nx ≤ tk
  · exact apart_none A n c nx nw hz at_ cl tk w (.inr htk)
  have hn' : n ≤ 200 := by omega
  have ht : decide (nx ≤ tk) = false := decide_eq_false htk
  have hlen := ha.1
  by_cases hE : postE nx nw hz xs at_ cl = 0
  · obtain ⟨hok, hf, hat, hne⟩ := postE_zero.1 hE
    have hlt : nx < 18446744073709551615 := by omega
    have hp1 := fun (w' : World) (hb : Below w.heap.size w w') => post_ok A n c nx nw hz w.heap.size xs w' at_ cl 1 2 3 (ha.below hb) hb.size (by omega) hs hE hx0 hlt (ok_hp hok)
    have hsx : SqOk ((at_, cl, nx, 1, 2, 3) :: xs) := hs.cons ⟨hx0, hx1⟩
    rcases sq_or hok tk with hno | ⟨y, hym, hys, hyl⟩
    · refine apart_no A n c (n + 1) (n + 1) n (n + 1) nx (nx + 1) (nx + 1) nw hz at_ cl tk nx nx 0 8 8 0 (fun l => Hp l ∧ l.Perm ((at_, cl, nx, 1, 2, 3) :: xs)) (· = xs) (fun l => (· = l)) (fun l l4 => Hp l4 ∧ l4.Perm ((at_, cl, nx, 1, 2, 3) :: l)) w hn' ht hp1 ?_ ?_ ?_ rfl (.inr ⟨rfl, rfl⟩) (.inl rfl)
      · intro A' c' l B w' ⟨hh, hp⟩ hr hB
        refine cancel_none A' (n + 1) c' (nx + 1) nw hz B l w' tk hr hB (by omega) (hsx.perm hp) (ok_post hok hf hat hh hp) ((chk_iff l).2 hh) fun j hj e => ?_
        rcases List.mem_cons.1 (hp.mem_iff.1 (nth_mem hj)) with h | h
        · rw [h] at e; have e' : nx = tk := e; omega
        · obtain ⟨i, hi, e2⟩ := mem_nth h; exact hno i hi (by rw [e2]; exact e)
      · intro w' hb
        exact cancel_none A n c nx nw hz w.heap.size xs w' tk (ha.below hb) hb.size (by omega) hs hok (ok_chk hok) hno
      · rintro A' c' l B w' rfl hr hB
        exact post_ok A' n c' nx nw hz B l w' at_ cl 1 2 3 hr hB (by omega) hs hE hx0 hlt (ok_hp hok)
    · obtain ⟨k, rfl⟩ : ∃ k, n = k + 1 := ⟨n - 1, by have := List.length_pos_of_mem hym; omega⟩
      refine apart_yes A (k + 1) c (k + 1 + 1) (k + 1) k (k + 1) nx (nx + 1) nw hz at_ cl tk nx nx 0 0 0 0 (fun l => Hp l ∧ l.Perm ((at_, cl, nx, 1, 2, 3) :: xs)) (fun l => Hp l ∧ xs.Perm (y :: l)) (fun l l2 => Hp l2 ∧ l.Perm (y :: l2)) (fun l l4 => Hp l4 ∧ l4.Perm ((at_, cl, nx, 1, 2, 3) :: l)) w hn' ht hp1 ?_ ?_ ?_ rfl rfl rfl rfl (by simp) (by simp) (by omega) (by omega) ?_
      · intro A' c' l B w' ⟨hh, hp⟩ hr hB
        refine cancel_ok A' c' (nx + 1) nw hz B l w' (k + 1) tk y hr hB (by omega) (hsx.perm hp) (ok_post hok hf hat hh hp) hh ⟨hp.mem_iff.2 (List.mem_cons_of_mem _ hym), hys, fun z hz e => ?_⟩
        rcases List.mem_cons.1 (hp.mem_iff.1 hz) with h | h
        · rw [h] at e; have e' : nx = tk := e; omega
        · exact hyl.2.2 z h e
      · intro w' hb
        exact cancel_ok A c nx nw hz w.heap.size xs w' k tk y (ha.below hb) hb.size (by omega) hs hok (ok_hp hok) hyl
      · intro A' c' l B w' ⟨hh, hp⟩ hr hB
        have hokl := ok_less hok hh hp
        exact post_ok A' k c' nx nw hz B l w' at_ cl 1 2 3 hr hB (by omega) (SqOk.of_cons (hs.perm hp.symm)) (by rw [postE_of hok hokl]; exact hE) hx0 hlt hh
      · intro l1 l2 l3 l4 ⟨_, h1⟩ ⟨_, h2⟩ ⟨_, h3⟩ ⟨_, h4⟩
        refine srt_of_perm ?_
        have h5 : (y :: l2).Perm ((at_, cl, nx, 1, 2, 3) :: (y :: l3)) := (h2.symm.trans h1).trans (h3.cons _)
        have h6 : (y :: l2).Perm (y :: ((at_, cl, nx, 1, 2, 3) :: l3)) := h5.trans (List.Perm.swap _ _ _)
        exact ((List.perm_cons _).1 h6).trans h4.symm
  · obtain ⟨E, hEE⟩ : ∃ E, postE nx nw hz xs at_ cl = E := ⟨_, rfl⟩
    rw [hEE] at hE
    have hp1 := fun (w' : World) (hb : Below w.heap.size w w') => post_err A n c nx nw hz w.heap.size xs w' at_ cl 1 2 3 E (ha.below hb) hb.size (by omega) hs hEE hE
    have f1 : (E != 0) = true := by simpa using hE
    have f2 : (E != 2) = true ∨ ((E != 2) = false ∧ (E == E) = true) := by
      by_cases e : E = 2
      · right; subst e; exact ⟨rfl, rfl⟩
      · left; simpa using e
    cases hok : okB nx nw hz xs with
    | false =>
      refine apart_no A n c n n n n nx nx nx nw hz at_ cl tk 0 0 E 1 1 E (· = xs) (· = xs) (fun l => (· = l)) (fun l => (· = l)) w hn' ht hp1 ?_ ?_ ?_ rfl (.inl f1) f2
      · rintro A' c' l B w' rfl hr hB
        exact cancel_bad A' n c' nx nw hz B l w' tk hr hB (by omega) hs hok
      · intro w' hb
        exact cancel_bad A n c nx nw hz w.heap.size xs w' tk (ha.below hb) hb.size (by omega) hs hok
      · rintro A' c' l B w' rfl hr hB
        exact post_err A' n c' nx nw hz B l w' at_ cl 1 2 3 E hr hB (by omega) hs hEE hE
    | true =>
      rcases sq_or hok tk with hno | ⟨y, hym, hys, hyl⟩
      · refine apart_no A n c n n n n nx nx nx nw hz at_ cl tk 0 0 E 8 8 E (· = xs) (· = xs) (fun l => (· = l)) (fun l => (· = l)) w hn' ht hp1 ?_ ?_ ?_ rfl (.inl f1) f2
        · rintro A' c' l B w' rfl hr hB
          exact cancel_none A' n c' nx nw hz B l w' tk hr hB (by omega) hs hok (ok_chk hok) hno
        · intro w' hb
          exact cancel_none A n c nx nw hz w.heap.size xs w' tk (ha.below hb) hb.size (by omega) hs hok (ok_chk hok) hno
        · rintro A' c' l B w' rfl hr hB
          exact post_err A' n c' nx nw hz B l w' at_ cl 1 2 3 E hr hB (by omega) hs hEE hE
      · obtain ⟨k, rfl⟩ : ∃ k, n = k + 1 := ⟨n - 1, by have := List.length_pos_of_mem hym; omega⟩
        refine apart_no A (k + 1) c (k + 1) k k k nx nx nx nw hz at_ cl tk 0 0 E 0 0 E (· = xs) (fun l => Hp l ∧ xs.Perm (y :: l)) (fun l l2 => Hp l2 ∧ l.Perm (y :: l2)) (fun l => (· = l)) w hn' ht hp1 ?_ ?_ ?_ rfl (.inl f1) f2
        · rintro A' c' l B w' rfl hr hB
          exact cancel_ok A' c' nx nw hz B l w' k tk y hr hB (by omega) hs hok (ok_hp hok) hyl
        · intro w' hb
          exact cancel_ok A c nx nw hz w.heap.size xs w' k tk y (ha.below hb) hb.size (by omega) hs hok (ok_hp hok) hyl
        · intro A' c' l B w' ⟨hh, hp⟩ hr hB
          exact post_err A' k c' nx nw hz B l w' at_ cl 1 2 3 E hr hB (by omega) (SqOk.of_cons (hs.perm hp.symm)) (by rw [postE_of hok (ok_less hok hh hp)]; exact hEE) hE
end Go.Proofs.Ytpfidohneddgkaa
