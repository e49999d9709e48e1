/-
  The walk of KernelBack: what is posted and cancelled leaves a queue as it was. What is asked: the queue came in (numbers of 64 bits).
-/
import Derived.Test.YtpfidohneddgkaaKL
import Derived.Test.YtpfidohneddgkaaKI
namespace Go.Proofs.Ytpfidohneddgkaa
open Go Go.RowKit Go.Maps

theorem RetQ1.imp {w : World} {n : Nat} {nx nw hz err : Int} {P Q : List It → Prop} (h : ∀ l, P l → Q l) {e : Ending} {w' : World} (k : RetQ1 w n nx nw hz err P e w') : RetQ1 w n nx nw hz err Q e w' := by
  obtain ⟨A, c, l, h1, h2, h3⟩ := k; exact ⟨A, c, l, h1, h l h2, h3⟩
theorem RetQ2.imp {w : World} {n : Nat} {nx nw hz tok err : Int} {P Q : List It → Prop} (h : ∀ l, P l → Q l) {e : Ending} {w' : World} (k : RetQ2 w n nx nw hz tok err P e w') : RetQ2 w n nx nw hz tok err Q e w' := by
  obtain ⟨A, c, l, h1, h2, h3⟩ := k; exact ⟨A, c, l, h1, h l h2, h3⟩

/-- A queue: something posted, and cancelled by its token. -/
theorem cancel_posted {nx nw hz at_ cl wh wo nn : Int} {n : Nat} {xs : List It} (hl : xs.length = n) (hok : okB nx nw hz xs = true) (hf : fitB at_ cl = true) (hat : nw ≤ at_) (hn : n ≤ 4000) (hs : SqOk xs) (hx0 : 0 ≤ nx) (hx1 : nx < 18446744073709551615)
    (A' : Option Addr) (c' : Nat) (l : List It) (B : Nat) (w' : World) (hh : Hp l) (hp : l.Perm ((at_, cl, nx, wh, wo, nn) :: xs)) (hr : Row w' B A' (n + 1) l) (hB : B ≤ w'.heap.size) :
    Calls Try.prog 15 #[qv ⟨A', n + 1, c', nx + 1, nw, hz⟩, .int .u64 nx] w' (RetQ1 w' n (nx + 1) nw hz 0 (fun l2 => Hp l2 ∧ l2.Perm xs)) := by
  have hok1 := ok_post hok hf hat hh hp
  have hsl : SqOk l := (hs.cons (x := (at_, cl, nx, wh, wo, nn)) ⟨hx0, by show nx ≤ _; omega⟩).perm hp
  rcases sq_or hok1 nx with hno | ⟨x, hxm, hxs, hxl⟩
  · exfalso
    have hm : (at_, cl, nx, wh, wo, nn) ∈ l := hp.mem_iff.2 (by simp)
    obtain ⟨i, hi, e⟩ := mem_nth hm
    exact hno i hi (by rw [e]; rfl)
  · have e : x = (at_, cl, nx, wh, wo, nn) := by
      rcases List.mem_cons.1 (hp.mem_iff.1 hxm) with h | h
      · exact h
      · have := ((okB_iff.1 hok).2.2.2.2.2.2 x h).1; omega
    subst e
    refine (cancel_ok A' c' (nx + 1) nw hz B l w' n nx _ hr hB (by omega) hsl hok1 hh hxl).mono fun e w2 h => h.imp fun l2 ⟨h1, h2⟩ => ⟨h1, ?_⟩
    exact (List.perm_cons _).1 (h2.symm.trans hp)
theorem cancel_gone {nx nw hz : Int} {n : Nat} {xs : List It} (hl : xs.length = n) (hok : okB nx nw hz xs = true) (hn : n ≤ 4000) (hs : SqOk xs)
    (A' : Option Addr) (c' : Nat) (l : List It) (B : Nat) (w' : World) (hh : Hp l) (hp : l.Perm xs) (hr : Row w' B A' n l) (hB : B ≤ w'.heap.size) :
    Calls Try.prog 15 #[qv ⟨A', n, c', nx + 1, nw, hz⟩, .int .u64 nx] w' (RetQ1 w' n (nx + 1) nw hz 8 (· = l)) := by
  have hok1 : okB nx nw hz l = true := by rw [ok_perm hp (by rw [ok_chk hok]; exact (chk_iff l).2 hh)]; exact hok
  have hok2 : okB (nx + 1) nw hz l = true := by
    rw [okB_iff] at hok1 ⊢
    obtain ⟨h1, h2, h3, h4, h5, h6, h7⟩ := hok1
    exact ⟨h1, h2, h3, h4, h5, h6, fun x hx => ⟨by have := (h7 x hx).1; omega, (h7 x hx).2⟩⟩
  exact cancel_none A' n c' (nx + 1) nw hz B l w' nx hr hB (by omega) (hs.perm hp) hok2 ((chk_iff l).2 hh) (fun j hj e => by
    have := ((okB_iff.1 hok1).2.2.2.2.2.2 _ (nth_mem hj)).1; omega)

set_option maxRecDepth 100000 in
theorem back_many (A : Option Addr) (n c : Nat) (nx nw hz at_ cl : Int) (w : World) (hn : 200 < n) :
    Calls Try.prog 7 #[qv ⟨A, n, c, nx, nw, hz⟩, .int .i64 at_, .int .i64 cl] w fun e w' => e = .returned (.bool true) ∧ Below w.heap.size w w' := by
  have HFEW : Hid (decide ((n : Int) ≤ 200) = false) := hid (decide_eq_false (by omega))
  clear hn
  go_enter Try.func7, Try.ntmps7
  go_wp2_with (first
    | (refine wpList_boxq (q := ⟨A, n, c, nx, nw, hz⟩) rfl (.tmp 0) rfl rfl ?_; intro w1 v1 b1 _; have B1 : Hid (Below w.heap.size w w1) := hid b1)
    | (go_at_call 9; refine (live_any w1).mono ?_; rintro e w2 ⟨rfl, b2⟩; have v2 := v1.below2 b2; have B2 : Hid (Below w.heap.size w w2) := hid (B1.out.trans (b2.mono B1.out.size)))
    | (go_at_call 10; refine (few_any A n c nx nw hz w2 _ HFEW.out).mono ?_; rintro e w3 ⟨rfl, b3⟩; have v3 := v2.below2 b3; have B3 : Hid (Below w.heap.size w w3) := hid (B2.out.trans (b3.mono B2.out.size)))
    | (refine wpList_ldq rfl (.tmp 3) rfl rfl v2 ?_))
  go_ret
  exact ⟨rfl, B3.out⟩
set_option maxRecDepth 100000 in
set_option maxHeartbeats 1000000 in
theorem back_err (A : Option Addr) (n c : Nat) (nx nw hz at_ cl : Int) (xs : List It) (w : World) (E : Int) (ha : Row w w.heap.size A n xs) (hn : n ≤ 200) (hs : SqOk xs) (hE : postE nx nw hz xs at_ cl = E) (h0 : E ≠ 0) :
    Calls Try.prog 7 #[qv ⟨A, n, c, nx, nw, hz⟩, .int .i64 at_, .int .i64 cl] w fun e w' => e = .returned (.bool true) ∧ Below w.heap.size w w' := by
  have HFEW : Hid (decide ((n : Int) ≤ 200) = true) := hid (decide_eq_true (by omega))
  have P1 := hid (fun w' (hb : Below w.heap.size w w') => post_err A n c nx nw hz w.heap.size xs w' at_ cl 1 2 3 E (ha.below hb) hb.size (by omega) hs hE h0)
  have hd : (E != 0) = true := by simpa using h0
  have HA := hid ha
  clear ha hs hE h0
  go_enter Try.func7, Try.ntmps7
  go_wp2_with (first
    | (refine wpList_boxq (q := ⟨A, n, c, nx, nw, hz⟩) rfl (.tmp 0) rfl rfl ?_; intro w1 v1 b1 _; have B1 : Hid (Below w.heap.size w w1) := hid b1)
    | (go_at_call 9; refine (live_any w1).mono ?_; rintro e w2 ⟨rfl, b2⟩; have v2 := v1.below2 b2; have B2 : Hid (Below w.heap.size w w2) := hid (B1.out.trans (b2.mono B1.out.size)))
    | (go_at_call 10; refine (few_any A n c nx nw hz w2 _ HFEW.out).mono ?_; rintro e w3 ⟨rfl, b3⟩; have v3 := v2.below2 b3; have B3 : Hid (Below w.heap.size w w3) := hid (B2.out.trans (b3.mono B2.out.size)))
    | (go_at_call 12; refine (P1.out w3 B3.out).mono ?_; rintro e w4 ⟨A4, c4, l4, rfl, rfl, q4⟩; have v4 := v3.below2 q4.2.2; have B4 : Hid (Below w.heap.size w w4) := hid (B3.out.trans (q4.2.2.mono B3.out.size)))
    | (refine wpList_alq rfl rfl ?_; intro w5 a5 b5 _; have v5 := v4.below2 b5; have r5 := q4.1.below b5; have B5 : Hid (Below w.heap.size w w5) := hid (B4.out.trans (b5.mono B4.out.size)))
    | (refine wpList_svq rfl (.tmp 8) (.tmp 28) rfl rfl rfl a5 ?_; intro w6 a6 b6 _ s6; have v6 := v5.below b6 v4.lt; have r6 := r5.below b6; have B6 : Hid (Below w.heap.size w w6) := hid (B5.out.trans (b6.mono B4.out.size)); have Z6 : Hid (w4.heap.size ≤ w6.heap.size) := hid (Nat.le_trans b5.size b6.size))
    | (refine wpList_ldq rfl (.tmp 8) rfl rfl a6 ?_)
    | (refine wpList_ldq rfl (.tmp 3) rfl rfl v6 ?_)
    | (refine wpList_ldq rfl (.tmp 3) rfl rfl v3 ?_)
    | (refine wpList_ldq rfl (.tmp 3) rfl rfl v2 ?_)
    | (go_at_call 29; refine (ksame_yes A4 A n c4 n c w4.heap.size w.heap.size nx nw hz l4 l4 true w6 r6 (HA.out.below B6.out) Z6.out B6.out.size (by omega) (by omega) (by simp)).mono ?_; rintro e w7 ⟨rfl, b7⟩; have B7 : Hid (Below w.heap.size w w7) := hid (B6.out.trans (b7.mono B6.out.size))))
  go_ret
  exact ⟨rfl, B7.out⟩
set_option maxRecDepth 100000 in
set_option maxHeartbeats 2000000 in
theorem back_walk (A : Option Addr) (n c m n3 : Nat) (nx nx1 nx3 nw hz at_ cl tok err : Int) (xs : List It) (P3 : List It → List It → Prop) (w : World) (ha : Row w w.heap.size A n xs) (hn : n ≤ 200)
    (h1 : nx1 - 1 = nx) (h2 : 1 ≤ nx1) (h3 : nx1 ≤ 18446744073709551615)
    (hp1 : ∀ w', Below w.heap.size w w' → Calls Try.prog 12 #[qv ⟨A, n, c, nx, nw, hz⟩, .int .i64 at_, .int .i64 cl, .int .i64 1, .int .i64 2, .int .u64 3] w' (RetQ2 w' m nx1 nw hz nx 0 (fun l => Hp l ∧ l.Perm ((at_, cl, nx, 1, 2, 3) :: xs))))
    (hc1 : ∀ (A' : Option Addr) (c' : Nat) (l : List It) (B : Nat) (w' : World), Hp l → l.Perm ((at_, cl, nx, 1, 2, 3) :: xs) → Row w' B A' m l → B ≤ w'.heap.size → Calls Try.prog 15 #[qv ⟨A', m, c', nx1, nw, hz⟩, .int .u64 nx] w' (RetQ1 w' n nx1 nw hz 0 (fun l2 => Hp l2 ∧ l2.Perm xs)))
    (hc2 : ∀ (A' : Option Addr) (c' : Nat) (l : List It) (B : Nat) (w' : World), Hp l → l.Perm xs → Row w' B A' n l → B ≤ w'.heap.size → Calls Try.prog 15 #[qv ⟨A', n, c', nx1, nw, hz⟩, .int .u64 nx] w' (RetQ1 w' n nx1 nw hz 8 (· = l)))
    (hp2 : ∀ (A' : Option Addr) (c' : Nat) (l : List It) (B : Nat) (w' : World), Hp l → l.Perm xs → Row w' B A' n l → B ≤ w'.heap.size → Calls Try.prog 12 #[qv ⟨A', n, c', nx1, nw, hz⟩, .int .i64 at_, .int .i64 cl, .int .i64 1, .int .i64 2, .int .u64 3] w' (RetQ2 w' n3 nx3 nw hz tok err (P3 l)))
    (hfin : (err == 7) = true ∨ ((err == 7) = false ∧ (err == 0) = true ∧ (tok != nx) = true ∧ ((n3 : Int) == (m : Int)) = true)) :
    Calls Try.prog 7 #[qv ⟨A, n, c, nx, nw, hz⟩, .int .i64 at_, .int .i64 cl] w fun e w' => e = .returned (.bool true) ∧ Below w.heap.size w w' := by
  have HFEW : Hid (decide ((n : Int) ≤ 200) = true) := hid (decide_eq_true (by omega))
  have P1 := hid hp1
  have C1 := hid hc1
  have C2 := hid hc2
  have P2 := hid hp2
  have HA := hid ha
  have HX := hid h1
  clear ha hp1 hc1 hc2 hp2 h1
  rcases hfin with f1 | ⟨f1, f2, f3, f4⟩
  all_goals
    go_enter Try.func7, Try.ntmps7
    go_wp2_with (first
      | (refine wpList_boxq (q := ⟨A, n, c, nx, nw, hz⟩) rfl (.tmp 0) rfl rfl ?_; intro w1 v1 b1 _; have B1 : Hid (Below w.heap.size w w1) := hid b1)
      | (go_at_call 9; refine (live_any w1).mono ?_; rintro e w2 ⟨rfl, b2⟩; have v2 := v1.below2 b2; have B2 : Hid (Below w.heap.size w w2) := hid (B1.out.trans (b2.mono B1.out.size)))
      | (go_at_call 10; refine (few_any A n c nx nw hz w2 _ HFEW.out).mono ?_; rintro e w3 ⟨rfl, b3⟩; have v3 := v2.below2 b3; have B3 : Hid (Below w.heap.size w w3) := hid (B2.out.trans (b3.mono B2.out.size)))
      | (go_at_call 12; refine (P2.out A7 c7 l7 w7.heap.size w12 p7.1 p7.2 r12 Z12.out).mono ?_; rintro e w13 ⟨A13, c13, l13, rfl, p13, q13⟩; have v13 := v12.below2 q13.2.2; have a13 := a12.below2 q13.2.2; have d13 := d12.below2 q13.2.2; have r13 := r12.below (q13.2.2.mono Z12.out); have B13 : Hid (Below w.heap.size w w13) := hid (B12.out.trans (q13.2.2.mono B12.out.size)); have Z13 : Hid (w7.heap.size ≤ w13.heap.size) := hid (Nat.le_trans Z12.out q13.2.2.size))
      | (go_at_call 12; refine (P1.out w3 B3.out).mono ?_; rintro e w4 ⟨A4, c4, l4, rfl, p4, q4⟩; have v4 := v3.below2 q4.2.2; have B4 : Hid (Below w.heap.size w w4) := hid (B3.out.trans (q4.2.2.mono B3.out.size)))
      | (refine wpList_svq rfl (.tmp 15) (.tmp 56) rfl rfl rfl e14 ?_; intro w15 e15 b15 _ _; have v15 := v14.below b15 v13.lt; have a15 := a14.below b15 a13.lt; have d15 := d14.below b15 d13.lt; have r15 := r14.below (b15.mono Z13.out); have B15 : Hid (Below w.heap.size w w15) := hid (B14.out.trans (b15.mono B13.out.size)); have Z15 : Hid (w7.heap.size ≤ w15.heap.size) := hid (Nat.le_trans Z14.out b15.size); have dd : w15.cell? ⟨w7.heap.size, 1, none⟩ = some (.int .u64 nx1) := d15.c1)
      | (refine wpList_alq rfl rfl ?_; intro w14 e14 b14 _; have v14 := v13.below2 b14; have a14 := a13.below2 b14; have d14 := d13.below2 b14; have r14 := r13.below (b14.mono Z13.out); have B14 : Hid (Below w.heap.size w w14) := hid (B13.out.trans (b14.mono B13.out.size)); have Z14 : Hid (w7.heap.size ≤ w14.heap.size) := hid (Nat.le_trans Z13.out b14.size))
      | (refine wpList_svq rfl (.tmp 13) (.tmp 49) rfl rfl rfl e11 ?_; intro w12 e12 b12 _ _; have v12 := v11.below b12 v10.lt; have a12 := a11.below b12 a10.lt; have d12 := d11.below b12 d10.lt; have r12 := r11.below (b12.mono Z10.out); have B12 : Hid (Below w.heap.size w w12) := hid (B11.out.trans (b12.mono B10.out.size)); have Z12 : Hid (w7.heap.size ≤ w12.heap.size) := hid (Nat.le_trans Z11.out b12.size))
      | (refine wpList_alq rfl rfl ?_; intro w11 e11 b11 _; have v11 := v10.below2 b11; have a11 := a10.below2 b11; have d11 := d10.below2 b11; have r11 := r10.below (b11.mono Z10.out); have B11 : Hid (Below w.heap.size w w11) := hid (B10.out.trans (b11.mono B10.out.size)); have Z11 : Hid (w7.heap.size ≤ w11.heap.size) := hid (Nat.le_trans Z10.out b11.size))
      | (go_at_call 15; refine (C2.out A7 c7 l7 w7.heap.size w9 p7.1 p7.2 r9 Z9.out).mono ?_; rintro e w10 ⟨A10, c10, l10, rfl, p10, q10⟩; have v10 := v9.below2 q10.2.2; have a10 := a9.below2 q10.2.2; have d10 := d9.below2 q10.2.2; have r10 := r9.below (q10.2.2.mono Z9.out); have B10 : Hid (Below w.heap.size w w10) := hid (B9.out.trans (q10.2.2.mono B9.out.size)); have Z10 : Hid (w7.heap.size ≤ w10.heap.size) := hid (Nat.le_trans Z9.out q10.2.2.size))
      | (refine wpList_svq rfl (.tmp 11) (.tmp 43) rfl rfl rfl d8 ?_; intro w9 d9 b9 _ _; have v9 := v8.below b9 v7.lt; have a9 := a8.below b9 a7.lt; have r9 := r8.below b9; have B9 : Hid (Below w.heap.size w w9) := hid (B8.out.trans (b9.mono B7.out.size)); have Z9 : Hid (w7.heap.size ≤ w9.heap.size) := hid (Nat.le_trans b8.size b9.size))
      | (refine wpList_alq rfl rfl ?_; intro w8 d8 b8 _; have v8 := v7.below2 b8; have a8 := a7.below2 b8; have r8 := q7.1.below b8; have B8 : Hid (Below w.heap.size w w8) := hid (B7.out.trans (b8.mono B7.out.size)))
      | (go_at_call 15; refine (C1.out A4 c4 l4 w4.heap.size w6 p4.1 p4.2 r6 Z6.out).mono ?_; rintro e w7 ⟨A7, c7, l7, rfl, p7, q7⟩; have v7 := v6.below2 q7.2.2; have a7 := a6.below2 q7.2.2; have B7 : Hid (Below w.heap.size w w7) := hid (B6.out.trans (q7.2.2.mono B6.out.size)); have N7 : Hid (w4.heap.size < w7.heap.size) := hid a7.lt; have N0 : Hid (w.heap.size < w7.heap.size) := hid v7.lt)
      | (refine wpList_svq rfl (.tmp 8) (.tmp 28) rfl rfl rfl a5 ?_; intro w6 a6 b6 _ _; have v6 := v5.below b6 v4.lt; have r6 := r5.below b6; have B6 : Hid (Below w.heap.size w w6) := hid (B5.out.trans (b6.mono B4.out.size)); have Z6 : Hid (w4.heap.size ≤ w6.heap.size) := hid (Nat.le_trans b5.size b6.size))
      | (refine wpList_alq rfl rfl ?_; intro w5 a5 b5 _; have v5 := v4.below2 b5; have r5 := q4.1.below b5; have B5 : Hid (Below w.heap.size w w5) := hid (B4.out.trans (b5.mono B4.out.size)))
      | (refine wpList_sf1 rfl (.tmp 62) (.tmp 61) rfl rfl rfl d15 ?_; intro w16 d16 b16 o16 _; rw [HX.out] at d16; have v16 := v15.other o16 (by have := N0.out; omega); have a16 := a15.other o16 (by have := N7.out; omega); have e16 := e15.other o16 (by have := d13.lt; omega); have r16 := r15.below b16; have B16 : Hid (Below w.heap.size w w16) := hid (B15.out.trans (b16.mono B7.out.size)); have Z16 : Hid (w7.heap.size ≤ w16.heap.size) := hid (Nat.le_trans Z15.out b16.size))
      | (refine wpList_ldq rfl (.tmp 11) rfl rfl d16 ?_)
      | (refine wpList_ldq rfl (.tmp 11) rfl rfl d12 ?_)
      | (refine wpList_ldq rfl (.tmp 11) rfl rfl d9 ?_)
      | (refine wpList_ldq rfl (.tmp 8) rfl rfl a6 ?_)
      | (refine wpList_ldq rfl (.tmp 3) rfl rfl v16 ?_)
      | (refine wpList_ldq rfl (.tmp 3) rfl rfl v3 ?_)
      | (refine wpList_ldq rfl (.tmp 3) rfl rfl v2 ?_)
      | (go_at_call 29; refine (ksame_yes A7 A n c7 n c w7.heap.size w.heap.size nx nw hz l7 xs true w16 r16 (HA.out.below B16.out) Z16.out B16.out.size (by omega) (by omega) (by rw [srt_of_perm p7.2]; simp)).mono ?_; rintro e w17 ⟨rfl, b17⟩; have B17 : Hid (Below w.heap.size w w17) := hid (B16.out.trans (b17.mono B16.out.size)); have z1 : w17.cell? ⟨w13.heap.size, 0, none⟩ = some (.slice A13 n3 c13) := (e16.below2 b17).c0; have z2 : w17.cell? ⟨w4.heap.size, 0, none⟩ = some (.slice A4 m c4) := (a16.below2 b17).c0))
    go_ret
    exact ⟨rfl, B17.out⟩

theorem back_row {w : World} (A : Option Addr) (n c : Nat) (nx nw hz : Int) (xs : List It) (ha : Row w w.heap.size A n xs) (_ : n ≤ c) (_ : c ≤ 9223372036854775807) (hs : SqOk xs) (hx0 : 0 ≤ nx) (hx1 : nx ≤ 18446744073709551615) (at_ : Int) (_ : -9223372036854775808 ≤ at_) (_ : at_ ≤ 9223372036854775807) (cl : Int) (_ : -9223372036854775808 ≤ cl) (_ : cl ≤ 9223372036854775807) :
    Calls Try.prog 7 #[qv ⟨A, n, c, nx, nw, hz⟩, .int .i64 at_, .int .i64 cl] w fun e w' => e = .returned (.bool true) ∧ Below w.heap.size w w' := by
  by_cases hn : n ≤ 200
  · by_cases hE : postE nx nw hz xs at_ cl = 0
    · obtain ⟨hok, hf, hat, hne⟩ := postE_zero.1 hE
      have hlt : nx < 18446744073709551615 := by omega
      have hp1 := fun (w' : World) (hb : Below w.heap.size w w') => post_ok A n c nx nw hz w.heap.size xs w' at_ cl 1 2 3 (ha.below hb) hb.size (by omega) hs hE hx0 hlt (ok_hp hok)
      have hc1 := cancel_posted (wh := 1) (wo := 2) (nn := 3) ha.1 hok hf hat (by omega) hs hx0 hlt
      have hc2 := cancel_gone ha.1 hok (by omega) hs
      have hok2 : ∀ l, Hp l → l.Perm xs → okB (nx + 1) nw hz l = true := fun l hh hp => by
        have hok1 : okB nx nw hz l = true := by rw [ok_perm hp (by rw [ok_chk hok]; exact (chk_iff l).2 hh)]; exact hok
        rw [okB_iff] at hok1 ⊢
        obtain ⟨h1, h2, h3, h4, h5, h6, h7⟩ := hok1
        exact ⟨h1, h2, h3, h4, h5, h6, fun x hx => ⟨by have := (h7 x hx).1; omega, (h7 x hx).2⟩⟩
      by_cases hm : nx + 1 = 18446744073709551615
      · refine back_walk A n c (n + 1) n nx (nx + 1) (nx + 1) nw hz at_ cl 0 7 xs (fun l => (· = l)) w ha hn (by omega) (by omega) (by omega) hp1 hc1 hc2 (fun A' c' l B w' hh hp hr hB => ?_) (.inl rfl)
        exact post_err A' n c' (nx + 1) nw hz B l w' at_ cl 1 2 3 7 hr hB (by omega) (hs.perm hp) (by
          unfold postE; rw [hok2 l hh hp, hf, if_pos rfl, if_pos rfl, if_neg (by omega), if_pos hm]) (by omega)
      · refine back_walk A n c (n + 1) (n + 1) nx (nx + 1) (nx + 1 + 1) nw hz at_ cl (nx + 1) 0 xs (fun l l3 => Hp l3 ∧ l3.Perm ((at_, cl, nx + 1, 1, 2, 3) :: l)) w ha hn (by omega) (by omega) (by omega) hp1 hc1 hc2 (fun A' c' l B w' hh hp hr hB => ?_) (.inr ⟨rfl, rfl, by simp; omega, by simp⟩)
        exact post_ok A' n c' (nx + 1) nw hz B l w' at_ cl 1 2 3 hr hB (by omega) (hs.perm hp) (postE_zero.2 ⟨hok2 l hh hp, hf, hat, hm⟩) (by omega) (by omega) hh
    · exact back_err A n c nx nw hz at_ cl xs w _ ha hn hs rfl hE
  · exact back_many A n c nx nw hz at_ cl w (by omega)
end Go.Proofs.Ytpfidohneddgkaa
