/-
  Contracts of lex.written and lex.Text: any token's text, or that it is none (P14.3; texts of at most 2^40 bytes); under: the tables hold what the program lays (LaidW).
-/
import Derived.Test.YtfdieablcffdkaaGreatDoorLK
namespace Go.Proofs.YtfdieablcffdkaaGreatDoor
open Go Go.RowKit Go.Joins

/-- the greatest unit of which a time is a whole number -/
def unitOf (t : Int) : List UInt8 × Int :=
  if t = 0 then ([112, 115], 1) else if t.tmod 1000000000000 = 0 then ([115], 1000000000000) else if t.tmod 1000000000 = 0 then ([109, 115], 1000000000) else if t.tmod 1000000 = 0 then ([117, 115], 1000000) else if t.tmod 1000 = 0 then ([110, 115], 1000) else ([112, 115], 1)
theorem greatest_of (t : Int) : UnitIs (bA (unitOf t).1) (unitOf t).2 ∧ t.tdiv (unitOf t).2 * (unitOf t).2 = t ∧ GreatestSaid t (bA (unitOf t).1) (unitOf t).2 := by
  by_cases h0 : t = 0
  · subst h0
    exact ⟨.inl ⟨rfl, rfl⟩, by decide, fun w hL => greatest_zero w hL⟩
  have hz : (t != 0) = true := by simp [h0]
  unfold unitOf
  rw [if_neg h0]
  have d4 : t.tmod 1000000000000 = 0 → t.tmod 1000000000 = 0 := fun h => dvd_tmod (Int.dvd_trans ⟨1000, by decide⟩ (tmod_dvd h))
  have d3 : t.tmod 1000000000 = 0 → t.tmod 1000000 = 0 := fun h => dvd_tmod (Int.dvd_trans ⟨1000, by decide⟩ (tmod_dvd h))
  have d2 : t.tmod 1000000 = 0 → t.tmod 1000 = 0 := fun h => dvd_tmod (Int.dvd_trans ⟨1000, by decide⟩ (tmod_dvd h))
  by_cases h4 : t.tmod 1000000000000 = 0
  · rw [if_pos h4]
    exact ⟨.inr (.inr (.inr (.inr ⟨rfl, rfl⟩))), Int.tdiv_mul_cancel (tmod_dvd h4), fun w hL => greatest_4 t w hL hz (tm _ _ (d2 (d3 (d4 h4)))) (tm _ _ (d3 (d4 h4))) (tm _ _ (d4 h4)) (tm _ _ h4)⟩
  rw [if_neg h4]
  by_cases h3 : t.tmod 1000000000 = 0
  · rw [if_pos h3]
    exact ⟨.inr (.inr (.inr (.inl ⟨rfl, rfl⟩))), Int.tdiv_mul_cancel (tmod_dvd h3), fun w hL => greatest_3 t w hL hz (tm _ _ (d2 (d3 h3))) (tm _ _ (d3 h3)) (tm _ _ h3) (tmn _ _ h4)⟩
  rw [if_neg h3]
  by_cases h2 : t.tmod 1000000 = 0
  · rw [if_pos h2]
    exact ⟨.inr (.inr (.inl ⟨rfl, rfl⟩)), Int.tdiv_mul_cancel (tmod_dvd h2), fun w hL => greatest_2 t w hL hz (tm _ _ (d2 h2)) (tm _ _ h2) (tmn _ _ h3) (tmn _ _ h4)⟩
  rw [if_neg h2]
  by_cases h1 : t.tmod 1000 = 0
  · rw [if_pos h1]
    exact ⟨.inr (.inl ⟨rfl, rfl⟩), Int.tdiv_mul_cancel (tmod_dvd h1), fun w hL => greatest_1 t w hL hz (tm _ _ h1) (tmn _ _ h2) (tmn _ _ h3) (tmn _ _ h4)⟩
  rw [if_neg h1]
  exact ⟨.inl ⟨rfl, rfl⟩, by simp, fun w hL => greatest_0 t w hL hz (tmn _ _ h1) (tmn _ _ h2) (tmn _ _ h3) (tmn _ _ h4)⟩

/-- a number's text, a time's -/
def numT (n : Int) (time : Bool) : List UInt8 := if time then Lib.itoa (n.tdiv (unitOf n).2) ++ (unitOf n).1 else Lib.itoa n

set_option maxRecDepth 100000 in
theorem written_any (t : Tk) (w : World) (hL : LaidW w) (hs : smallI t.n = true) :
    Calls Tryz.prog 19 #[tkV t] w fun e w' => e = .returned (.string (bA (numT t.n t.time))) ∧ Below w.heap.size w w' := by
  obtain ⟨k, s, n, tm⟩ := t
  have hs' : -1000000000000000000 < n ∧ n < 1000000000000000000 := by simpa [smallI] using hs
  have HL := hid hL
  clear hL hs
  cases tm
  · have HF := hid (fun w hL => fmt_any n w hL (by omega) (by omega))
    go_enter Tryz.func19, Tryz.ntmps19
    go_wp2_with (first
      | (go_at_call 34; refine (HF.out _ (HL.out.below B1.out)).mono ?_; rintro e w2 ⟨rfl, g2⟩; have B2 := hid (B1.out.trans (g2.mono B1.out.size)); clear g2)
      | (refine Sh.wp_box tkS (x := ⟨k, s, n, false⟩) rfl (.tmp 0) rfl rfl ?_; intro w1 v1 b1 s1; have c2 : w1.cell? ⟨w.heap.size, 2, none⟩ = some (.int .i64 n) := v1.cell (j := 2) rfl; have c3 : w1.cell? ⟨w.heap.size, 3, none⟩ = some (.bool false) := v1.cell (j := 3) rfl; have B1 := hid b1; clear v1 b1 s1))
    go_ret
    exact ⟨rfl, B2.out⟩
  · have hg := greatest_of n
    have HF := hid (fun w hL => text_ok n (unitOf n).2 (bA (unitOf n).1) w hL (by omega) (by omega) (unit_size hg.1).1 (unit_size hg.1).2 hg.2.2)
    have he : Hid (bA (numT n true) = ⟨(Lib.itoa (n.tdiv (unitOf n).2)).toArray⟩ ++ bA (unitOf n).1) := hid (bA_app _ _)
    generalize (⟨(Lib.itoa (n.tdiv (unitOf n).2)).toArray⟩ : ByteArray) ++ bA (unitOf n).1 = z at *
    clear hg
    go_enter Tryz.func19, Tryz.ntmps19
    go_wp2_with (first
      | (go_at_call 35; refine (HF.out _ (HL.out.below B1.out)).mono ?_; rintro e w2 ⟨rfl, g2⟩; have B2 := hid (B1.out.trans (g2.mono B1.out.size)); clear g2)
      | (refine Sh.wp_box tkS (x := ⟨k, s, n, true⟩) rfl (.tmp 0) rfl rfl ?_; intro w1 v1 b1 s1; have c2 : w1.cell? ⟨w.heap.size, 2, none⟩ = some (.int .i64 n) := v1.cell (j := 2) rfl; have c3 : w1.cell? ⟨w.heap.size, 3, none⟩ = some (.bool true) := v1.cell (j := 3) rfl; have B1 := hid b1; clear v1 b1 s1))
    go_ret
    exact ⟨by rw [he.out]; rfl, B2.out⟩

/-- a token's text, if it is one -/
def textF (t : Tk) : Option (List UInt8) :=
  if t.kind = 2 ∧ smallI t.n = true then some (numT t.n t.time)
  else if t.n ≠ 0 ∨ t.time = true then none
  else if t.kind = 1 ∧ wordB t.s = true then some t.s
  else if t.kind = 3 ∧ signL t.s = true then some t.s else none
def textR (t : Tk) : Value := match textF t with
  | some l => .tuple #[.string (bA l), .int .i64 0]
  | none => .tuple #[.string ⟨#[]⟩, .int .i64 1]

set_option maxRecDepth 100000 in
theorem text_any (t : Tk) (w : World) (hL : LaidW w) (hsz : t.s.length ≤ 1099511627776) :
    Calls Tryz.prog 7 #[tkV t] w fun e w' => e = .returned (textR t) ∧ Below w.heap.size w w' := by
  obtain ⟨k, s, n, tm⟩ := t
  have HL := hid hL
  have hsz : s.length ≤ 1099511627776 := hsz
  have hz := bA_size s
  have HW := hid (fun w => word_any (bA s) w (by rw [hz]; omega))
  unfold WordPost at HW
  rw [bA_list] at HW
  have HS := hid (fun w => by have := sign_any (bA s) w; rwa [bA_list] at this)
  have HC := hid (fun w => clone_any (bA s) w (by rw [hz]; omega))
  have HB := hid (fun w => small_any n w)
  have eb : (decide (-1000000000000000000 < n) && decide (n < 1000000000000000000)) = smallI n := rfl
  rw [eb] at HB
  clear eb
  have HN := hid (fun w hL hs => written_any ⟨k, s, n, tm⟩ w hL hs)
  have hb : strB s = bA s := rfl
  clear hL hz hsz
  by_cases h2 : k = 2
  · subst h2
    cases hsm : smallI n with
    | true =>
      have HR : Hid (textF ⟨2, s, n, tm⟩ = some (numT n tm)) := hid (by unfold textF; rw [if_pos ⟨rfl, hsm⟩])
      have HN := hid (fun w hL => HN.out w hL hsm)
      have HB := hid (fun w => by have := HB.out w; rwa [hsm] at this)
      clear HW HS HC hsm
      go_enter Tryz.func7, Tryz.ntmps7
      go_wp2_with (first
        | (go_at_call 19; refine (HN.out _ (HL.out.below B1.out)).mono ?_; rintro e w2 ⟨rfl, g2⟩; have B2 := hid (B1.out.trans (g2.mono B1.out.size)); clear g2)
        | (refine Sh.wp_ld tkS rfl (.tmp 1) rfl rfl V1.out.1 ?_)
        | (go_at_call 18; refine (HB.out _).mono ?_; rintro e w' ⟨rfl, e7⟩; rw [e7]; clear e7 w')
        | (refine Sh.wp_box tkS (x := ⟨2, s, n, tm⟩) rfl (.tmp 0) rfl rfl ?_; intro w1 v1 b1 s1; have c0 : w1.cell? ⟨w.heap.size, 0, none⟩ = some (.int .i64 2) := v1.cell (j := 0) rfl; have c1 : w1.cell? ⟨w.heap.size, 1, none⟩ = some (.string (bA s)) := v1.cell (j := 1) rfl; have c2 : w1.cell? ⟨w.heap.size, 2, none⟩ = some (.int .i64 n) := v1.cell (j := 2) rfl; have c3 : w1.cell? ⟨w.heap.size, 3, none⟩ = some (.bool tm) := v1.cell (j := 3) rfl; have B1 := hid b1; have V1 := hid v1; clear v1 b1 s1))
      go_ret2
      exact ⟨by unfold textR; rw [HR.out]; rfl, B2.out⟩
    | false =>
      have hn0 : n ≠ 0 := by
        rintro rfl
        exact absurd hsm (by decide)
      have HR : Hid (textF ⟨2, s, n, tm⟩ = none) := hid (by unfold textF; rw [if_neg (by rintro ⟨_, h⟩; rw [hsm] at h; cases h), if_pos (.inl hn0)])
      have HB := hid (fun w => by have := HB.out w; rwa [hsm] at this)
      have hn1 : (n != 0) = true := by simp [hn0]
      clear HW HS HC HN hsm hn0
      go_enter Tryz.func7, Tryz.ntmps7
      go_wp2_with (first
        | (go_at_call 18; refine (HB.out _).mono ?_; rintro e w' ⟨rfl, e7⟩; rw [e7]; clear e7 w')
        | (refine Sh.wp_box tkS (x := ⟨2, s, n, tm⟩) rfl (.tmp 0) rfl rfl ?_; intro w1 v1 b1 s1; have c0 : w1.cell? ⟨w.heap.size, 0, none⟩ = some (.int .i64 2) := v1.cell (j := 0) rfl; have c1 : w1.cell? ⟨w.heap.size, 1, none⟩ = some (.string (bA s)) := v1.cell (j := 1) rfl; have c2 : w1.cell? ⟨w.heap.size, 2, none⟩ = some (.int .i64 n) := v1.cell (j := 2) rfl; have c3 : w1.cell? ⟨w.heap.size, 3, none⟩ = some (.bool tm) := v1.cell (j := 3) rfl; have B1 := hid b1; have V1 := hid v1; clear v1 b1 s1))
      go_ret2
      exact ⟨by unfold textR; rw [HR.out]; rfl, B1.out⟩
  have hk2 : (k == 2) = false := beq_eq_false_iff_ne.2 h2
  clear HB HN
  by_cases hn0 : n = 0
  · subst hn0
    cases tm with
    | true =>
      have HR : Hid (textF ⟨k, s, 0, true⟩ = none) := hid (by unfold textF; rw [if_neg (fun h => h2 h.1), if_pos (.inr rfl)])
      clear HW HS HC h2
      go_enter Tryz.func7, Tryz.ntmps7
      go_wp2_with (first
        | (refine Sh.wp_box tkS (x := ⟨k, s, 0, true⟩) rfl (.tmp 0) rfl rfl ?_; intro w1 v1 b1 s1; have c0 : w1.cell? ⟨w.heap.size, 0, none⟩ = some (.int .i64 k) := v1.cell (j := 0) rfl; have c1 : w1.cell? ⟨w.heap.size, 1, none⟩ = some (.string (bA s)) := v1.cell (j := 1) rfl; have c2 : w1.cell? ⟨w.heap.size, 2, none⟩ = some (.int .i64 0) := v1.cell (j := 2) rfl; have c3 : w1.cell? ⟨w.heap.size, 3, none⟩ = some (.bool true) := v1.cell (j := 3) rfl; have B1 := hid b1; have V1 := hid v1; clear v1 b1 s1))
      go_ret2
      exact ⟨by unfold textR; rw [HR.out]; rfl, B1.out⟩
    | false =>
      by_cases h1 : k = 1
      · subst h1
        cases hw : wordB s with
        | true =>
          have HR : Hid (textF ⟨1, s, 0, false⟩ = some s) := hid (by unfold textF; rw [if_neg (fun h => h2 h.1), if_neg (by simp), if_pos ⟨rfl, hw⟩])
          rw [hw] at HW
          clear HS hw h2
          go_enter Tryz.func7, Tryz.ntmps7
          go_wp2_with (first
            | (go_at_call 21; refine (HC.out _).mono ?_; rintro e w3 ⟨rfl, g3⟩; have B3 := hid (B2.out.trans (g3.mono B2.out.size)); clear g3)
            | (go_at_call 13; refine (HW.out _).mono ?_; rintro e w2 ⟨rfl, g2⟩; have V2 := hid (V1.out.keep g2); have d0 : w2.cell? ⟨w.heap.size, 0, none⟩ = some (.int .i64 1) := V2.out.cell (j := 0) rfl; have d1 : w2.cell? ⟨w.heap.size, 1, none⟩ = some (.string (bA s)) := V2.out.cell (j := 1) rfl; have B2 := hid (B1.out.trans (g2.mono B1.out.size)); clear g2)
            | (refine Sh.wp_box tkS (x := ⟨1, s, 0, false⟩) rfl (.tmp 0) rfl rfl ?_; intro w1 v1 b1 s1; have c0 : w1.cell? ⟨w.heap.size, 0, none⟩ = some (.int .i64 1) := v1.cell (j := 0) rfl; have c1 : w1.cell? ⟨w.heap.size, 1, none⟩ = some (.string (bA s)) := v1.cell (j := 1) rfl; have c2 : w1.cell? ⟨w.heap.size, 2, none⟩ = some (.int .i64 0) := v1.cell (j := 2) rfl; have c3 : w1.cell? ⟨w.heap.size, 3, none⟩ = some (.bool false) := v1.cell (j := 3) rfl; have B1 := hid b1; have V1 := hid v1; clear v1 b1 s1))
          go_ret2
          exact ⟨by unfold textR; rw [HR.out]; rfl, B3.out⟩
        | false =>
          have HR : Hid (textF ⟨1, s, 0, false⟩ = none) := hid (by unfold textF; rw [if_neg (fun h => h2 h.1), if_neg (by simp), if_neg (by rintro ⟨_, h⟩; rw [hw] at h; cases h), if_neg (fun h => by have : (1 : Int) = 3 := h.1; omega)])
          rw [hw] at HW
          clear HS HC hw h2
          go_enter Tryz.func7, Tryz.ntmps7
          go_wp2_with (first
            | (go_at_call 13; refine (HW.out _).mono ?_; rintro e w2 ⟨rfl, g2⟩; have V2 := hid (V1.out.keep g2); have d0 : w2.cell? ⟨w.heap.size, 0, none⟩ = some (.int .i64 1) := V2.out.cell (j := 0) rfl; have d1 : w2.cell? ⟨w.heap.size, 1, none⟩ = some (.string (bA s)) := V2.out.cell (j := 1) rfl; have B2 := hid (B1.out.trans (g2.mono B1.out.size)); clear g2)
            | (refine Sh.wp_box tkS (x := ⟨1, s, 0, false⟩) rfl (.tmp 0) rfl rfl ?_; intro w1 v1 b1 s1; have c0 : w1.cell? ⟨w.heap.size, 0, none⟩ = some (.int .i64 1) := v1.cell (j := 0) rfl; have c1 : w1.cell? ⟨w.heap.size, 1, none⟩ = some (.string (bA s)) := v1.cell (j := 1) rfl; have c2 : w1.cell? ⟨w.heap.size, 2, none⟩ = some (.int .i64 0) := v1.cell (j := 2) rfl; have c3 : w1.cell? ⟨w.heap.size, 3, none⟩ = some (.bool false) := v1.cell (j := 3) rfl; have B1 := hid b1; have V1 := hid v1; clear v1 b1 s1))
          go_ret2
          exact ⟨by unfold textR; rw [HR.out]; rfl, B2.out⟩
      have hk1 : (k == 1) = false := beq_eq_false_iff_ne.2 h1
      by_cases h3 : k = 3
      · subst h3
        cases hw : signL s with
        | true =>
          have HR : Hid (textF ⟨3, s, 0, false⟩ = some s) := hid (by unfold textF; rw [if_neg (fun h => h2 h.1), if_neg (by simp), if_neg (fun h => h1 h.1), if_pos ⟨rfl, hw⟩])
          rw [hw] at HS
          clear HW hw h2 h1
          go_enter Tryz.func7, Tryz.ntmps7
          go_wp2_with (first
            | (go_at_call 21; refine (HC.out _).mono ?_; rintro e w2 ⟨rfl, g2⟩; have B2 := hid (B1.out.trans (g2.mono B1.out.size)); clear g2)
            | (go_at_call 20; refine (HS.out _).mono ?_; rintro e w' ⟨rfl, e7⟩; rw [e7]; clear e7 w')
            | (refine Sh.wp_box tkS (x := ⟨3, s, 0, false⟩) rfl (.tmp 0) rfl rfl ?_; intro w1 v1 b1 s1; have c0 : w1.cell? ⟨w.heap.size, 0, none⟩ = some (.int .i64 3) := v1.cell (j := 0) rfl; have c1 : w1.cell? ⟨w.heap.size, 1, none⟩ = some (.string (bA s)) := v1.cell (j := 1) rfl; have c2 : w1.cell? ⟨w.heap.size, 2, none⟩ = some (.int .i64 0) := v1.cell (j := 2) rfl; have c3 : w1.cell? ⟨w.heap.size, 3, none⟩ = some (.bool false) := v1.cell (j := 3) rfl; have B1 := hid b1; have V1 := hid v1; clear v1 b1 s1))
          go_ret2
          exact ⟨by unfold textR; rw [HR.out]; rfl, B2.out⟩
        | false =>
          have HR : Hid (textF ⟨3, s, 0, false⟩ = none) := hid (by unfold textF; rw [if_neg (fun h => h2 h.1), if_neg (by simp), if_neg (fun h => h1 h.1), if_neg (by rintro ⟨_, h⟩; rw [hw] at h; cases h)])
          rw [hw] at HS
          clear HW HC hw h2 h1
          go_enter Tryz.func7, Tryz.ntmps7
          go_wp2_with (first
            | (go_at_call 20; refine (HS.out _).mono ?_; rintro e w' ⟨rfl, e7⟩; rw [e7]; clear e7 w')
            | (refine Sh.wp_box tkS (x := ⟨3, s, 0, false⟩) rfl (.tmp 0) rfl rfl ?_; intro w1 v1 b1 s1; have c0 : w1.cell? ⟨w.heap.size, 0, none⟩ = some (.int .i64 3) := v1.cell (j := 0) rfl; have c1 : w1.cell? ⟨w.heap.size, 1, none⟩ = some (.string (bA s)) := v1.cell (j := 1) rfl; have c2 : w1.cell? ⟨w.heap.size, 2, none⟩ = some (.int .i64 0) := v1.cell (j := 2) rfl; have c3 : w1.cell? ⟨w.heap.size, 3, none⟩ = some (.bool false) := v1.cell (j := 3) rfl; have B1 := hid b1; have V1 := hid v1; clear v1 b1 s1))
          go_ret2
          exact ⟨by unfold textR; rw [HR.out]; rfl, B1.out⟩
      have hk3 : (k == 3) = false := beq_eq_false_iff_ne.2 h3
      have HR : Hid (textF ⟨k, s, 0, false⟩ = none) := hid (by unfold textF; rw [if_neg (fun h => h2 h.1), if_neg (by simp), if_neg (fun h => h1 h.1), if_neg (fun h => h3 h.1)])
      clear HW HS HC h2 h1 h3
      go_enter Tryz.func7, Tryz.ntmps7
      go_wp2_with (first
        | (refine Sh.wp_box tkS (x := ⟨k, s, 0, false⟩) rfl (.tmp 0) rfl rfl ?_; intro w1 v1 b1 s1; have c0 : w1.cell? ⟨w.heap.size, 0, none⟩ = some (.int .i64 k) := v1.cell (j := 0) rfl; have c1 : w1.cell? ⟨w.heap.size, 1, none⟩ = some (.string (bA s)) := v1.cell (j := 1) rfl; have c2 : w1.cell? ⟨w.heap.size, 2, none⟩ = some (.int .i64 0) := v1.cell (j := 2) rfl; have c3 : w1.cell? ⟨w.heap.size, 3, none⟩ = some (.bool false) := v1.cell (j := 3) rfl; have B1 := hid b1; have V1 := hid v1; clear v1 b1 s1))
      go_ret2
      exact ⟨by unfold textR; rw [HR.out]; rfl, B1.out⟩
  · have HR : Hid (textF ⟨k, s, n, tm⟩ = none) := hid (by unfold textF; rw [if_neg (fun h => h2 h.1), if_pos (.inl hn0)])
    have hn1 : (n != 0) = true := by simp [hn0]
    clear HW HS HC hn0 h2
    go_enter Tryz.func7, Tryz.ntmps7
    go_wp2_with (first
      | (refine Sh.wp_box tkS (x := ⟨k, s, n, tm⟩) rfl (.tmp 0) rfl rfl ?_; intro w1 v1 b1 s1; have c0 : w1.cell? ⟨w.heap.size, 0, none⟩ = some (.int .i64 k) := v1.cell (j := 0) rfl; have c1 : w1.cell? ⟨w.heap.size, 1, none⟩ = some (.string (bA s)) := v1.cell (j := 1) rfl; have c2 : w1.cell? ⟨w.heap.size, 2, none⟩ = some (.int .i64 n) := v1.cell (j := 2) rfl; have c3 : w1.cell? ⟨w.heap.size, 3, none⟩ = some (.bool tm) := v1.cell (j := 3) rfl; have B1 := hid b1; have V1 := hid v1; clear v1 b1 s1))
    go_ret2
    exact ⟨by unfold textR; rw [HR.out]; rfl, B1.out⟩
end Go.Proofs.YtfdieablcffdkaaGreatDoor
