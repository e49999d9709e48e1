/-
  LT: Contracts of lex.written and lex.Text: any token's text, or that it is none (P14.3; texts of at most 2^40 bytes); under: the tables hold what the program lays (LaidW).
  LU: Plain words: a piece that is followed by what is no letter or digit; what numbers' and times' texts are cut into. No model's run; no condition.
  WA: Plain words of the printer: statements' text, and their tokens; what a text that is printed is cut into and parsed as. No model's run; no condition.
  WB: Plain words: what is parsed has the tokens of its text, but for how numbers looked; when parse.Check answers OK. No model's run; no condition.
  WC: A printer (a struct that embeds a strings.Builder) in a block of the call's own: what it holds (PB), what a call turns that writes to it alone (PMov); contracts of the embedded builder's copyCheck, WriteString, Len, String. Texts of at most 2^40 bytes.
  WD: Contract of a printer's line: a statement without its Body, behind what is there; under: the tables hold what the program lays, texts of at most 2^40 bytes.
-/
import Derived.Test.YtpkoboohnbkpoaaGreatDoorK4
import Derived.Test.YtpkoboohnbkpoaaGreatDoorK7
import Derived.Test.YtpkoboohnbkpoaaGreatDoorK2
import Derived.Test.YtpkoboohnbkpoaaGreatDoorK3
import Derived.Lib.Builder
import Derived.Lib.AppendStr
import Derived.Lib.UnsafeStr
import Derived.Shelf.Strings.BuilderX
import Derived.Deep.RegionHeld3
import Derived.StillTailTactics
/-! LT -/
namespace Go.Proofs.YtpkoboohnbkpoaaGreatDoor
open Go Go.RowKit Go.Joins

/-- the greatest unit of which a time is a whole number -/
def unitOf (t : Int) : List UInt8 × Int :=
  if t = 0 then ([112, 115], 1) else if t.tmod 1000000000000 = 0 then ([115], 1000000000000) else if t.tmod 1000000000 = 0 then ([109, 115], 1000000000) else if t.tmod 1000000 = 0 then ([117, 115], 1000000) else if t.tmod 1000 = 0 then ([110, 115], 1000) else ([112, 115], 1)
theorem greatest_of (t : Int) : UnitIs (bA (unitOf t).1) (unitOf t).2 ∧ t.tdiv (unitOf t).2 * (unitOf t).2 = t ∧ GreatestSaid t (bA (unitOf t).1) (unitOf t).2 := by
  by_cases h0 : t = 0
  · subst h0
    exact ⟨.inl ⟨rfl, rfl⟩, by decide, fun w hL => greatest_zero w hL⟩
  have hz : (t != 0) = true := by simp [h0]
  unfold unitOf
  rw [if_neg h0]
  have d4 : t.tmod 1000000000000 = 0 → t.tmod 1000000000 = 0 := fun h => dvd_tmod (Int.dvd_trans ⟨1000, by decide⟩ (tmod_dvd h))
  have d3 : t.tmod 1000000000 = 0 → t.tmod 1000000 = 0 := fun h => dvd_tmod (Int.dvd_trans ⟨1000, by decide⟩ (tmod_dvd h))
  have d2 : t.tmod 1000000 = 0 → t.tmod 1000 = 0 := fun h => dvd_tmod (Int.dvd_trans ⟨1000, by decide⟩ (tmod_dvd h))
  by_cases h4 : t.tmod 1000000000000 = 0
  · rw [if_pos h4]
    exact ⟨.inr (.inr (.inr (.inr ⟨rfl, rfl⟩))), Int.tdiv_mul_cancel (tmod_dvd h4), fun w hL => greatest_4 t w hL hz (tm _ _ (d2 (d3 (d4 h4)))) (tm _ _ (d3 (d4 h4))) (tm _ _ (d4 h4)) (tm _ _ h4)⟩
  rw [if_neg h4]
  by_cases h3 : t.tmod 1000000000 = 0
  · rw [if_pos h3]
    exact ⟨.inr (.inr (.inr (.inl ⟨rfl, rfl⟩))), Int.tdiv_mul_cancel (tmod_dvd h3), fun w hL => greatest_3 t w hL hz (tm _ _ (d2 (d3 h3))) (tm _ _ (d3 h3)) (tm _ _ h3) (tmn _ _ h4)⟩
  rw [if_neg h3]
  by_cases h2 : t.tmod 1000000 = 0
  · rw [if_pos h2]
    exact ⟨.inr (.inr (.inl ⟨rfl, rfl⟩)), Int.tdiv_mul_cancel (tmod_dvd h2), fun w hL => greatest_2 t w hL hz (tm _ _ (d2 h2)) (tm _ _ h2) (tmn _ _ h3) (tmn _ _ h4)⟩
  rw [if_neg h2]
  by_cases h1 : t.tmod 1000 = 0
  · rw [if_pos h1]
    exact ⟨.inr (.inl ⟨rfl, rfl⟩), Int.tdiv_mul_cancel (tmod_dvd h1), fun w hL => greatest_1 t w hL hz (tm _ _ h1) (tmn _ _ h2) (tmn _ _ h3) (tmn _ _ h4)⟩
  rw [if_neg h1]
  exact ⟨.inl ⟨rfl, rfl⟩, by simp, fun w hL => greatest_0 t w hL hz (tmn _ _ h1) (tmn _ _ h2) (tmn _ _ h3) (tmn _ _ h4)⟩

/-- a number's text, a time's -/
def numX (n : Int) (time : Bool) : List UInt8 := if time then Lib.itoa (n.tdiv (unitOf n).2) ++ (unitOf n).1 else Lib.itoa n

set_option maxRecDepth 100000 in
theorem written_any (t : Tk) (w : World) (hL : LaidW w) (hs : smallI t.n = true) :
    Calls Tryz.prog 161 #[tkV t] w fun e w' => e = .returned (.string (bA (numX t.n t.time))) ∧ Below w.heap.size w w' := by
  obtain ⟨k, s, n, tm⟩ := t
  have hs' : -1000000000000000000 < n ∧ n < 1000000000000000000 := by simpa [smallI] using hs
  have HL := hid hL
  clear hL hs
  cases tm
  · have HF := hid (fun w hL => fmt_any n w hL (by omega) (by omega))
    go_enter Tryz.func161, Tryz.ntmps161
    go_wp2_with (first
      | (go_at_call 173; refine (HF.out _ (HL.out.below B1.out)).mono ?_; rintro e w2 ⟨rfl, g2⟩; have B2 := hid (B1.out.trans (g2.mono B1.out.size)); clear g2)
      | (refine Sh.wp_box tkS (x := ⟨k, s, n, false⟩) rfl (.tmp 0) rfl rfl ?_; intro w1 v1 b1 s1; have c2 : w1.cell? ⟨w.heap.size, 2, none⟩ = some (.int .i64 n) := v1.cell (j := 2) rfl; have c3 : w1.cell? ⟨w.heap.size, 3, none⟩ = some (.bool false) := v1.cell (j := 3) rfl; have B1 := hid b1; clear v1 b1 s1))
    go_ret
    exact ⟨rfl, B2.out⟩
  · have hg := greatest_of n
    have HF := hid (fun w hL => text_ok n (unitOf n).2 (bA (unitOf n).1) w hL (by omega) (by omega) (unit_size hg.1).1 (unit_size hg.1).2 hg.2.2)
    have he : Hid (bA (numX n true) = ⟨(Lib.itoa (n.tdiv (unitOf n).2)).toArray⟩ ++ bA (unitOf n).1) := hid (bA_app _ _)
    generalize (⟨(Lib.itoa (n.tdiv (unitOf n).2)).toArray⟩ : ByteArray) ++ bA (unitOf n).1 = z at *
    clear hg
    go_enter Tryz.func161, Tryz.ntmps161
    go_wp2_with (first
      | (go_at_call 174; refine (HF.out _ (HL.out.below B1.out)).mono ?_; rintro e w2 ⟨rfl, g2⟩; have B2 := hid (B1.out.trans (g2.mono B1.out.size)); clear g2)
      | (refine Sh.wp_box tkS (x := ⟨k, s, n, true⟩) rfl (.tmp 0) rfl rfl ?_; intro w1 v1 b1 s1; have c2 : w1.cell? ⟨w.heap.size, 2, none⟩ = some (.int .i64 n) := v1.cell (j := 2) rfl; have c3 : w1.cell? ⟨w.heap.size, 3, none⟩ = some (.bool true) := v1.cell (j := 3) rfl; have B1 := hid b1; clear v1 b1 s1))
    go_ret
    exact ⟨by rw [he.out]; rfl, B2.out⟩

/-- a token's text, if it is one -/
def textF (t : Tk) : Option (List UInt8) :=
  if t.kind = 2 ∧ smallI t.n = true then some (numX t.n t.time)
  else if t.n ≠ 0 ∨ t.time = true then none
  else if t.kind = 1 ∧ wordB t.s = true then some t.s
  else if t.kind = 3 ∧ signL t.s = true then some t.s else none
def textR (t : Tk) : Value := match textF t with
  | some l => .tuple #[.string (bA l), .int .i64 0]
  | none => .tuple #[.string ⟨#[]⟩, .int .i64 1]

set_option maxRecDepth 100000 in
theorem text_any (t : Tk) (w : World) (hL : LaidW w) (hsz : t.s.length ≤ 1099511627776) :
    Calls Tryz.prog 144 #[tkV t] w fun e w' => e = .returned (textR t) ∧ Below w.heap.size w w' := by
  obtain ⟨k, s, n, tm⟩ := t
  have HL := hid hL
  have hsz : s.length ≤ 1099511627776 := hsz
  have hz := bA_size s
  have HW := hid (fun w => word_any (bA s) w (by rw [hz]; omega))
  unfold WordPost at HW
  rw [bA_list] at HW
  have HS := hid (fun w => by have := sign_any (bA s) w; rwa [bA_list] at this)
  have HC := hid (fun w => clone_any (bA s) w (by rw [hz]; omega))
  have HB := hid (fun w => small_any n w)
  have eb : (decide (-1000000000000000000 < n) && decide (n < 1000000000000000000)) = smallI n := rfl
  rw [eb] at HB
  clear eb
  have HN := hid (fun w hL hs => written_any ⟨k, s, n, tm⟩ w hL hs)
  have hb : strB s = bA s := rfl
  clear hL hz hsz
  by_cases h2 : k = 2
  · subst h2
    cases hsm : smallI n with
    | true =>
      have HR : Hid (textF ⟨2, s, n, tm⟩ = some (numX n tm)) := hid (by unfold textF; rw [if_pos ⟨rfl, hsm⟩])
      have HN := hid (fun w hL => HN.out w hL hsm)
      have HB := hid (fun w => by have := HB.out w; rwa [hsm] at this)
      clear HW HS HC hsm
      go_enter Tryz.func144, Tryz.ntmps144
      go_wp2_with (first
        | (go_at_call 161; refine (HN.out _ (HL.out.below B1.out)).mono ?_; rintro e w2 ⟨rfl, g2⟩; have B2 := hid (B1.out.trans (g2.mono B1.out.size)); clear g2)
        | (refine Sh.wp_ld tkS rfl (.tmp 1) rfl rfl V1.out.1 ?_)
        | (go_at_call 160; refine (HB.out _).mono ?_; rintro e w' ⟨rfl, e7⟩; rw [e7]; clear e7 w')
        | (refine Sh.wp_box tkS (x := ⟨2, s, n, tm⟩) rfl (.tmp 0) rfl rfl ?_; intro w1 v1 b1 s1; have c0 : w1.cell? ⟨w.heap.size, 0, none⟩ = some (.int .i64 2) := v1.cell (j := 0) rfl; have c1 : w1.cell? ⟨w.heap.size, 1, none⟩ = some (.string (bA s)) := v1.cell (j := 1) rfl; have c2 : w1.cell? ⟨w.heap.size, 2, none⟩ = some (.int .i64 n) := v1.cell (j := 2) rfl; have c3 : w1.cell? ⟨w.heap.size, 3, none⟩ = some (.bool tm) := v1.cell (j := 3) rfl; have B1 := hid b1; have V1 := hid v1; clear v1 b1 s1))
      go_ret2
      exact ⟨by unfold textR; rw [HR.out]; rfl, B2.out⟩
    | false =>
      have hn0 : n ≠ 0 := by
        rintro rfl
        exact absurd hsm (by decide)
      have HR : Hid (textF ⟨2, s, n, tm⟩ = none) := hid (by unfold textF; rw [if_neg (by rintro ⟨_, h⟩; rw [hsm] at h; cases h), if_pos (.inl hn0)])
      have HB := hid (fun w => by have := HB.out w; rwa [hsm] at this)
      have hn1 : (n != 0) = true := by simp [hn0]
      clear HW HS HC HN hsm hn0
      go_enter Tryz.func144, Tryz.ntmps144
      go_wp2_with (first
        | (go_at_call 160; refine (HB.out _).mono ?_; rintro e w' ⟨rfl, e7⟩; rw [e7]; clear e7 w')
        | (refine Sh.wp_box tkS (x := ⟨2, s, n, tm⟩) rfl (.tmp 0) rfl rfl ?_; intro w1 v1 b1 s1; have c0 : w1.cell? ⟨w.heap.size, 0, none⟩ = some (.int .i64 2) := v1.cell (j := 0) rfl; have c1 : w1.cell? ⟨w.heap.size, 1, none⟩ = some (.string (bA s)) := v1.cell (j := 1) rfl; have c2 : w1.cell? ⟨w.heap.size, 2, none⟩ = some (.int .i64 n) := v1.cell (j := 2) rfl; have c3 : w1.cell? ⟨w.heap.size, 3, none⟩ = some (.bool tm) := v1.cell (j := 3) rfl; have B1 := hid b1; have V1 := hid v1; clear v1 b1 s1))
      go_ret2
      exact ⟨by unfold textR; rw [HR.out]; rfl, B1.out⟩
  have hk2 : (k == 2) = false := beq_eq_false_iff_ne.2 h2
  clear HB HN
  by_cases hn0 : n = 0
  · subst hn0
    cases tm with
    | true =>
      have HR : Hid (textF ⟨k, s, 0, true⟩ = none) := hid (by unfold textF; rw [if_neg (fun h => h2 h.1), if_pos (.inr rfl)])
      clear HW HS HC h2
      go_enter Tryz.func144, Tryz.ntmps144
      go_wp2_with (first
        | (refine Sh.wp_box tkS (x := ⟨k, s, 0, true⟩) rfl (.tmp 0) rfl rfl ?_; intro w1 v1 b1 s1; have c0 : w1.cell? ⟨w.heap.size, 0, none⟩ = some (.int .i64 k) := v1.cell (j := 0) rfl; have c1 : w1.cell? ⟨w.heap.size, 1, none⟩ = some (.string (bA s)) := v1.cell (j := 1) rfl; have c2 : w1.cell? ⟨w.heap.size, 2, none⟩ = some (.int .i64 0) := v1.cell (j := 2) rfl; have c3 : w1.cell? ⟨w.heap.size, 3, none⟩ = some (.bool true) := v1.cell (j := 3) rfl; have B1 := hid b1; have V1 := hid v1; clear v1 b1 s1))
      go_ret2
      exact ⟨by unfold textR; rw [HR.out]; rfl, B1.out⟩
    | false =>
      by_cases h1 : k = 1
      · subst h1
        cases hw : wordB s with
        | true =>
          have HR : Hid (textF ⟨1, s, 0, false⟩ = some s) := hid (by unfold textF; rw [if_neg (fun h => h2 h.1), if_neg (by simp), if_pos ⟨rfl, hw⟩])
          rw [hw] at HW
          clear HS hw h2
          go_enter Tryz.func144, Tryz.ntmps144
          go_wp2_with (first
            | (go_at_call 122; refine (HC.out _).mono ?_; rintro e w3 ⟨rfl, g3⟩; have B3 := hid (B2.out.trans (g3.mono B2.out.size)); clear g3)
            | (go_at_call 123; refine (HW.out _).mono ?_; rintro e w2 ⟨rfl, g2⟩; have V2 := hid (V1.out.keep g2); have d0 : w2.cell? ⟨w.heap.size, 0, none⟩ = some (.int .i64 1) := V2.out.cell (j := 0) rfl; have d1 : w2.cell? ⟨w.heap.size, 1, none⟩ = some (.string (bA s)) := V2.out.cell (j := 1) rfl; have B2 := hid (B1.out.trans (g2.mono B1.out.size)); clear g2)
            | (refine Sh.wp_box tkS (x := ⟨1, s, 0, false⟩) rfl (.tmp 0) rfl rfl ?_; intro w1 v1 b1 s1; have c0 : w1.cell? ⟨w.heap.size, 0, none⟩ = some (.int .i64 1) := v1.cell (j := 0) rfl; have c1 : w1.cell? ⟨w.heap.size, 1, none⟩ = some (.string (bA s)) := v1.cell (j := 1) rfl; have c2 : w1.cell? ⟨w.heap.size, 2, none⟩ = some (.int .i64 0) := v1.cell (j := 2) rfl; have c3 : w1.cell? ⟨w.heap.size, 3, none⟩ = some (.bool false) := v1.cell (j := 3) rfl; have B1 := hid b1; have V1 := hid v1; clear v1 b1 s1))
          go_ret2
          exact ⟨by unfold textR; rw [HR.out]; rfl, B3.out⟩
        | false =>
          have HR : Hid (textF ⟨1, s, 0, false⟩ = none) := hid (by unfold textF; rw [if_neg (fun h => h2 h.1), if_neg (by simp), if_neg (by rintro ⟨_, h⟩; rw [hw] at h; cases h), if_neg (fun h => by have : (1 : Int) = 3 := h.1; omega)])
          rw [hw] at HW
          clear HS HC hw h2
          go_enter Tryz.func144, Tryz.ntmps144
          go_wp2_with (first
            | (go_at_call 123; refine (HW.out _).mono ?_; rintro e w2 ⟨rfl, g2⟩; have V2 := hid (V1.out.keep g2); have d0 : w2.cell? ⟨w.heap.size, 0, none⟩ = some (.int .i64 1) := V2.out.cell (j := 0) rfl; have d1 : w2.cell? ⟨w.heap.size, 1, none⟩ = some (.string (bA s)) := V2.out.cell (j := 1) rfl; have B2 := hid (B1.out.trans (g2.mono B1.out.size)); clear g2)
            | (refine Sh.wp_box tkS (x := ⟨1, s, 0, false⟩) rfl (.tmp 0) rfl rfl ?_; intro w1 v1 b1 s1; have c0 : w1.cell? ⟨w.heap.size, 0, none⟩ = some (.int .i64 1) := v1.cell (j := 0) rfl; have c1 : w1.cell? ⟨w.heap.size, 1, none⟩ = some (.string (bA s)) := v1.cell (j := 1) rfl; have c2 : w1.cell? ⟨w.heap.size, 2, none⟩ = some (.int .i64 0) := v1.cell (j := 2) rfl; have c3 : w1.cell? ⟨w.heap.size, 3, none⟩ = some (.bool false) := v1.cell (j := 3) rfl; have B1 := hid b1; have V1 := hid v1; clear v1 b1 s1))
          go_ret2
          exact ⟨by unfold textR; rw [HR.out]; rfl, B2.out⟩
      have hk1 : (k == 1) = false := beq_eq_false_iff_ne.2 h1
      by_cases h3 : k = 3
      · subst h3
        cases hw : signL s with
        | true =>
          have HR : Hid (textF ⟨3, s, 0, false⟩ = some s) := hid (by unfold textF; rw [if_neg (fun h => h2 h.1), if_neg (by simp), if_neg (fun h => h1 h.1), if_pos ⟨rfl, hw⟩])
          rw [hw] at HS
          clear HW hw h2 h1
          go_enter Tryz.func144, Tryz.ntmps144
          go_wp2_with (first
            | (go_at_call 122; refine (HC.out _).mono ?_; rintro e w2 ⟨rfl, g2⟩; have B2 := hid (B1.out.trans (g2.mono B1.out.size)); clear g2)
            | (go_at_call 121; refine (HS.out _).mono ?_; rintro e w' ⟨rfl, e7⟩; rw [e7]; clear e7 w')
            | (refine Sh.wp_box tkS (x := ⟨3, s, 0, false⟩) rfl (.tmp 0) rfl rfl ?_; intro w1 v1 b1 s1; have c0 : w1.cell? ⟨w.heap.size, 0, none⟩ = some (.int .i64 3) := v1.cell (j := 0) rfl; have c1 : w1.cell? ⟨w.heap.size, 1, none⟩ = some (.string (bA s)) := v1.cell (j := 1) rfl; have c2 : w1.cell? ⟨w.heap.size, 2, none⟩ = some (.int .i64 0) := v1.cell (j := 2) rfl; have c3 : w1.cell? ⟨w.heap.size, 3, none⟩ = some (.bool false) := v1.cell (j := 3) rfl; have B1 := hid b1; have V1 := hid v1; clear v1 b1 s1))
          go_ret2
          exact ⟨by unfold textR; rw [HR.out]; rfl, B2.out⟩
        | false =>
          have HR : Hid (textF ⟨3, s, 0, false⟩ = none) := hid (by unfold textF; rw [if_neg (fun h => h2 h.1), if_neg (by simp), if_neg (fun h => h1 h.1), if_neg (by rintro ⟨_, h⟩; rw [hw] at h; cases h)])
          rw [hw] at HS
          clear HW HC hw h2 h1
          go_enter Tryz.func144, Tryz.ntmps144
          go_wp2_with (first
            | (go_at_call 121; refine (HS.out _).mono ?_; rintro e w' ⟨rfl, e7⟩; rw [e7]; clear e7 w')
            | (refine Sh.wp_box tkS (x := ⟨3, s, 0, false⟩) rfl (.tmp 0) rfl rfl ?_; intro w1 v1 b1 s1; have c0 : w1.cell? ⟨w.heap.size, 0, none⟩ = some (.int .i64 3) := v1.cell (j := 0) rfl; have c1 : w1.cell? ⟨w.heap.size, 1, none⟩ = some (.string (bA s)) := v1.cell (j := 1) rfl; have c2 : w1.cell? ⟨w.heap.size, 2, none⟩ = some (.int .i64 0) := v1.cell (j := 2) rfl; have c3 : w1.cell? ⟨w.heap.size, 3, none⟩ = some (.bool false) := v1.cell (j := 3) rfl; have B1 := hid b1; have V1 := hid v1; clear v1 b1 s1))
          go_ret2
          exact ⟨by unfold textR; rw [HR.out]; rfl, B1.out⟩
      have hk3 : (k == 3) = false := beq_eq_false_iff_ne.2 h3
      have HR : Hid (textF ⟨k, s, 0, false⟩ = none) := hid (by unfold textF; rw [if_neg (fun h => h2 h.1), if_neg (by simp), if_neg (fun h => h1 h.1), if_neg (fun h => h3 h.1)])
      clear HW HS HC h2 h1 h3
      go_enter Tryz.func144, Tryz.ntmps144
      go_wp2_with (first
        | (refine Sh.wp_box tkS (x := ⟨k, s, 0, false⟩) rfl (.tmp 0) rfl rfl ?_; intro w1 v1 b1 s1; have c0 : w1.cell? ⟨w.heap.size, 0, none⟩ = some (.int .i64 k) := v1.cell (j := 0) rfl; have c1 : w1.cell? ⟨w.heap.size, 1, none⟩ = some (.string (bA s)) := v1.cell (j := 1) rfl; have c2 : w1.cell? ⟨w.heap.size, 2, none⟩ = some (.int .i64 0) := v1.cell (j := 2) rfl; have c3 : w1.cell? ⟨w.heap.size, 3, none⟩ = some (.bool false) := v1.cell (j := 3) rfl; have B1 := hid b1; have V1 := hid v1; clear v1 b1 s1))
      go_ret2
      exact ⟨by unfold textR; rw [HR.out]; rfl, B1.out⟩
  · have HR : Hid (textF ⟨k, s, n, tm⟩ = none) := hid (by unfold textF; rw [if_neg (fun h => h2 h.1), if_pos (.inl hn0)])
    have hn1 : (n != 0) = true := by simp [hn0]
    clear HW HS HC hn0 h2
    go_enter Tryz.func144, Tryz.ntmps144
    go_wp2_with (first
      | (refine Sh.wp_box tkS (x := ⟨k, s, n, tm⟩) rfl (.tmp 0) rfl rfl ?_; intro w1 v1 b1 s1; have c0 : w1.cell? ⟨w.heap.size, 0, none⟩ = some (.int .i64 k) := v1.cell (j := 0) rfl; have c1 : w1.cell? ⟨w.heap.size, 1, none⟩ = some (.string (bA s)) := v1.cell (j := 1) rfl; have c2 : w1.cell? ⟨w.heap.size, 2, none⟩ = some (.int .i64 n) := v1.cell (j := 2) rfl; have c3 : w1.cell? ⟨w.heap.size, 3, none⟩ = some (.bool tm) := v1.cell (j := 3) rfl; have B1 := hid b1; have V1 := hid v1; clear v1 b1 s1))
    go_ret2
    exact ⟨by unfold textR; rw [HR.out]; rfl, B1.out⟩
end Go.Proofs.YtpkoboohnbkpoaaGreatDoor

/-! LU -/
namespace Go.Proofs.YtpkoboohnbkpoaaGreatDoor
open Go

theorem piece_of (c : UInt8) (r rest : List UInt8) (h1 : c.toNat < 128) (h2 : sgB c = false) (h3 : r.all ldB = true) (h4 : rest = [] ∨ ∃ d e, rest = d :: e ∧ ldB d = false) : pieceF ((c :: r) ++ rest) = c :: r := by
  rw [List.cons_append, pieceF_cons, if_neg (by rw [h2]; decide), dec_ascii _ _ h1]
  show [c] ++ (r ++ rest).takeWhile ldB = _
  rw [takeWhile_stop ldB r rest h3 h4]
  rfl
theorem piece_sg (c : UInt8) (rest : List UInt8) (h2 : sgB c = true) : pieceF (c :: rest) = [c] := by
  rw [pieceF_cons, if_pos h2]

/-- What no space, line's end, or remark begins with. -/
def plainB (c : UInt8) : Bool := decide (c.toNat < 128) && !(c == 10 || c == 32 || c == 9 || c == 35)
theorem cut_one (c : UInt8) (r rest : List UInt8) (p : Pl) (t : Tk) (h1 : plainB c = true) (hp : pieceF ((c :: r) ++ rest) = c :: r) (ht : tokF (c :: r) = .ok t) :
    cutL ((c :: r) ++ rest) false p = ((t, p) :: (cutL rest false ⟨p.line, p.col + (r.length + 1)⟩).1, (cutL rest false ⟨p.line, p.col + (r.length + 1)⟩).2) := by
  have h1' : c.toNat < 128 ∧ c ≠ 10 ∧ c ≠ 32 ∧ c ≠ 9 ∧ c ≠ 35 := by
    simp only [plainB, Bool.and_eq_true, decide_eq_true_eq, Bool.not_eq_true', Bool.or_eq_false_iff, beq_eq_false_iff_ne] at h1
    exact ⟨h1.1, h1.2.1.1.1, h1.2.1.1.2, h1.2.1.2, h1.2.2⟩
  obtain ⟨a0, a1, a2, a3, a4⟩ := h1'
  have ne : ∀ d : UInt8, c ≠ d → c.toNat ≠ d.toNat := fun d hd h => hd (UInt8.toNat_inj.1 h)
  have b1 : c.toNat ≠ 10 := ne 10 a1
  have b2 : c.toNat ≠ 32 := ne 32 a2
  have b3 : c.toNat ≠ 9 := ne 9 a3
  have b4 : c.toNat ≠ 35 := ne 35 a4
  have hb : brok ((c :: r) ++ rest) = false := by
    rw [List.cons_append]
    unfold brok
    rw [dec_ascii _ _ a0, beq_eq_false_iff_ne.2 (show c.toNat ≠ 65533 by omega)]; rfl
  have hd : dec ((c :: r) ++ rest) = (c.toNat, 1) := dec_ascii _ _ a0
  have hl : (c :: r).length = r.length + 1 := rfl
  have hdr : (r ++ rest).drop ((c :: r).length - 1) = rest := by
    rw [hl, Nat.add_sub_cancel]; exact List.drop_left
  rw [List.cons_append] at hb hd hp ⊢
  rw [cutL, if_neg (by rw [hb]; decide), hd, if_neg b1, if_neg (by simp [b2, b3]), if_neg b4, hp, ht]
  simp only
  rw [hdr, hl]
theorem cut_space (l : List UInt8) (p : Pl) : cutL (32 :: l) false p = cutL l false ⟨p.line, p.col + 1⟩ := by
  have hb : brok (32 :: l) = false := by unfold brok; rw [dec_ascii _ _ (by decide)]; rfl
  rw [cutL, if_neg (by rw [hb]; decide), dec_ascii _ _ (by decide), if_neg (by decide), if_pos (.inr (.inl rfl))]
  rfl

theorem nDigits_le : ∀ (k u : Nat), u < 10 ^ k → 1 ≤ k → Lib.nDigits u ≤ k
  | 0, _, _, h => by omega
  | k + 1, u, h, _ => by
    by_cases hu : u < 10
    · rw [Lib.nDigits_small hu]; omega
    · rw [Lib.nDigits_big hu]
      have hk : 1 ≤ k := by
        rcases Nat.eq_zero_or_pos k with h0 | h0
        · subst h0; simp at h; omega
        · exact h0
      have := nDigits_le k (u / 10) (by rw [Nat.pow_succ] at h; omega) hk
      omega
theorem dig_all (l : List UInt8) (h : isDigits l) : l.all digB = true := List.all_eq_true.2 fun c hc => by have := h c hc; simp [digB, this]
theorem dropWhile_stop (f : UInt8 → Bool) (a b : List UInt8) (ha : a.all f = true) (hb : b = [] ∨ ∃ c r, b = c :: r ∧ f c = false) : (a ++ b).dropWhile f = b := by
  induction a with
  | nil =>
    rcases hb with rfl | ⟨c, r, rfl, h⟩
    · rfl
    · rw [List.nil_append, List.dropWhile_cons_of_neg (by rw [h]; decide)]
  | cons d a ih =>
    rw [List.all_cons, Bool.and_eq_true] at ha
    rw [List.cons_append, List.dropWhile_cons_of_pos ha.1, ih ha.2]
theorem let_dig {c : UInt8} (h : letB c = true) : digB c = false := by
  simp only [letB, digB, Bool.and_eq_true, decide_eq_true_eq, Bool.and_eq_false_iff, decide_eq_false_iff_not] at h ⊢; omega
theorem dig_let {c : UInt8} (h : digB c = true) : letB c = false := by
  simp only [letB, digB, Bool.and_eq_true, decide_eq_true_eq, Bool.and_eq_false_iff, decide_eq_false_iff_not] at h ⊢; omega
theorem unit_head (u : List UInt8) (h : u = [] ∨ unitF u ≠ none) : u = [] ∨ ∃ c r, u = c :: r ∧ digB c = false := by
  rcases h with rfl | h
  · exact .inl rfl
  · obtain ⟨ps, hps⟩ := Option.ne_none_iff_exists'.1 h
    obtain ⟨h1, h2, _⟩ := unit_all u ps hps
    match u, h2 with
    | c :: r, _ =>
      rw [List.all_cons, Bool.and_eq_true] at h1
      exact .inr ⟨c, r, rfl, let_dig h1.1⟩

/-- A number's text: a sign, perhaps, and digits. -/
theorem itoa_form (n : Int) : ∃ ds, isDigits ds ∧ ds ≠ [] ∧ decV ds = n.natAbs ∧ ds.length = Lib.nDigits n.natAbs ∧ ((n < 0 ∧ Lib.itoa n = 45 :: ds) ∨ (0 ≤ n ∧ Lib.itoa n = ds)) := by
  obtain ⟨d1, d2, d3⟩ := digits_dec n.natAbs
  refine ⟨Lib.decDigits n.natAbs, d1, d3, d2, Lib.decDigits_length _, ?_⟩
  by_cases h : n < 0
  · exact .inl ⟨h, by unfold Lib.itoa; rw [if_pos h]⟩
  · exact .inr ⟨by omega, by unfold Lib.itoa; rw [if_neg h, show n.toNat = n.natAbs by omega]⟩
theorem size_itoa (n : Int) (u : List UInt8) : ∃ ds, isDigits ds ∧ ds ≠ [] ∧ decV ds = n.natAbs ∧ ds.length = Lib.nDigits n.natAbs ∧ sizeF (Lib.itoa n ++ u) = ds ++ u ∧ minusB (Lib.itoa n ++ u) = decide (n < 0) ∧ ∃ c r, Lib.itoa n = c :: r ∧ (c = 45 ∨ digB c = true) ∧ r.all digB = true := by
  obtain ⟨ds, h1, h2, h3, h4, h5⟩ := itoa_form n
  refine ⟨ds, h1, h2, h3, h4, ?_⟩
  match ds, h2 with
  | d :: e, _ =>
    have hall := dig_all _ h1
    rw [List.all_cons, Bool.and_eq_true] at hall
    have hd := h1 d (List.mem_cons_self ..)
    rcases h5 with ⟨h5, h6⟩ | ⟨h5, h6⟩
    · rw [h6]
      refine ⟨rfl, by rw [decide_eq_true h5]; rfl, 45, d :: e, rfl, .inl rfl, by rw [List.all_cons, hall.1, hall.2]; rfl⟩
    · rw [h6]
      have hne : d ≠ 45 := by rintro rfl; exact absurd hd.1 (by decide)
      refine ⟨by rw [List.cons_append, sizeF_cons, if_neg hne], ?_, d, e, rfl, .inr hall.1, hall.2⟩
      rw [decide_eq_false (by omega)]
      exact beq_eq_false_iff_ne.2 hne
theorem val_itoa (n : Int) (u : List UInt8) (hu : u = [] ∨ unitF u ≠ none) : valF (Lib.itoa n ++ u) = n := by
  obtain ⟨ds, h1, h2, h3, h4, h5, h6, _⟩ := size_itoa n u
  unfold valF
  rw [h5, h6, takeWhile_stop digB ds u (dig_all _ h1) (unit_head u hu), h3]
  by_cases h : n < 0
  · rw [decide_eq_true h, if_pos rfl]; omega
  · rw [decide_eq_false h, if_neg (by decide)]; omega
theorem tok_itoa (n : Int) (u : List UInt8) (hn : n.natAbs < 1000000000000000000) (hu : u = [] ∨ unitF u ≠ none) (hs : ∀ ps, unitF u = some ps → -1000000000000000000 < n * ps ∧ n * ps < 1000000000000000000) :
    tokF (Lib.itoa n ++ u) = .ok (match unitF u with | some ps => ⟨2, Lib.itoa n ++ u, n * ps, true⟩ | none => ⟨2, Lib.itoa n ++ u, n, false⟩) := by
  have hv := val_itoa n u hu
  obtain ⟨ds, h1, h2, h3, h4, h5, h6, c, r, h7, h8, h9⟩ := size_itoa n u
  have htw := takeWhile_stop digB ds u (dig_all _ h1) (unit_head u hu)
  have hdw := dropWhile_stop digB ds u (dig_all _ h1) (unit_head u hu)
  have hlen : ds.length ≤ 18 := by rw [h4]; exact nDigits_le 18 _ hn (by omega)
  have hnum : numF (Lib.itoa n ++ u) = .ok (match unitF u with | some ps => ⟨2, Lib.itoa n ++ u, n * ps, true⟩ | none => ⟨2, Lib.itoa n ++ u, n, false⟩) := by
    unfold numF
    rw [h5, htw, hdw, hv, if_neg (by rintro (h | h); exact h2 h; rcases hu with rfl | hu; exact h.1 rfl; exact hu h.2), if_neg (by omega)]
    cases hps : unitF u with
    | none => rfl
    | some ps => simp only; rw [if_pos (hs ps hps)]
  rw [h7, List.cons_append] at hnum ⊢
  have hsg : sgB c = false := by
    rcases h8 with rfl | h8
    · decide
    · simp only [digB, Bool.and_eq_true, decide_eq_true_eq] at h8
      cases hc : sgB c with
      | false => rfl
      | true =>
        simp only [sgB, Bool.or_eq_true, beq_iff_eq] at hc
        rcases hc with (rfl | rfl) | rfl <;> exact absurd h8 (by decide)
  have hlt : letB c = false := by
    rcases h8 with rfl | h8
    · decide
    · exact dig_let h8
  unfold tokF
  simp only
  rw [if_neg (by rintro ⟨_, h⟩; rw [hsg] at h; cases h), if_neg (by simp [wordB, hlt]), if_neg (by rw [hlt]; decide), hnum]
/-- What is cut of a number's text, and what stands behind it. -/
theorem cut_num (n : Int) (u rest : List UInt8) (p : Pl) (t : Tk) (hu : u = [] ∨ unitF u ≠ none) (ht : tokF (Lib.itoa n ++ u) = .ok t) (hr : rest = [] ∨ ∃ d e, rest = d :: e ∧ ldB d = false) :
    cutL ((Lib.itoa n ++ u) ++ rest) false p = ((t, p) :: (cutL rest false ⟨p.line, p.col + (Lib.itoa n ++ u).length⟩).1, (cutL rest false ⟨p.line, p.col + (Lib.itoa n ++ u).length⟩).2) := by
  obtain ⟨ds, h1, h2, h3, h4, h5, h6, c, r, h7, h8, h9⟩ := size_itoa n u
  have hua : u.all ldB = true := by
    rcases hu with rfl | hu
    · rfl
    · obtain ⟨ps, hps⟩ := Option.ne_none_iff_exists'.1 hu
      exact List.all_eq_true.2 fun d hd => by simp [ldB, List.all_eq_true.1 (unit_all u ps hps).1 d hd]
  have hra : (r ++ u).all ldB = true := by
    rw [List.all_append, hua, Bool.and_true]
    exact List.all_eq_true.2 fun d hd => by simp [ldB, List.all_eq_true.1 h9 d hd]
  have hpl : plainB c = true ∧ sgB c = false := by
    rcases h8 with rfl | h8
    · decide
    · simp only [digB, Bool.and_eq_true, decide_eq_true_eq] at h8
      have hx : ∀ d : UInt8, d.toNat < 48 ∨ 57 < d.toNat → (c == d) = false := fun d hd => beq_eq_false_iff_ne.2 (by rintro rfl; omega)
      refine ⟨?_, ?_⟩
      · unfold plainB
        rw [decide_eq_true (by omega : c.toNat < 128), hx 10 (by decide), hx 32 (by decide), hx 9 (by decide), hx 35 (by decide)]; rfl
      · unfold sgB
        rw [hx 59 (by decide), hx 123 (by decide), hx 125 (by decide)]; rfl
  have hc1 : c.toNat < 128 := by have := hpl.1; simp only [plainB, Bool.and_eq_true, decide_eq_true_eq] at this; exact this.1
  rw [h7, List.cons_append] at ht ⊢
  have hp := piece_of c (r ++ u) rest hc1 hpl.2 hra hr
  exact cut_one c (r ++ u) rest p t hpl.1 hp ht
end Go.Proofs.YtpkoboohnbkpoaaGreatDoor

/-! WA -/
namespace Go.Proofs.YtpkoboohnbkpoaaGreatDoor
open Go

def EndB (rest : List UInt8) : Prop := rest = [] ∨ ∃ d e, rest = d :: e ∧ ldB d = false
def CutsAs (l : List UInt8) (t : Tk) : Prop := ∀ rest p, EndB rest → cutL (l ++ rest) false p = ((t, p) :: (cutL rest false ⟨p.line, p.col + l.length⟩).1, (cutL rest false ⟨p.line, p.col + l.length⟩).2)
theorem unit_of (t : Int) : unitF (unitOf t).1 = some (unitOf t).2 := by
  unfold unitOf
  repeat' split
  all_goals decide
theorem num_cuts (n : Int) (time : Bool) (h : -1000000000000000000 < n ∧ n < 1000000000000000000) : CutsAs (numX n time) ⟨2, numX n time, n, time⟩ := by
  intro rest p hr
  cases time with
  | false =>
    have ht := tok_itoa n [] (by omega) (.inl rfl) (by intro ps h; cases h)
    have hc := cut_num n [] rest p _ (.inl rfl) ht hr
    rw [List.append_nil] at hc
    exact hc
  | true =>
    have hu := unit_of n
    have hg := (greatest_of n).2.1
    have hm : (n.tdiv (unitOf n).2).natAbs ≤ n.natAbs := by rw [Int.natAbs_tdiv]; exact Nat.div_le_self _ _
    have ht := tok_itoa (n.tdiv (unitOf n).2) (unitOf n).1 (by omega) (.inr (by rw [hu]; simp)) (by
      intro ps hp
      rw [hu] at hp
      cases hp
      rw [hg]; exact h)
    rw [hu] at ht
    simp only [hg] at ht
    exact cut_num (n.tdiv (unitOf n).2) (unitOf n).1 rest p _ (.inr (by rw [hu]; simp)) ht hr
theorem let_plain {c : UInt8} (h : letB c = true) : plainB c = true ∧ sgB c = false := by
  simp only [letB, Bool.and_eq_true, decide_eq_true_eq] at h
  have hx : ∀ d : UInt8, d.toNat < 97 ∨ 122 < d.toNat → (c == d) = false := fun d hd => beq_eq_false_iff_ne.2 (by rintro rfl; omega)
  refine ⟨?_, ?_⟩
  · unfold plainB
    rw [decide_eq_true (by omega : c.toNat < 128), hx 10 (by decide), hx 32 (by decide), hx 9 (by decide), hx 35 (by decide)]; rfl
  · unfold sgB
    rw [hx 59 (by decide), hx 123 (by decide), hx 125 (by decide)]; rfl
theorem word_cuts (s : List UInt8) (h : wordB s = true) : CutsAs s ⟨1, s, 0, false⟩ := by
  match s, h with
  | c :: r, h =>
    have h' := h
    simp only [wordB, Bool.and_eq_true, decide_eq_true_eq] at h'
    have hp := let_plain h'.1.1
    have h128 : c.toNat < 128 := by have := hp.1; simp only [plainB, Bool.and_eq_true, decide_eq_true_eq] at this; exact this.1
    have ht : tokF (c :: r) = .ok ⟨1, c :: r, 0, false⟩ := by
      unfold tokF
      simp only
      rw [if_neg (by rintro ⟨_, h⟩; rw [hp.2] at h; cases h), if_pos h]
    intro rest p hr
    exact cut_one c r rest p _ hp.1 (piece_of c r rest h128 hp.2 h'.1.2 hr) ht
theorem sign_cuts (c : UInt8) (hc : sgB c = true) : CutsAs [c] ⟨3, [c], 0, false⟩ := by
  have hp : plainB c = true := by
    have h3 := hc
    simp only [sgB, Bool.or_eq_true, beq_iff_eq] at h3
    rcases h3 with (rfl | rfl) | rfl <;> decide
  have ht : tokF [c] = .ok ⟨3, [c], 0, false⟩ := by
    unfold tokF
    simp only
    rw [if_pos ⟨trivial, hc⟩]
  intro rest p hr
  exact cut_one c [] rest p _ hp (piece_sg c rest hc) ht

/-! ### Without places -/
def cut (l : List UInt8) : List Tk × Option Nat := tks (cutL l false firstP)
def pre (ts : List Tk) (X : List Tk × Option Nat) : List Tk × Option Nat := (ts ++ X.1, X.2)
theorem pre_nil (X : List Tk × Option Nat) : pre [] X = X := rfl
theorem pre_pre (a b : List Tk) (X : List Tk × Option Nat) : pre a (pre b X) = pre (a ++ b) X := by simp [pre]
theorem cut_nil : cut [] = ([], none) := by unfold cut; rw [cutL]; rfl
theorem cut_as {l rest : List UInt8} {t : Tk} (h : CutsAs l t) (hr : EndB rest) : cut (l ++ rest) = pre [t] (cut rest) := by
  unfold cut
  rw [h rest firstP hr, tks_free rest false firstP ⟨firstP.line, firstP.col + l.length⟩]
  rfl
theorem cut_sp (l : List UInt8) : cut (32 :: l) = cut l := by
  unfold cut
  rw [cut_space]
  exact tks_free _ _ _ _
theorem cut_nl (l : List UInt8) : cut (10 :: l) = cut l := by
  have hb : brok (10 :: l) = false := by unfold brok; rw [dec_ascii _ _ (by decide)]; rfl
  unfold cut
  rw [cutL, if_neg (by rw [hb]; decide), dec_ascii _ _ (by decide), if_pos (by decide)]
  exact tks_free _ _ _ _
theorem cut_sps (sp : List UInt8) (h : ∀ c ∈ sp, c = 32) (l : List UInt8) : cut (sp ++ l) = cut l := by
  induction sp with
  | nil => rfl
  | cons c sp ih =>
    obtain rfl := h c (List.mem_cons_self ..)
    rw [List.cons_append, cut_sp, ih (fun d hd => h d (List.mem_cons_of_mem _ hd))]

/-! ### Statements' text -/
def numsL (ns : List (Int × Bool)) : List UInt8 := ns.flatMap fun x => 32 :: numX x.1 x.2
def tailL (bl : Bool) : List UInt8 := if bl then [32, 123] else [59]
def lineF (wd : List UInt8) (ns : List (Int × Bool)) (bl : Bool) : List UInt8 := wd ++ (numsL ns ++ tailL bl)
def Fo.text : Fo → List UInt8 → List UInt8
  | .nil, _ => []
  | .cons wd ns bl y n, sp => sp ++ (lineF wd ns bl ++ (10 :: ((if bl then y.text (sp ++ [32, 32]) ++ (sp ++ [125, 10]) else []) ++ n.text sp)))
def nTk (x : Int × Bool) : Tk := ⟨2, numX x.1 x.2, x.1, x.2⟩
def sgT (c : UInt8) : Tk := ⟨3, [c], 0, false⟩
def Fo.toks : Fo → List Tk
  | .nil => []
  | .cons wd ns bl y n => ⟨1, wd, 0, false⟩ :: (ns.map nTk ++ ((if bl then sgT 123 :: (y.toks ++ [sgT 125]) else [sgT 59]) ++ n.toks))
theorem Fo.text_app (f g : Fo) (sp : List UInt8) : (f.app g).text sp = f.text sp ++ g.text sp := by
  induction f with
  | nil => rfl
  | cons wd ns bl y n _ ih => simp only [Fo.app, Fo.text, ih, List.append_assoc, List.cons_append]

theorem far_of {ns : List (Int × Bool)} (h : ns.any farB = false) : ∀ x ∈ ns, -1000000000000000000 < x.1 ∧ x.1 < 1000000000000000000 := by
  intro x hx
  have := List.any_eq_false.1 h x hx
  simp only [farB, Bool.or_eq_true, decide_eq_true_eq] at this
  omega
theorem end_nums (ns : List (Int × Bool)) (bl : Bool) (r : List UInt8) : EndB (numsL ns ++ (tailL bl ++ r)) := by
  cases ns with
  | nil =>
    cases bl
    · exact .inr ⟨59, r, rfl, by decide⟩
    · exact .inr ⟨32, 123 :: r, rfl, by decide⟩
  | cons x ns => exact .inr ⟨32, _, rfl, by decide⟩
theorem cut_tail (bl : Bool) (r : List UInt8) : cut (tailL bl ++ (10 :: r)) = pre [sgT (if bl then 123 else 59)] (cut r) := by
  have he : EndB (10 :: r) := .inr ⟨10, r, rfl, by decide⟩
  cases bl
  · show cut ([59] ++ (10 :: r)) = _
    rw [cut_as (sign_cuts 59 (by decide)) he, cut_nl]; rfl
  · show cut (32 :: ([123] ++ (10 :: r))) = _
    rw [cut_sp, cut_as (sign_cuts 123 (by decide)) he, cut_nl]; rfl
theorem cut_nums (bl : Bool) (r : List UInt8) : ∀ ns : List (Int × Bool), (∀ x ∈ ns, -1000000000000000000 < x.1 ∧ x.1 < 1000000000000000000) → cut (numsL ns ++ (tailL bl ++ (10 :: r))) = pre (ns.map nTk ++ [sgT (if bl then 123 else 59)]) (cut r)
  | [], _ => cut_tail bl r
  | x :: ns, h => by
    have e : numsL (x :: ns) ++ (tailL bl ++ (10 :: r)) = 32 :: (numX x.1 x.2 ++ (numsL ns ++ (tailL bl ++ (10 :: r)))) := by simp [numsL]
    rw [e, cut_sp, cut_as (num_cuts x.1 x.2 (h x (List.mem_cons_self ..))) (end_nums ns bl _), cut_nums bl r ns (fun y hy => h y (List.mem_cons_of_mem _ hy)), pre_pre]
    rfl
theorem fit_of {wd : List UInt8} {ns : List (Int × Bool)} {bl : Bool} {k : Nat} (h : fitB wd ns bl k = true) : wordB wd = true ∧ ns.length ≤ 8 ∧ ns.any farB = false ∧ (bl = false → k = 0) := by
  simp only [fitB, Bool.and_eq_true, decide_eq_true_eq, Bool.not_eq_true', Bool.or_eq_true] at h
  exact ⟨h.1, h.2.1, h.2.2.1, fun hb => by rcases h.2.2.2 with h | h; rw [hb] at h; cases h; exact h⟩
theorem cut_ln {wd : List UInt8} {ns : List (Int × Bool)} {bl : Bool} {k : Nat} (h : fitB wd ns bl k = true) (r : List UInt8) : cut (lineF wd ns bl ++ (10 :: r)) = pre (⟨1, wd, 0, false⟩ :: (ns.map nTk ++ [sgT (if bl then 123 else 59)])) (cut r) := by
  obtain ⟨h1, _, h3, _⟩ := fit_of h
  rw [lineF, List.append_assoc, List.append_assoc, cut_as (word_cuts wd h1) (end_nums ns bl _), cut_nums bl r ns (far_of h3), pre_pre]
  rfl
theorem cut_text : ∀ (f : Fo) (k : Int) (sp : List UInt8) (r : List UInt8), f.okA k → (∀ c ∈ sp, c = 32) → cut (f.text sp ++ r) = pre f.toks (cut r)
  | .nil, _, _, _, _, _ => rfl
  | .cons wd ns bl y n, k, sp, r, h, hs => by
    obtain ⟨h1, h2, h3, h4⟩ := h
    have ih := cut_text n k sp r h4 hs
    cases bl with
    | false =>
      have e : (Fo.cons wd ns false y n).text sp ++ r = sp ++ (lineF wd ns false ++ (10 :: (n.text sp ++ r))) := by simp [Fo.text]
      rw [e, cut_sps sp hs, cut_ln h1, ih, pre_pre]
      congr 1
      simp [Fo.toks]
    | true =>
      have e : (Fo.cons wd ns true y n).text sp ++ r = sp ++ (lineF wd ns true ++ (10 :: (y.text (sp ++ [32, 32]) ++ (sp ++ ([125] ++ (10 :: (n.text sp ++ r))))))) := by simp [Fo.text]
      have hs2 : ∀ c ∈ sp ++ [32, 32], c = 32 := by
        intro c hc
        rcases List.mem_append.1 hc with hc | hc
        · exact hs c hc
        · simpa using hc
      rw [e, cut_sps sp hs, cut_ln h1, cut_text y (k - 1) _ _ h3 hs2, cut_sps sp hs, cut_as (sign_cuts 125 (by decide)) (.inr ⟨10, _, rfl, by decide⟩), cut_nl, ih, pre_pre, pre_pre, pre_pre]
      congr 1
      simp [Fo.toks, sgT]

/-! ### .. is parsed as it was -/
theorem nums_of {ns : List (Int × Bool)} {t : Tk} {r : List Tk} (ht : ¬ t.kind = 2) : numsF (ns.map nTk ++ t :: r) = ns ∧ restF (ns.map nTk ++ t :: r) = t :: r ∧ ((ns.map nTk ++ t :: r).takeWhile isN).length = ns.length := by
  have ht' : isN t = false := by simpa [isN] using ht
  have h1 : (ns.map nTk ++ t :: r).takeWhile isN = ns.map nTk := by
    induction ns with
    | nil => rw [List.map_nil, List.nil_append, List.takeWhile_cons_of_neg (by rw [ht']; decide)]
    | cons x ns ih => rw [List.map_cons, List.cons_append, List.takeWhile_cons_of_pos (by rfl), ih]
  have h2 : (ns.map nTk ++ t :: r).dropWhile isN = t :: r := by
    induction ns with
    | nil => rw [List.map_nil, List.nil_append, List.dropWhile_cons_of_neg (by rw [ht']; decide)]
    | cons x ns ih => rw [List.map_cons, List.cons_append, List.dropWhile_cons_of_pos (by rfl), ih (by rw [List.map_cons, List.cons_append, List.takeWhile_cons_of_pos (by rfl)] at h1; injection h1)]
  refine ⟨?_, h2, by rw [h1, List.length_map]⟩
  unfold numsF
  rw [h1, List.map_map]
  conv => rhs; rw [← List.map_id ns]
  rfl
def StopT (r : List Tk) : Prop := ∀ t q, r = t :: q → ¬ t.kind = 1
theorem lst_stop {d m : Nat} {r : List Tk} (h : StopT r) : lst d m r = .ok .nil m r := by
  match r, h with
  | [], _ => exact lst_nil d m
  | t :: q, h => exact lst_cons_no d m t q (h t q rfl)
theorem lst_toks : ∀ (f : Fo) (d m : Nat) (r : List Tk), f.okA (7 - d) → m + f.count ≤ 2000 → StopT r → lst d m (f.toks ++ r) = .ok f (m + f.count) r
  | .nil, d, m, r, _, _, hr => lst_stop hr
  | .cons wd ns bl y n, d, m, r, h, hc, hr => by
    obtain ⟨h1, h2, h3, h4⟩ := h
    obtain ⟨_, hn8, _, hbl⟩ := fit_of h1
    rw [Fo.count] at hc
    have ihn := fun m2 (hm : m2 + n.count ≤ 2000) => lst_toks n d m2 r h4 hm hr
    have hst : stmX lst d m ⟨1, wd, 0, false⟩ (ns.map nTk ++ ((if bl then sgT 123 :: (y.toks ++ [sgT 125]) else [sgT 59]) ++ (n.toks ++ r))) = .ok (.cons wd ns bl y .nil) (m + 1 + y.count) (n.toks ++ r) := by
      unfold stmX
      rw [if_neg (by omega)]
      unfold stmF
      cases bl with
      | false =>
        have hy : y = .nil := by
          match y, hbl rfl with
          | .nil, _ => rfl
        subst hy
        obtain ⟨e1, e2, e3⟩ := nums_of (ns := ns) (t := sgT 59) (r := n.toks ++ r) (by decide)
        have e0 : ns.map nTk ++ ((if false = true then sgT 123 :: (Fo.nil.toks ++ [sgT 125]) else [sgT 59]) ++ (n.toks ++ r)) = ns.map nTk ++ sgT 59 :: (n.toks ++ r) := by simp
        rw [e0, e1, e2, if_pos (by unfold fewN; rw [e3]; exact decide_eq_true hn8)]
        rfl
      | true =>
        obtain ⟨e1, e2, e3⟩ := nums_of (ns := ns) (t := sgT 123) (r := y.toks ++ (sgT 125 :: (n.toks ++ r))) (by decide)
        have e0 : ns.map nTk ++ ((if true = true then sgT 123 :: (y.toks ++ [sgT 125]) else [sgT 59]) ++ (n.toks ++ r)) = ns.map nTk ++ sgT 123 :: (y.toks ++ (sgT 125 :: (n.toks ++ r))) := by simp
        rw [e0, e1, e2, if_pos (by unfold fewN; rw [e3]; exact decide_eq_true hn8)]
        have hd := h2 rfl
        have ihy := lst_toks y (d + 1) (m + 1) (sgT 125 :: (n.toks ++ r)) (by rwa [show (7 : Int) - ((d + 1 : Nat) : Int) = 7 - (d : Int) - 1 by omega]) (by omega) (fun t q e => by cases e; decide)
        unfold endF
        simp only
        rw [if_neg (by decide), if_neg (by decide), if_pos (by decide), if_neg (by omega)]
        unfold blkF
        rw [ihy]
        simp only
        rw [if_pos ⟨rfl, rfl⟩]
    have e : (Fo.cons wd ns bl y n).toks ++ r = ⟨1, wd, 0, false⟩ :: (ns.map nTk ++ ((if bl then sgT 123 :: (y.toks ++ [sgT 125]) else [sgT 59]) ++ (n.toks ++ r))) := by simp [Fo.toks]
    rw [e, lst_cons d m _ _ rfl]
    show (match stmX lst d m ⟨1, wd, 0, false⟩ _ with | Res.bad e r2 => Res.bad e r2 | Res.ok x m2 r2 => preR x (lst d m2 r2)) = _
    rw [hst]
    simp only
    rw [ihn _ (by omega)]
    simp only [preR, Fo.app, Fo.count]
    congr 1
    omega
theorem cut_parts {l : List UInt8} {ts : List Tk} (h : cut l = (ts, none)) : toksF l = ts ∧ (cutL l false firstP).2 = none := by
  unfold cut tks at h
  simp only [Prod.mk.injEq, Option.map_eq_none_iff] at h
  exact h
theorem text_cut {f : Fo} (h : f.okA 6) : toksF (f.text []) = f.toks ∧ (cutL (f.text []) false firstP).2 = none := by
  refine cut_parts ?_
  have := cut_text f 6 [] [] h (fun _ h => by cases h)
  rw [List.append_nil] at this
  rw [this, cut_nil, pre, List.append_nil]
/-- What is printed is parsed as it was. -/
theorem text_par {f : Fo} (h : f.okA 6) (hc : f.count ≤ 2000) (hl : (f.text []).length ≤ 65536) : parF (f.text []) = .ok f := by
  obtain ⟨h1, h2⟩ := text_cut h
  have h3 := lst_toks f 1 0 [] (by simpa using h) (by omega) (fun t q e => by cases e)
  rw [List.append_nil] at h3
  unfold parF
  rw [if_neg (by omega), h2]
  simp only
  rw [h1, allF_lst, h3]
end Go.Proofs.YtpkoboohnbkpoaaGreatDoor

/-! WB -/
namespace Go.Proofs.YtpkoboohnbkpoaaGreatDoor
open Go

/-- A token, its text apart if it is a number's. -/
def bareN (t : Tk) : Tk := if t.kind = 2 then ⟨2, [], t.n, t.time⟩ else t
def plainT (t : Tk) : Prop := (t.kind = 1 ∨ t.kind = 2 ∨ t.kind = 3) ∧ (¬ t.kind = 2 → t.n = 0 ∧ t.time = false)
def PlainTs (ts : List Tk) : Prop := ∀ t ∈ ts, plainT t
theorem plain_app {a b : List Tk} (h : PlainTs (a ++ b)) : PlainTs b := fun t ht => h t (List.mem_append_right _ ht)
theorem plain_tail {t : Tk} {r : List Tk} (h : PlainTs (t :: r)) : PlainTs r := fun x hx => h x (List.mem_cons_of_mem _ hx)
theorem bare_nums {ts : List Tk} (h : ∀ t ∈ ts, isN t = true) : ((ts.map numT).map nTk).map bareN = ts.map bareN := by
  rw [List.map_map, List.map_map]
  refine List.map_congr_left fun t ht => ?_
  have h2 : t.kind = 2 := by simpa [isN] using h t ht
  simp only [Function.comp, bareN, nTk, numT]
  rw [if_pos trivial, if_pos h2]
theorem Fo.toks_app (f g : Fo) : (f.app g).toks = f.toks ++ g.toks := by
  induction f with
  | nil => rfl
  | cons wd ns bl y n _ ih => simp only [Fo.app, Fo.toks, ih, List.append_assoc, List.cons_append]
def TokR (ts : List Tk) : Res → Prop
  | .ok f _ r => ts.map bareN = (f.toks ++ r).map bareN ∧ PlainTs r
  | .bad _ _ => True
theorem end_toks {L : Nat → Nat → List Tk → Res} (hL : ∀ d m ts, PlainTs ts → TokR ts (L d m ts)) (wd : List UInt8) (ns : List (Int × Bool)) (d m : Nat) (ts : List Tk) (hp : PlainTs ts) (hh : ∀ s r, ts = s :: r → isN s = false) :
    TokR (⟨1, wd, 0, false⟩ :: (ns.map nTk ++ ts)) (endF L wd ns d m ts) := by
  unfold endF
  match ts, hp, hh with
  | [], _, _ => trivial
  | s :: r2, hp, hh =>
    have h2 : ¬ s.kind = 2 := by simpa [isN] using hh s r2 rfl
    have h0 := hp s (List.mem_cons_self ..)
    simp only
    split
    · trivial
    rename_i h1
    have h3 : s.kind = 3 := by rcases h0.1 with h | h | h; exact absurd h h1; exact absurd h h2; exact h
    have hs : ∀ c, s.s = [c] → s = sgT c := by
      obtain ⟨k, l, n, tm⟩ := s
      obtain ⟨e1, e2⟩ := h0.2 h2
      intro c hc
      simp only at h3 hc e1 e2
      subst h3 hc e1 e2
      rfl
    split
    · rename_i hc
      rw [hs _ hc]
      refine ⟨?_, plain_tail hp⟩
      simp [Fo.toks]
    split
    · rename_i hc
      rw [hs _ hc]
      split
      · trivial
      · have hb : match blkF L (d + 1) m r2 with
            | .ok f _ r => r2.map bareN = (f.toks ++ (sgT 125 :: r)).map bareN ∧ PlainTs r
            | .bad _ _ => True := by
          unfold blkF
          have := hL (d + 1) m r2 (plain_tail hp)
          generalize L (d + 1) m r2 = X at *
          match X with
          | .bad e r => trivial
          | .ok f m r =>
            match r with
            | [] => trivial
            | c :: r3 =>
              simp only
              split
              · rename_i heq
                split at heq
                · rename_i hc
                  cases heq
                  have hc0 := this.2 c (List.mem_cons_self ..)
                  have ec : c = sgT 125 := by
                    obtain ⟨k, l, n, tm⟩ := c
                    obtain ⟨e1, e2⟩ := hc0.2 (by rw [hc.1]; decide)
                    simp only at hc e1 e2
                    obtain ⟨rfl, rfl⟩ := hc
                    subst e1 e2
                    rfl
                  rw [← ec]
                  exact ⟨this.1, plain_tail this.2⟩
                · cases heq
              · trivial
        generalize blkF L (d + 1) m r2 = X at *
        match X with
        | .bad e r => trivial
        | .ok f m r =>
          refine ⟨?_, hb.2⟩
          have := hb.1
          simp only [Fo.toks, List.map_cons, List.map_append, if_true, List.append_assoc, List.cons_append, List.append_nil] at this ⊢
          rw [this]
          simp
    · trivial
theorem lst_toksR : ∀ (n d m : Nat) (ts : List Tk), PlainTs ts → TokR ts (lstF n d m ts)
  | 0, _, _, _, hp => ⟨rfl, hp⟩
  | n + 1, d, m, [], hp => ⟨rfl, hp⟩
  | n + 1, d, m, t :: r, hp => by
    by_cases h1 : t.kind = 1
    · rw [lst_word n d m t r h1]
      have hs : TokR (t :: r) (stmX (lstF n) d m t r) := by
        unfold stmX
        split
        · trivial
        · unfold stmF
          split
          · have hpr : PlainTs (restF r) := fun x hx => hp x (List.mem_cons_of_mem _ ((List.dropWhile_suffix isN).subset hx))
            have := end_toks (lst_toksR n) t.s (numsF r) d (m + 1) (restF r) hpr (fun s q e => by
              have := List.head?_dropWhile_not isN r
              rw [show r.dropWhile isN = s :: q from e] at this
              simpa using this)
            have et : t = ⟨1, t.s, 0, false⟩ := by
              have h0 := (hp t (List.mem_cons_self ..)).2 (by rw [h1]; decide)
              obtain ⟨k, l, nn, tm⟩ := t
              simp only at h1 h0
              obtain ⟨rfl, rfl⟩ := h0
              subst h1
              rfl
            have hr : r.map bareN = ((numsF r).map nTk ++ restF r).map bareN := by
              conv => lhs; rw [← List.takeWhile_append_dropWhile (p := isN) (l := r), List.map_append]
              rw [List.map_append]
              unfold numsF restF
              rw [bare_nums (fun x hx => (List.all_eq_true.1 (List.all_takeWhile (l := r) (p := isN))) x hx)]
            generalize endF (lstF n) t.s (numsF r) d (m + 1) (restF r) = X at *
            match X with
            | .bad e r => trivial
            | .ok x m2 r2 =>
              refine ⟨?_, this.2⟩
              rw [← this.1, List.map_cons, List.map_cons, hr, ← et]
          · trivial
      generalize stmX (lstF n) d m t r = X at *
      match X with
      | .bad e r => trivial
      | .ok x m2 r2 =>
        simp only
        have := lst_toksR n d m2 r2 hs.2
        generalize lstF n d m2 r2 = Y at *
        match Y with
        | .bad e r => trivial
        | .ok f m r => exact ⟨by rw [hs.1, Fo.toks_app, List.append_assoc, List.map_append, List.map_append, this.1], this.2⟩
    · rw [lstF, if_neg h1]; exact ⟨rfl, hp⟩
theorem tok_plain (p : List UInt8) (t : Tk) (h : tokF p = .ok t) : plainT t := by
  have hn : ∀ p t, numF p = .ok t → plainT t := by
    intro p t h
    unfold numF at h
    split at h
    · cases h
    split at h
    · cases h
    split at h
    · split at h
      · cases h; exact ⟨.inr (.inl rfl), fun h => absurd rfl h⟩
      · cases h
    · cases h; exact ⟨.inr (.inl rfl), fun h => absurd rfl h⟩
  match p with
  | [] => cases h
  | c :: r =>
    unfold tokF at h
    simp only at h
    split at h
    · cases h; exact ⟨.inr (.inr rfl), fun _ => ⟨rfl, rfl⟩⟩
    split at h
    · cases h; exact ⟨.inl rfl, fun _ => ⟨rfl, rfl⟩⟩
    split at h
    · cases h
    · exact hn _ _ h
theorem cut_plain : ∀ (n : Nat) (l : List UInt8) (rem : Bool) (p : Pl), l.length ≤ n → ∀ x ∈ (cutL l rem p).1, plainT x.1 := by
  intro n
  induction n with
  | zero =>
    intro l rem p h
    have : l = [] := List.eq_nil_of_length_eq_zero (by omega)
    subst this
    rw [cutL]
    exact fun _ h => (by cases h)
  | succ n ih =>
    intro l rem p h
    match l with
    | [] =>
      rw [cutL]
      exact fun _ h => (by cases h)
    | c :: r =>
      have hr : r.length ≤ n := by simpa using h
      have hd : ∀ k, (r.drop k).length ≤ n := fun k => by rw [List.length_drop]; omega
      rw [cutL]
      split
      · exact fun _ h => (by cases h)
      split
      · exact ih _ _ _ (hd _)
      split
      · exact ih _ _ _ (hd _)
      split
      · exact ih _ _ _ (hd _)
      split
      · exact fun _ h => (by cases h)
      · rename_i t hte
        have h1 := tok_plain _ _ hte
        have h2 := ih (r.drop ((pieceF (c :: r)).length - 1)) false ⟨p.line, p.col + (pieceF (c :: r)).length⟩ (hd _)
        intro x hx
        rcases List.mem_cons.1 hx with rfl | hx
        · exact h1
        · exact h2 x hx
theorem toks_plain (l : List UInt8) : PlainTs (toksF l) := by
  intro t ht
  obtain ⟨x, hx, rfl⟩ := List.mem_map.1 ht
  exact cut_plain _ l false firstP (Nat.le_refl _) x hx
/-- What is parsed has its text's tokens, but for how numbers looked. -/
theorem par_toks {l : List UInt8} {f : Fo} (h : parF l = .ok f) : (toksF l).map bareN = f.toks.map bareN := by
  unfold parF at h
  split at h
  · cases h
  split at h
  · cases h
  cases ha : allF (toksF l) with
  | bad er r => rw [ha] at h; cases h
  | ok f2 m2 r =>
    rw [ha] at h
    cases h
    have h4 := lst_toksR (toksF l).length 1 0 (toksF l) (toks_plain l)
    rw [show lstF (toksF l).length 1 0 (toksF l) = lst 1 0 (toksF l) from rfl, (all_ok ha).1] at h4
    rw [h4.1, List.append_nil]

/-! ### When Check answers OK -/
theorem roomF_okA : ∀ (f : Fo) (m k : Int), 1 ≤ k → 0 ≤ f.roomF m k → 0 ≤ m → f.okA k ∧ (f.nest : Int) ≤ m ∧ f.roomF m k = m - f.nest := by
  intro f
  induction f with
  | nil => intro m k _ h hm; exact ⟨trivial, by simp [Fo.nest]; omega, by simp [Fo.roomF, Fo.nest]⟩
  | cons wd ns bl y n ih1 ih2 =>
    intro m k hk h hm
    rw [Fo.roomF] at h ⊢
    split at h
    · omega
    rename_i hc
    rw [if_neg hc]
    have hfit : fitB wd ns bl y.len = true := by
      cases hf : fitB wd ns bl y.len with
      | true => rfl
      | false => exact absurd (.inr (.inl hf)) hc
    have hbk : bl = true → 1 < k := fun hb => by
      have : ¬ k = 1 := fun h => hc (.inr (.inr ⟨hb, h⟩))
      omega
    have hyr : 0 ≤ y.roomF (m - y.len) (k - 1) := by
      cases n with
      | nil => exact h
      | cons _ _ _ _ _ =>
        rw [Fo.roomF] at h
        split at h
        · omega
        · rename_i h2; exact Int.not_lt.1 fun h3 => h2 (.inl h3)
    have hlen : 0 ≤ m - y.len := by
      rcases Int.lt_or_le (m - y.len) 0 with hlt | hle
      · exfalso
        cases y with
        | nil => simp only [Fo.len] at hlt; omega
        | cons _ _ _ _ _ => rw [Fo.roomF, if_pos (.inl hlt)] at hyr; omega
      · exact hle
    have hy : y.okA (k - 1) ∧ (y.nest : Int) ≤ m - y.len ∧ y.roomF (m - y.len) (k - 1) = m - y.len - y.nest := by
      cases bl with
      | true => exact ih1 _ _ (by have := hbk rfl; omega) hyr hlen
      | false =>
        have := (fit_of hfit).2.2.2 rfl
        match y, this with
        | .nil, _ => exact ⟨trivial, by simp [Fo.nest]; omega, by simp [Fo.roomF, Fo.nest]⟩
    have hcn := y.count_nest
    rw [hy.2.2] at h ⊢
    have hn := ih2 _ k hk h (by omega)
    refine ⟨⟨hfit, hbk, hy.1, hn.1⟩, ?_, ?_⟩
    · simp only [Fo.nest]; omega
    · rw [hn.2.2]; simp only [Fo.nest]; omega
theorem chk_ok {f : Fo} (h : chkE f = 0) : f.okA 6 ∧ f.count ≤ 2000 := by
  unfold chkE at h
  split at h
  · cases h
  rename_i h0
  have h1 := f.count_nest
  have hl : 0 ≤ (2000 : Int) - f.len := by
    rcases Int.lt_or_le ((2000 : Int) - f.len) 0 with hlt | hle
    · exfalso
      cases f with
      | nil => simp only [Fo.len] at hlt; omega
      | cons _ _ _ _ _ => rw [Fo.roomF, if_pos (.inl hlt)] at h0; omega
    · exact hle
  have h2 := roomF_okA f (2000 - f.len) 6 (by omega) (by omega) hl
  exact ⟨h2.1, by omega⟩
theorem ok_chk {f : Fo} (h : f.okA 6) (hc : f.count ≤ 2000) : chkE f = 0 := by
  have hn := f.count_nest
  unfold chkE
  rw [roomF_ok f _ _ h (by omega), if_neg (by omega)]
end Go.Proofs.YtpkoboohnbkpoaaGreatDoor

/-! WC -/
namespace Go.Proofs.YtpkoboohnbkpoaaGreatDoor
open Go Go.RowKit Go.Joins

/-- Block b, of a call's own (from B on), is a printer that holds l. -/
structure PBv (w : World) (B b : Nat) (p v : Value) (l : List UInt8) : Prop where
  le : B ≤ b
  blk : w.heap[b]? = some (.cells #[p, v] 126 (0, 0))
  own : w.ownsRow B 5 1 v l.length (Lib.byteCells l)
  ne : v.ownBlock ≠ some b
  adr : p = .pointer none ∨ p = .pointer (some ⟨b, 0, none⟩)
  nil : l = [] → v = .slice none 0 0
def PB (w : World) (B b : Nat) (l : List UInt8) : Prop := ∃ p v, PBv w B b p v l
def bufB (w : World) (b : Nat) : Option Nat := match w.heap[b]? with
  | some (.cells cs _ _) => (cs.toList.getD 1 undef).ownBlock
  | _ => none
/-- Of what was there at w only the printer b and its buffer may have turned. -/
structure PMov (B b : Nat) (w w' : World) : Prop where
  bel : Below B w w'
  keep : ∀ j, j < w.heap.size → j ≠ b → bufB w b ≠ some j → w'.heap[j]? = w.heap[j]?
  buf : ∀ j, j < w.heap.size → bufB w' b = some j → bufB w b = some j
section
variable {w w' w2 : World} {B b j : Nat} {p v : Value} {l : List UInt8}
theorem bufB_of {cs : Array Value} {T : TypeId} {fz : Nat × Nat} (h : w.heap[b]? = some (.cells cs T fz)) : bufB w b = (cs.toList.getD 1 undef).ownBlock := by unfold bufB; rw [h]
theorem PBv.buf (h : PBv w B b p v l) : bufB w b = v.ownBlock := bufB_of h.blk
theorem PBv.lt (h : PBv w B b p v l) : b < w.heap.size := (Array.getElem?_eq_some_iff.1 h.blk).1
theorem PB.lt (h : PB w B b l) : b < w.heap.size := by obtain ⟨p, v, h⟩ := h; exact h.lt
theorem PB.le (h : PB w B b l) : B ≤ b := by obtain ⟨p, v, h⟩ := h; exact h.le
theorem PB.leB (h : PB w B b l) : B ≤ w.heap.size := Nat.le_of_lt (Nat.lt_of_le_of_lt h.le h.lt)
theorem PB.bufB_ge (h : PB w B b l) (hj : bufB w b = some j) : B ≤ j ∧ j < w.heap.size := by
  obtain ⟨p, v, h⟩ := h
  rw [h.buf] at hj
  exact h.own.lt j hj
theorem PMov.refl (B b : Nat) (w : World) : PMov B b w w := ⟨Below.refl _ _, fun _ _ _ _ => rfl, fun _ _ h => h⟩
theorem PMov.trans (h : PMov B b w w') (h2 : PMov B b w' w2) : PMov B b w w2 := by
  have hs := h.bel.size
  refine ⟨h.bel.trans h2.bel, fun j hj hb hn => ?_, fun j hj hn => h.buf j hj (h2.buf j (by omega) hn)⟩
  rw [h2.keep j (by omega) hb (fun e => hn (h.buf j hj e)), h.keep j hj hb hn]
theorem PMov.of (hB : B ≤ w.heap.size) (hb : b < w.heap.size) (h : Below w.heap.size w w') : PMov B b w w' := by
  have e : bufB w' b = bufB w b := by unfold bufB; rw [h.block b hb]
  exact ⟨h.mono hB, fun j hj _ _ => h.block j hj, fun j _ hn => by rw [← e]; exact hn⟩
theorem PB.below (h : PB w B b l) (hk : Below w.heap.size w w') : PB w' B b l := by
  obtain ⟨p, v, h⟩ := h
  refine ⟨p, v, h.le, (hk.block b h.lt).trans h.blk, ⟨h.own.1, ?_⟩, h.ne, h.adr, h.nil⟩
  rcases h.own.2 with h0 | ⟨g, cap, cur, hv, hg, hh, r⟩
  · exact .inl h0
  · exact .inr ⟨g, cap, cur, hv, hg, (hk.block g (Array.getElem?_eq_some_iff.1 hh).1).trans hh, r⟩
/-- A store elsewhere, in a block of the call's own that is neither the printer nor its buffer. -/
theorem PB.oth {g : Nat} (h : PB w B b l) (ho : Oth g w w') (hg : g ≠ b) (hn : bufB w b ≠ some g) : PB w' B b l := by
  obtain ⟨p, v, h⟩ := h
  refine ⟨p, v, h.le, (ho b (Ne.symm hg)).trans h.blk, ⟨h.own.1, ?_⟩, h.ne, h.adr, h.nil⟩
  rcases h.own.2 with h0 | ⟨k, cap, cur, hv, hk, hh, r⟩
  · exact .inl h0
  · refine .inr ⟨k, cap, cur, hv, hk, (ho k ?_).trans hh, r⟩
    rintro rfl
    rw [h.buf, hv] at hn
    exact hn rfl
/-- A block of the call's own that writing to the printer doesn't touch. -/
def Free (w : World) (b g : Nat) : Prop := g < w.heap.size ∧ g ≠ b ∧ bufB w b ≠ some g
theorem Free.mov {g : Nat} (h : Free w b g) (hm : PMov B b w w') : Free w' b g ∧ w'.heap[g]? = w.heap[g]? :=
  ⟨⟨Nat.lt_of_lt_of_le h.1 hm.bel.size, h.2.1, fun e => h.2.2 (hm.buf g h.1 e)⟩, hm.keep g h.1 h.2.1 h.2.2⟩
theorem free_new {l : List UInt8} (h : PB w B b l) (hk : Below w.heap.size w w') (hs : w'.heap.size = w.heap.size + 1) : Free w' b w.heap.size := by
  have e : bufB w' b = bufB w b := by unfold bufB; rw [hk.block b h.lt]
  refine ⟨by omega, by have := h.lt; omega, fun hn => ?_⟩
  rw [e] at hn
  have := (h.bufB_ge hn).2
  omega
theorem Sh.Var.free_mov {P : Program} {α : Type} {σ : Sh P α} {g : Nat} {x : α} (h : σ.Var w g x) (hf : Free w b g) (hm : PMov B b w w') : σ.Var w' g x :=
  ⟨fun j u hu => (World.cell?_of_block (a := ⟨g, 0 + j, none⟩) (hf.mov hm).2).trans (h.1 j u hu), fun j hj => ⟨by rw [World.cell?_of_block (a := ⟨g, 0 + j, none⟩) (hf.mov hm).2]; exact (h.2 j hj).1, by rw [World.frozen?_of_block (a := ⟨g, 0 + j, none⟩) (hf.mov hm).2]; exact (h.2 j hj).2⟩⟩
end

theorem pb_size : (Tryz.prog.info? 124).map (·.size) = some 2 := by kernel_rfl
theorem pb_lies : liesAt Tryz.prog Tryz.prog.depth 126 (2 / Tryz.prog.cellsOf 126) 0 124 1 = true := by kernel_rfl
theorem pb_byte : (Tryz.prog.info? 5).map (fun i => (i.zero, i.size, i.bytes)) = some (some (.int .u8 0), 1, 1) := by kernel_rfl
theorem pb_ne : 126 ≠ 5 := by decide

/-! ### A string behind bytes of the call's own: where they lie then -/
theorem append_str {P : Program} (w : World) (base : Nat) (t u ty e : TypeId) (i : TypeInfo) (ht : P.underlying t = some (.slice e)) (hu : P.underlying u = some .string) (hi : P.info? e = some i) (hz : i.zero = some (.int .u8 0))
    (hsize : i.size = 1) (hby : i.bytes = 1) (v : Value) (n : Nat) (xs : List Value) (hown : w.ownsRow base e 1 v n xs) (s : ByteArray) (hb : n + s.size ≤ 1099511627776) (hbase : base ≤ w.heap.size) :
    ∃ v' w', (Builtin.append_ #[t, u] ty #[v, .string s]).run P w = .ok v' w' ∧ w'.ownsRow base e 1 v' (n + s.size) (xs ++ Lib.strCells s) ∧ w.grownBy w' v.ownBlock ∧ (v' = .slice none 0 0 ↔ v = .slice none 0 0 ∧ s.size = 0) ∧
      ∀ k, v'.ownBlock = some k → v.ownBlock = some k ∨ w.heap.size ≤ k := by
  obtain ⟨v', w', h1, h2, h3, h4⟩ := Lib.run_append_own_string w base t u ty e i ht hu hi hz hsize hby v n xs hown s (by unfold maxLen; omega) (by omega) hbase
  refine ⟨v', w', h1, h2, h3, h4, fun k hk => ?_⟩
  rcases hown.2 with ⟨rfl, rfl⟩ | ⟨g, cap, cur, rfl, hbg, hg, hnc, hcm, hcs, htake⟩
  · right
    have hx : xs = [] := List.eq_nil_of_length_eq_zero (by simpa using hown.1)
    subst hx
    obtain ⟨v2, w2, k1, k2, _, _⟩ := Lib.run_append_own_string w w.heap.size t u ty e i ht hu hi hz hsize hby (.slice none 0 0) 0 [] (World.ownsRow_nil _ _ _ _) s (by unfold maxLen; omega) (by omega) (Nat.le_refl _)
    rw [h1] at k1
    injection k1 with e1 e2
    subst e1 e2
    exact (k2.lt k hk).1
  · have hxl : xs.length = n := by simpa using hown.1
    have hcs' : cur.size = cap := by simpa using hcs
    by_cases hroom : n + s.size ≤ cap
    · left
      have hr := Lib.run_append_room_string (P := P) w t u ty e i ht hu hi hsize g n cap cur hg s hroom (by omega)
      rw [h1] at hr
      injection hr with e1 e2
      subst e1
      exact hk
    · right
      have hr := Lib.run_append_grow_string (P := P) w t u ty e i (.int .u8 0) ht hu hi hz ⟨g, 0, none⟩ n cap xs (by rw [hsize]; simpa using hxl) (hown.cells (g := g) rfl) s (by omega) (by omega) (by rw [hby]; exact growslice_fits (by omega) (by omega))
      rw [h1] at hr
      injection hr with e1 e2
      subst e1
      have hk : some w.heap.size = some k := hk
      injection hk with hk
      omega
theorem wp_append_str {P : Program} {w : World} {ops : Array Oper} {rest : List Oper} {o : Oper} {a : Act} {Q : Exit → Act → World → Prop} (hgd : o.guard = none) (sl x : Operand) (t u : TypeId)
    (ho : o.op = .call { callee := .builtin .append, args := #[sl, x], argTypes := #[t, u] })
    (base : Nat) (e : TypeId) (i : TypeInfo) (ht : P.underlying t = some (.slice e)) (hu : P.underlying u = some .string) (hi : P.info? e = some i) (hz : i.zero = some (.int .u8 0)) (hsize : i.size = 1) (hby : i.bytes = 1)
    (v : Value) (n : Nat) (xs : List Value) (hs : a.eval sl = v) (hown : w.ownsRow base e 1 v n xs) (s : ByteArray) (hx : a.eval x = .string s) (hb : n + s.size ≤ 1099511627776) (hbase : base ≤ w.heap.size)
    (h : ∀ v' w', w'.ownsRow base e 1 v' (n + s.size) (xs ++ Lib.strCells s) → w.grownBy w' v.ownBlock → (v' = .slice none 0 0 ↔ v = .slice none 0 0 ∧ s.size = 0) → (∀ k, v'.ownBlock = some k → v.ownBlock = some k ∨ w.heap.size ≤ k) → wpList P ops Q rest (a.put o.dst v') w') : wpList P ops Q (o :: rest) a w := by
  refine wpList_plain hgd fun K hK => ?_
  obtain ⟨v', w', hr, h2, h3, h4, h5⟩ := append_str (P := P) w base t u o.type e i ht hu hi hz hsize hby v n xs hown s hb hbase
  unfold Oper.wp execOp
  simp only [ho, resolve, invoke, builtin, Sem.run_bind, Sem.run_pure, Result.andThen_ok, List.map_toArray, List.map_cons, List.map_nil, hs, hx, hr]
  exact hK _ _ (h v' w' h2 h3 h4 h5)

section
variable {w : World} {B b : Nat} {p v : Value} {l : List UInt8}
/-- A fresh printer. -/
theorem pb_new (w : World) : PB (w.alloc (.cells #[.pointer none, .slice none 0 0] 126)) w.heap.size w.heap.size [] :=
  ⟨_, _, Nat.le_refl _, heap_alloc_new w _, World.ownsRow_nil _ _ _ _, by simp [Value.ownBlock], .inl rfl, fun _ => rfl⟩
theorem pb_cell0 (h : PBv w B b p v l) : w.cell? ⟨b, 0, none⟩ = some p := by simp [World.cell?, h.blk]
theorem pb_cell1 (h : PBv w B b p v l) : w.cell? ⟨b, 1, none⟩ = some v := by simp [World.cell?, h.blk]
theorem pb_free (h : PBv w B b p v l) (j : Nat) : w.frozen? ⟨b, j, none⟩ = false := by simp [World.frozen?, h.blk]
theorem pb_shape (h : PBv w B b p v l) : w.shape? b = some (126, 2) := by simp [World.shape?, h.blk]

/-- It notes its own address, and holds what it held. -/
theorem PBv.used (h : PBv w B b p v l) : PBv (w.setCell ⟨b, 0, none⟩ (.pointer (some ⟨b, 0, none⟩))) B b (.pointer (some ⟨b, 0, none⟩)) v l := by
  refine ⟨h.le, ?_, ⟨h.own.1, ?_⟩, h.ne, .inr rfl, h.nil⟩
  · have := h.blk
    simp [World.setCell, Array.getElem?_modify, this]
  rcases h.own.2 with h0 | ⟨g, cap, cur, hv, hg, hh, r⟩
  · exact .inl h0
  · refine .inr ⟨g, cap, cur, hv, hg, ?_, r⟩
    rw [Below.heap_setCell _ _ _ _ (by rintro rfl; exact h.ne (by rw [hv]; rfl))]
    exact hh
theorem mov_set (h : PBv w B b p v l) (j : Nat) (u v' : Value) (e : (w.setCell ⟨b, j, none⟩ u).heap[b]? = some (.cells #[p, v'] 126 (0, 0))) (hv : v'.ownBlock = v.ownBlock) : PMov B b w (w.setCell ⟨b, j, none⟩ u) :=
  ⟨(Below.refl _ _).setCell (p := ⟨b, j, none⟩) h.le u, fun k _ hk _ => Below.heap_setCell _ _ _ _ hk, fun k _ hn => by rw [bufB_of e] at hn; rw [h.buf, ← hv]; exact hn⟩

set_option maxRecDepth 100000 in
theorem check_p (h : PBv w B b p v l) : Calls Tryz.prog 143 #[.pointer (some ⟨b, 0, none⟩)] w fun e w' => e = .returned (.tuple #[]) ∧ PBv w' B b (.pointer (some ⟨b, 0, none⟩)) v l ∧ PMov B b w w' := by
  obtain ⟨j, hj, hjs⟩ := Option.map_eq_some_iff.1 pb_size
  have h0 := pb_cell0 h
  have hfz := pb_free h 0
  have hsh := pb_shape h
  have H := hid h
  rcases h.adr with rfl | rfl
  · clear h
    go_enter Tryz.func143, Tryz.ntmps143
    go_wp2
    rw [Lib.run_to_unsafe w ⟨b, 0, none⟩ Tryz.underlying121 Tryz.underlying197 hj (by rw [hjs]; decide) hsh (Nat.zero_lt_succ 1)]
    simp only [Result.andThen]
    rw [Oper.upon_value]
    go_wp2
    rw [run_callFunc_extern Tryz.func159 (by kernel_rfl) (by kernel_rfl) (by kernel_rfl) (e := Extern.AbiNoEscape.same) (by kernel_rfl)]
    rw [Lib.run_noEscape]
    simp only [Result.andThen]
    rw [Oper.upon_value]
    go_wp2
    rw [Lib.run_from_unsafe w ⟨b, 0, none⟩ Tryz.underlying197 Tryz.underlying121 hj hsh pb_lies]
    simp only [Result.andThen]
    rw [Oper.upon_value]
    go_wp2
    go_end0
    refine ⟨rfl, H.out.used, ?_⟩
    have hu := H.out.used
    exact ⟨(Below.refl _ _).setCell (p := ⟨b, 0, none⟩) H.out.le _, fun k _ hk _ => Below.heap_setCell _ _ _ _ hk, fun k _ hn => by rw [hu.buf] at hn; rw [H.out.buf]; exact hn⟩
  · clear h
    go_enter Tryz.func143, Tryz.ntmps143
    go_wp2
    rw [Lib.run_neq_ptr_same w _ Tryz.underlying121 hj]
    go_wp2
    go_end0
    exact ⟨rfl, H.out, PMov.refl _ _ _⟩

theorem bA_cells (s : List UInt8) : Lib.strCells (bA s) = Lib.byteCells s := by rw [Lib.strCells_eq]; rfl
set_option maxHeartbeats 1000000 in
set_option maxRecDepth 100000 in
theorem wstr_any (s : List UInt8) (h : PB w B b l) (hlen : l.length + s.length ≤ 1099511627776) :
    Calls Tryz.prog 117 #[.pointer (some ⟨b, 0, none⟩), .string (bA s)] w fun e w' => e = .returned (.tuple #[.int .i64 s.length, .nilIface]) ∧ PB w' B b (l ++ s) ∧ PMov B b w w' := by
  obtain ⟨i0, hi, hz⟩ := Option.map_eq_some_iff.1 pb_byte
  have hz0 : i0.zero = some (.int .u8 0) := by injection hz
  have hz1 : i0.size = 1 := by injection hz with _ hz; injection hz
  have hz2 : i0.bytes = 1 := by injection hz with _ hz; injection hz
  obtain ⟨p, v, h⟩ := h
  have HC := hid (check_p h)
  have HL := hid hlen
  have HZ := hid (show (bA s).size = s.length from bA_size s)
  clear h hz hlen
  go_enter Tryz.func117, Tryz.ntmps117
  go_wp2_with (go_at_call 143; refine HC.out.mono ?_)
  rintro e w1 ⟨rfl, h1, m1⟩
  have H1 := hid h1
  have M1 := hid m1
  have c1 := pb_cell1 h1
  have hsz : (bA s).size = s.length := HZ.out
  clear h1 m1
  go_wp2_with (at_builtin; refine wp_append_str rfl _ _ 122 9 rfl B 5 i0 Tryz.underlying122 Tryz.underlying9 hi hz0 hz1 hz2 _ _ _ rfl H1.out.own (bA s) rfl ?c4 ?c5 ?_)
  case c4 => have := HL.out; omega
  case c5 => have := PB.leB ⟨_, _, H1.out⟩; omega
  intro v' w2 hown' hgrow hnil hblk
  have hb2 : w2.heap[b]? = some (.cells #[.pointer (some ⟨b, 0, none⟩), v] 126 (0, 0)) := by
    rw [hgrow.block b H1.out.lt (fun e => H1.out.ne e.symm)]
    exact H1.out.blk
  have d1 : w2.cell? ⟨b, 1, none⟩ = some v := by simp [World.cell?, hb2]
  have f1 : w2.frozen? ⟨b, 1, none⟩ = false := by simp [World.frozen?, hb2]
  have hne : v'.ownBlock ≠ some b := Lib.ownBlock_ne hown' hb2 pb_ne
  have hw := hown'
  have HO := hid (And.intro hown' (And.intro hgrow (And.intro hnil (And.intro hb2 (And.intro hne hblk)))))
  clear hown' hgrow hnil hb2 hne hblk
  obtain ⟨ao, n', cap, rfl⟩ : ∃ ao n' cap, v' = .slice ao n' cap := by
    rcases hw.2 with ⟨hv, _⟩ | ⟨g, cap, cur, hv, _⟩
    · exact ⟨_, _, _, hv⟩
    · exact ⟨_, _, _, hv⟩
  clear hw hsz
  go_wp2
  go_ret2
  obtain ⟨hown', hgrow, hnil, hb2, hne, hblk⟩ := HO.out
  have hsz := HZ.out
  have hbl : w2.heap.size = (w2.setCell ⟨b, 1, none⟩ (.slice ao n' cap)).heap.size := by simp [World.setCell]
  have hnew : PBv (w2.setCell ⟨b, 1, none⟩ (.slice ao n' cap)) B b (.pointer (some ⟨b, 0, none⟩)) (.slice ao n' cap) (l ++ s) := by
    refine ⟨H1.out.le, ?_, ⟨?_, ?_⟩, hne, .inr rfl, fun hz => ?_⟩
    · simp [World.setCell, Array.getElem?_modify, hb2]
    · simp [Lib.byteCells]
    · have h2 := hown'.2
      rw [bA_cells] at h2
      rw [show Lib.byteCells (l ++ s) = Lib.byteCells l ++ Lib.byteCells s from Lib.byteCells_append _ _, List.length_append]
      rcases h2 with h0 | ⟨g, cap', cur, hv, hg, hh, r⟩
      · exact .inl h0
      · refine .inr ⟨g, cap', cur, hv, hg, ?_, r⟩
        rw [Below.heap_setCell _ _ _ _ (by rintro rfl; exact hne (by rw [hv]; rfl))]
        exact hh
    · obtain ⟨hl, hs⟩ := List.append_eq_nil_iff.1 hz
      exact hnil.2 ⟨H1.out.nil hl, hs⟩
  refine ⟨rfl, ⟨_, _, hnew⟩, M1.out.trans ⟨?_, fun k hk hkb hkn => ?_, fun k hk hn => ?_⟩⟩
  · exact ((Below.refl _ _).grown hgrow (PB.leB ⟨_, _, H1.out⟩) (fun k hk => (H1.out.own.lt k hk).1)).setCell (p := ⟨b, 1, none⟩) H1.out.le _
  · rw [Below.heap_setCell _ _ _ _ hkb]
    exact hgrow.block k hk (fun e => hkn (by rw [H1.out.buf]; exact e.symm))
  · rw [hnew.buf] at hn
    rw [H1.out.buf]
    rcases hblk k hn with h | h
    · exact h
    · exact absurd hk (by omega)

set_option maxRecDepth 100000 in
theorem plen_any (h : PB w B b l) : Calls Tryz.prog 84 #[.pointer (some ⟨b, 0, none⟩)] w fun e w' => e = .returned (.int .i64 l.length) ∧ w' = w := by
  obtain ⟨p, v, h⟩ := h
  obtain ⟨ao, cap, rfl⟩ : ∃ ao cap, v = .slice ao l.length cap := by
    rcases h.own.2 with ⟨hv, h0⟩ | ⟨g, cap, cur, hv, _⟩
    · exact ⟨none, 0, by rw [hv, h0]⟩
    · exact ⟨_, _, hv⟩
  have c1 := pb_cell1 h
  clear h
  go_enter Tryz.func84, Tryz.ntmps84
  go_wp2
  go_ret
  exact ⟨rfl, rfl⟩
theorem pb_cellB : Tryz.prog.cellsOf 5 = 1 := by kernel_rfl
set_option maxHeartbeats 1000000 in
set_option maxRecDepth 100000 in
theorem pstr_some (h : PBv w B b p v l) (h0 : l ≠ []) : Calls Tryz.prog 85 #[.pointer (some ⟨b, 0, none⟩)] w fun e w' => e = .returned (.string (bA l)) ∧ Below B w w' := by
  have hl0 : l.length ≠ 0 := by simpa using h0
  have hown := h.own
  obtain ⟨g, cap, cur, rfl, hbg, hg, hnc, hcm, hcs, htake⟩ : ∃ g cap cur, v = .slice (some ⟨g, 0, none⟩) l.length cap ∧ B ≤ g ∧ w.heap[g]? = some (.cells cur 5 (0, 0)) ∧ l.length ≤ cap ∧ cap ≤ maxLen ∧ cur.size = cap * 1 ∧ cur.toList.take (l.length * 1) = Lib.byteCells l := by
    rcases hown.2 with ⟨_, hz⟩ | ⟨g, cap, cur, hv, r⟩
    · exact absurd hz hl0
    · exact ⟨g, cap, cur, hv, r⟩
  have c1 : w.drew.cell? ⟨b, 1, none⟩ = some (.slice (some ⟨g, 0, none⟩) l.length cap) := by show w.cell? _ = _; exact pb_cell1 h
  have hSD : (Builtin.unsafeSliceData_ #[122] 176 #[.slice (some ⟨g, 0, none⟩) l.length cap]).run Tryz.prog w.drew = .ok (.pointer (some ⟨g, 0, none⟩)) w.drew :=
    Lib.run_unsafeSliceData_row _ _ _ _ _ _ (by omega)
  have hUS : (Builtin.unsafeString_ #[176, 3] 9 #[.pointer (some ⟨g, 0, none⟩), .int .i64 l.length]).run Tryz.prog w.drew = .ok (.string (bA l)) (w.drew.freeze ⟨g, 0, none⟩ l.length) := by
    refine Lib.run_unsafeString_row w.drew 176 3 9 5 Tryz.underlying176 pb_cellB g cur.size (by have hg' : w.drew.heap[g]? = some (.cells cur 5 (0, 0)) := hg; simp [World.shape?, hg']) l h0 (by omega) (by unfold maxLen at hcm; omega) ?_
    intro j x hx
    exact hown.cells (g := g) rfl j (.int .u8 x.toNat) (by simp [Lib.byteCells, hx])
  clear hown hg hcm hcs htake hnc h
  go_enter Tryz.func85, Tryz.ntmps85
  have mixed : Tryz.prog.follows Departure.mixedOrders = true := by kernel_rfl
  go_wp2
  go_region_o
  all_goals (go_wp2; go_ret; exact ⟨rfl, Lib.below_freeze (Below.drew (Below.refl B w)) (p := ⟨g, 0, none⟩) hbg _⟩)
set_option maxHeartbeats 1000000 in
set_option maxRecDepth 100000 in
theorem pstr_none (h : PBv w B b p (.slice none 0 0) []) : Calls Tryz.prog 85 #[.pointer (some ⟨b, 0, none⟩)] w fun e w' => e = .returned (.string ⟨#[]⟩) ∧ Below B w w' := by
  have hUS : ∀ (W : World) (q : Option Addr), (Builtin.unsafeString_ #[176, 3] 9 #[.pointer q, .int .i64 0]).run Tryz.prog W = .ok (.string .empty) W := fun W q => Lib.run_unsafeString_none W _ _ _ q
  have c1 : w.drew.cell? ⟨b, 1, none⟩ = some (.slice none 0 0) := by show w.cell? _ = _; exact pb_cell1 h
  have hSD : (Builtin.unsafeSliceData_ #[122] 176 #[.slice none 0 0]).run Tryz.prog w.drew = .ok (.pointer none) w.drew := rfl
  clear h
  go_enter Tryz.func85, Tryz.ntmps85
  have mixed : Tryz.prog.follows Departure.mixedOrders = true := by kernel_rfl
  go_wp2
  go_region_o
  all_goals (go_wp2; go_ret; exact ⟨rfl, Below.drew (Below.refl B w)⟩)
theorem pstr_any (h : PB w B b l) : Calls Tryz.prog 85 #[.pointer (some ⟨b, 0, none⟩)] w fun e w' => e = .returned (.string (bA l)) ∧ Below B w w' := by
  obtain ⟨p, v, h⟩ := h
  cases l with
  | nil =>
    obtain rfl := h.nil rfl
    exact pstr_none h
  | cons c r => exact pstr_some h (by simp)
end
end Go.Proofs.YtpkoboohnbkpoaaGreatDoor

/-! WD -/
namespace Go.Proofs.YtpkoboohnbkpoaaGreatDoor
open Go Go.RowKit Go.Joins

def LwB (B : Nat) (w : World) : Prop := ∀ w1, Below B w w1 → LaidW w1
section
variable {w w' : World} {B b n c : Nat} {l : List UInt8} {K : Nat → Prop} {A : Option Addr}
theorem LwB.of (h : LaidW w) : LwB w.heap.size w := fun _ hb => h.below hb
theorem LwB.go (h : LwB B w) (hb : Below B w w') : LwB B w' := fun _ h1 => h _ (hb.trans h1)
theorem LwB.now (h : LwB B w) : LaidW w := h w (Below.refl _ _)
theorem RwP.lowB {Q : Program} {α : Type} {σ : Sh Q α} {ys : List α} (h : RwP σ w K A n ys) (hK : ∀ k, K k → k < B) (hb : Below B w w') : RwP σ w' K A n ys := h.keep fun k hk _ => hb.block k (hK k hk)
theorem Tr.lowB {f : Fo} {xs : List Sm} (h : Tr w K f xs) (hK : ∀ k, K k → k < B) (hb : Below B w w') : Tr w' K f xs := h.keep fun k hk _ => hb.block k (hK k hk)
theorem TrS.lowB {f : Fo} (h : TrS w K A n f) (hK : ∀ k, K k → k < B) (hb : Below B w w') : TrS w' K A n f := h.keep fun k hk _ => hb.block k (hK k hk)
theorem PMov.drew (h : PMov B b w w') : PMov B b w w'.drew := ⟨h.bel.drew, h.keep, h.buf⟩
/-- WriteString, of any string. -/
theorem wstr_b (z : ByteArray) (s : List UInt8) (hz : z.data.toList = s) (h : PB w B b l) (hlen : l.length + s.length ≤ 1099511627776) :
    Calls Tryz.prog 117 #[.pointer (some ⟨b, 0, none⟩), .string z] w fun e w' => (∃ k, e = .returned (.tuple #[.int .i64 k, .nilIface])) ∧ PB w' B b (l ++ s) ∧ PMov B b w w' := by
  subst hz
  have e : bA z.data.toList = z := rfl
  have := wstr_any (w := w) z.data.toList h hlen
  rw [e] at this
  exact this.mono fun e w' h => ⟨⟨_, h.1⟩, h.2⟩
/-- The text of a number. -/
theorem num_text (x : Int × Bool) (hL : LaidW w) (hx : -1000000000000000000 < x.1 ∧ x.1 < 1000000000000000000) :
    Calls Tryz.prog 144 #[.agg #[.int .i64 2, .string ⟨#[]⟩, .int .i64 x.1, .bool x.2]] w fun e w' => e = .returned (.tuple #[.string (bA (numX x.1 x.2)), .int .i64 0]) ∧ Below w.heap.size w w' := by
  have h := text_any ⟨2, [], x.1, x.2⟩ w hL (by simp)
  have e : textR ⟨2, [], x.1, x.2⟩ = .tuple #[.string (bA (numX x.1 x.2)), .int .i64 0] := by
    unfold textR textF
    rw [if_pos ⟨rfl, by simpa [smallI] using hx⟩]
  rw [e] at h
  exact h
end
theorem str_app (a b : ByteArray) : (a ++ b).data.toList = a.data.toList ++ b.data.toList := by simp
theorem str_one (c : UInt8) (s : List UInt8) : ((⟨#[c]⟩ : ByteArray) ++ bA s).data.toList = c :: s := by rw [str_app]; rfl
theorem numsL_cons (x : Int × Bool) (ns : List (Int × Bool)) : numsL (x :: ns) = (32 :: numX x.1 x.2) ++ numsL ns := rfl
theorem numsL_drop {ns : List (Int × Bool)} {i : Nat} (h : i < ns.length) : numsL (ns.drop i) = (32 :: numX (nmS.nth ns i).1 (nmS.nth ns i).2) ++ numsL (ns.drop (i + 1)) := by
  rw [List.drop_eq_getElem_cons h, numsL_cons]
  have e : nmS.nth ns i = ns[i] := Sh.nth_of nmS (List.getElem?_eq_getElem h)
  rw [e]

set_option maxHeartbeats 1000000 in
set_option maxRecDepth 100000 in
theorem line_any (x : Sm) (ns : List (Int × Bool)) (w : World) (B b : Nat) (l : List UInt8) (K : Nat → Prop) (hp : PB w B b l) (hL : LwB B w) (hr : RwP nmS w K x.nA x.nn ns) (hK : ∀ k, K k → k < B) (hn : ∀ y ∈ ns, -1000000000000000000 < y.1 ∧ y.1 < 1000000000000000000) (hc : ns.length ≤ 1000000)
    (hlen : l.length + (lineF x.word ns x.block).length ≤ 1099511627776) :
    Calls Tryz.prog 118 #[.pointer (some ⟨b, 0, none⟩), smV x] w fun e w' => e = .returned (.tuple #[]) ∧ PB w' B b (l ++ lineF x.word ns x.block) ∧ PMov B b w w' := by
  obtain ⟨xw, xA, xn, xc, xb, xB, xm, xk⟩ := x
  simp only at hr hlen ⊢
  have HP := hid hp
  have HLW := hid hL
  have HR := hid hr
  have HK := hid hK
  have HN := hid hn
  have hxn : xn ≤ 1000000 := by have := hr.1; omega
  have HLL := hid (show l.length + xw.length + (numsL ns).length + 2 ≤ 1099511627778 from by
    have := hlen; unfold lineF at this; simp only [List.length_append] at this; omega)
  have HLT := hid (show l.length + xw.length + (numsL ns).length + (tailL xb).length ≤ 1099511627776 from by
    have := hlen; unfold lineF at this; simp only [List.length_append] at this; omega)
  clear hp hL hr hK hn hc hlen
  go_enter Tryz.func118, Tryz.ntmps118
  go_upto_region 1 with (first
    | (refine Sh.wp_box smS (x := ⟨xw, xA, xn, xc, xb, xB, xm, xk⟩) rfl (.tmp 1) rfl rfl ?_; intro w1 v1 b1 s1; have P1 := hid (HP.out.below b1); have M1 := hid (PMov.of HP.out.leB HP.out.lt b1); have F1 := hid (free_new HP.out b1 s1.out); have V1 := hid v1; clear v1 b1 s1))
  have c0 : w1.cell? ⟨w.heap.size, 0, none⟩ = some (.string (strB xw)) := V1.out.cell (j := 0) rfl
  clear HP
  go_still_tail 5, (by kernel_rfl)
  have D1 : Below w1.heap.size w1 w1.drew := (Below.refl _ _).drew
  have N1 := PMov.of P1.out.leB P1.out.lt D1
  have P1 := hid (P1.out.below D1)
  have M1 := hid (M1.out.drew)
  have F1 := hid (F1.out.mov N1).1
  have V1 := hid (V1.out.keep D1)
  clear c0 D1 N1
  change wpList _ _ _ _ _ w1.drew
  generalize w1.drew = w2 at *
  have H1 := hid (wstr_b (w := w2) (strB xw) xw rfl P1.out (by have := HLL.out; omega))
  go_wp2_with (go_at_call 117; refine H1.out.mono ?_; rintro e w3 ⟨⟨k3, rfl⟩, p3, m3⟩; have P3 := hid p3; have M3 := hid (M1.out.trans m3); have F3 := hid (F1.out.mov m3).1; have V3 := hid (V1.out.free_mov F1.out m3); have c1 : w3.cell? ⟨w.heap.size, 1, none⟩ = some (.slice xA xn xc) := V3.out.cell (j := 1) rfl; clear p3 m3 H1 P1 M1 F1 V1)
  go_loopw [17] (fun v17 wr => ∃ (i : Nat) (m : List UInt8), v17 = .int .i64 (i : Int) ∧ i ≤ xn ∧ PB wr B b m ∧ m ++ numsL (ns.drop i) = l ++ xw ++ numsL ns ∧ PMov B b w wr ∧ Free wr b w.heap.size ∧ smS.Var wr w.heap.size ⟨xw, xA, xn, xc, xb, xB, xm, xk⟩) (fun v17 _ => xn - (intOf v17).toNat)
  case atStart => exact ⟨0, _, rfl, Nat.zero_le _, P3.out, rfl, M3.out, F3.out, V3.out⟩
  case round =>
    obtain ⟨i, m, rfl, hi, hpb, hm, hmv, hfr, hvr⟩ := hrel
    have P4 := hid hpb
    have M4 := hid hmv
    have F4 := hid hfr
    have V4 := hid hvr
    have HM := hid hm
    by_cases hlt : i < xn
    · have hnl : i < ns.length := by rw [HR.out.1]; exact hlt
      obtain ⟨b2, o2, rfl, hb2, hcell⟩ := (HR.out.lowB HK.out hmv.bel).size.at_ hlt
      have HD := hid (numsL_drop hnl)
      have HIN := hid (HN.out _ (List.mem_of_getElem? (Sh.nth_get nmS hnl)))
      generalize nmS.nth ns i = y at *
      obtain ⟨y1, y2⟩ := y
      simp only at HIN HD
      have HTX := hid (fun wx (hb : Below B w wx) => num_text (w := wx) (y1, y2) (HLW.out wx hb) HIN.out)
      have hml : m.length + (32 :: numX y1 y2).length ≤ 1099511627776 := by
        have e := congrArg List.length hm
        rw [HD.out] at e
        simp only [List.length_append] at e
        have := HLL.out
        omega
      have HML := hid hml
      have hz := bA_size (numX y1 y2)
      have n1 : ¬ (9223372036854775807 : Int) < 1 + ((bA (numX y1 y2)).size : Int) := by rw [hz]; simp only [List.length_cons] at hml; omega
      have r1 : wr.rangeAt b2 (o2 + i * 2) (nmS.enc (y1, y2)) := hcell
      clear hcell hpb hm hmv hfr hvr hb2 hml hz hnl
      have HZ := hid (show (⟨#[32]⟩ ++ bA (numX y1 y2) : ByteArray).data.toList = 32 :: numX y1 y2 from str_one 32 _)
      go_wp2_with (first
        | (go_at_call 117; refine (wstr_b (w := w7) _ (32 :: numX y1 y2) HZ.out P7.out HML.out).mono ?_; rintro e w8 ⟨⟨k8, rfl⟩, p8, m8⟩; have P8 := hid p8; have M8 := hid (M7.out.trans m8); have F8 := hid (F7.out.mov m8).1; have V8 := hid (V7.out.free_mov F7.out m8); clear p8 m8)
        | (go_at_call 144; refine (HTX.out w6 M6.out.bel).mono ?_; rintro e w7 ⟨rfl, b7⟩; have n7 := PMov.of P6.out.leB P6.out.lt b7; have P7 := hid (P6.out.below b7); have M7 := hid (M6.out.trans n7); have F7 := hid (F6.out.mov n7).1; have V7 := hid (V6.out.keep b7); clear b7 n7)
        | (refine Sh.wp_sv nmS (x := (y1, y2)) rfl (.tmp 5) (.tmp 20) rfl rfl (by rfl) q5 ?_; intro w6 q6 b6 o6 s6; have d0 : w6.cell? ⟨wr.heap.size, 0, none⟩ = some (.int .i64 y1) := q6.cell (j := 0) rfl; have d1 : w6.cell? ⟨wr.heap.size, 1, none⟩ = some (.bool y2) := q6.cell (j := 1) rfl; have h6 : Below wr.heap.size wr w6 := B5.out.trans b6; have n6 := PMov.of P4.out.leB P4.out.lt h6; have P6 := hid (P4.out.below h6); have M6 := hid (M4.out.trans n6); have F6 := hid (F4.out.mov n6).1; have V6 := hid (V4.out.keep h6); clear q6 b6 o6 s6 q5 B5 h6 n6)
        | (refine Sh.wp_al nmS rfl rfl ?_; intro w5 q5 b5 s5; have B5 := hid b5; clear b5 s5)
        | (refine Sh.wp_ld nmS rfl (.tmp 19) rfl rfl r1 ?_))
      go_roundw
      case rel => exact ⟨i + 1, _, by go_num, by omega, P8.out, by rw [← HM.out, HD.out]; simp, M8.out, F8.out, V8.out⟩
      case measure => simp [intOf]; omega
    · obtain rfl : i = xn := by omega
      have c2 : wr.cell? ⟨w.heap.size, 2, none⟩ = some (.bool xb) := V4.out.cell (j := 2) rfl
      have HM2 := hid (show m = l ++ xw ++ numsL ns by
        have := hm
        rw [List.drop_eq_nil_of_le (by rw [HR.out.1]; exact Nat.le_refl _)] at this
        simpa [numsL] using this)
      clear hpb hm hmv hfr hvr
      cases xb
      · have HX := hid (show m.length + ([59] : List UInt8).length ≤ 1099511627776 by have := HLT.out; rw [HM2.out]; simp only [List.length_append, tailL] at this ⊢; simpa using this)
        go_wp2_with (go_at_call 117; refine (wstr_b (w := wr) _ [59] rfl P4.out HX.out).mono ?_; rintro e w8 ⟨⟨k8, rfl⟩, p8, m8⟩; have P8 := hid p8; have M8 := hid (M4.out.trans m8); clear p8 m8)
        go_end0
        exact ⟨rfl, by have := P8.out; rw [HM2.out] at this; simpa [lineF, tailL] using this, M8.out⟩
      · have HX := hid (show m.length + ([32, 123] : List UInt8).length ≤ 1099511627776 by have := HLT.out; rw [HM2.out]; simp only [List.length_append, tailL] at this ⊢; simpa using this)
        go_wp2_with (go_at_call 117; refine (wstr_b (w := wr) _ [32, 123] rfl P4.out HX.out).mono ?_; rintro e w8 ⟨⟨k8, rfl⟩, p8, m8⟩; have P8 := hid p8; have M8 := hid (M4.out.trans m8); clear p8 m8)
        go_end0
        exact ⟨rfl, by have := P8.out; rw [HM2.out] at this; simpa [lineF, tailL] using this, M8.out⟩
end Go.Proofs.YtpkoboohnbkpoaaGreatDoor
