/-
  Contracts of parse.fits and parse.Check, at every forest of at most 2^62 statements; and when Check answers OK.
-/
import Derived.Test.YtinjhnflnfpoeaaGreatDoorQB
namespace Go.Proofs.YtinjhnflnfpoeaaGreatDoor
open Go Go.RowKit Go.Joins

def farB (x : Int × Bool) : Bool := decide (x.1 ≤ -1000000000000000000) || decide (1000000000000000000 ≤ x.1)
def fitB (wd : List UInt8) (ns : List (Int × Bool)) (bl : Bool) (blen : Nat) : Bool := wordB wd && (decide (ns.length ≤ 8) && (!(ns.any farB) && (bl || decide (blen = 0))))
/-- for how many more there is room, behind those that stand here -/
def Fo.roomF : Fo → Int → Int → Int
  | nil, m, _ => m
  | cons wd ns bl y n, m, d => if m < 0 ∨ fitB wd ns bl y.len = false ∨ (bl = true ∧ d = 1) then -1 else n.roomF (y.roomF (m - y.len) (d - 1)) d
theorem roomF_low : ∀ (f : Fo) (m d : Int), m ≤ (f.roomF m d) + f.nest ∨ f.roomF m d = -1 := by
  intro f
  induction f with
  | nil => intro m d; left; simp [Fo.roomF, Fo.nest]
  | cons wd ns bl y n ih1 ih2 =>
    intro m d
    rw [Fo.roomF]
    split
    · exact .inr rfl
    · rename_i h
      have h0 : ¬ m < 0 := fun h2 => h (.inl h2)
      rcases ih2 (y.roomF (m - y.len) (d - 1)) d with h2 | h2
      · rcases ih1 (m - y.len) (d - 1) with h3 | h3
        · left; have := y.count_nest; simp only [Fo.nest]; omega
        · cases n with
          | nil => right; simp only [Fo.roomF]; exact h3
          | cons _ _ _ _ _ => right; rw [Fo.roomF, if_pos (.inl (by omega))]
      · exact .inr h2
theorem roomF_top : ∀ (f : Fo) (m d : Int), f.roomF m d ≤ max m (-1) := by
  intro f
  induction f with
  | nil => intro m d; simp only [Fo.roomF]; omega
  | cons wd ns bl y n ih1 ih2 =>
    intro m d
    rw [Fo.roomF]
    split
    · omega
    · have h2 := ih2 (y.roomF (m - y.len) (d - 1)) d
      have h3 := ih1 (m - y.len) (d - 1)
      omega

/-! ### fits -/
theorem far1_any (g : Int × Bool) (w : World) : Calls Tryz.prog 62 #[.agg #[.int .i64 g.1, .bool g.2]] w fun e w' => e = .returned (.bool (farB g)) ∧ Below w.heap.size w w' := by
  obtain ⟨n, b⟩ := g
  go_enter Tryz.func62, Tryz.ntmps62
  go_wp2
  all_goals (go_ret; exact ⟨ret_bool (by unfold farB; first | (simp [*]; done) | (simp [*]; omega) | (rw [Bool.eq_iff_iff]; simp; omega)), (Below.refl _ _).alloc (Nat.le_refl _) _⟩)

def farFn : Value := .func (.func 62) #[] #[]
set_option maxRecDepth 100000 in
theorem idxN_any (A : Option Addr) (n c : Nat) (ns : List (Int × Bool)) (w : World) (hr : nmS.Rw w w.heap.size A n ns) (hn : n ≤ 9223372036854775807) :
    Calls Tryz.prog 75 #[.slice A n c, .func (.func 62) #[] #[]] w fun e w' => ∃ r : Int, e = .returned (.int .i64 r) ∧ decide (0 ≤ r) = ns.any farB ∧ Below w.heap.size w w' := by
  have HR := hid hr
  have HLN := hid hr.1
  clear hr
  go_enter Tryz.func75, Tryz.ntmps75
  go_wp2
  go_loopw [8] (fun v8 wr => ∃ k : Nat, v8 = .int .i64 (k : Int) ∧ k ≤ n ∧ (ns.take k).any farB = false ∧ Below w.heap.size w wr) (fun v8 _ => n - (intOf v8).toNat)
  case atStart => exact ⟨0, rfl, Nat.zero_le _, rfl, Below.refl _ _⟩
  case round =>
    obtain ⟨k, rfl, hk, hany, hbel⟩ := hrel
    have BW := hid hbel
    have HA := hid hany
    by_cases hlt : k < n
    · obtain ⟨b, o, rfl, _, hc⟩ := (HR.out.below hbel).at_ hlt
      have hg : ns[k]? = some (nmS.nth ns k) := Sh.nth_get nmS (by rw [HLN.out]; exact hlt)
      have HT : Hid (ns.take (k + 1) = ns.take k ++ [nmS.nth ns k]) := hid (by rw [List.take_add_one, hg]; rfl)
      have HIN : Hid (nmS.nth ns k ∈ ns) := hid (List.mem_of_getElem? hg)
      generalize nmS.nth ns k = x at *
      obtain ⟨x1, x2⟩ := x
      have c0 : wr.cell? ⟨b, o + k * 2, none⟩ = some (.int .i64 x1) := hc 0 _ rfl
      have c1 : wr.cell? ⟨b, o + k * 2 + 1, none⟩ = some (.bool x2) := hc 1 _ rfl
      have HF := hid (far1_any (x1, x2) wr)
      clear hc hbel hany hg
      cases hf : farB (x1, x2) with
      | true =>
        rw [hf] at HF
        have HY := hid (show ns.any farB = true from List.any_eq_true.2 ⟨_, HIN.out, hf⟩)
        clear hf
        go_wp2_with (first
          | (go_at_call 62; refine HF.out.mono ?_; rintro e w2 ⟨rfl, b2⟩; have B2 := hid (BW.out.trans (b2.mono BW.out.size)); clear b2))
        go_ret
        exact ⟨k, rfl, by rw [HY.out]; simp, B2.out⟩
      | false =>
        rw [hf] at HF
        have HY := hid (show (ns.take (k + 1)).any farB = false by rw [HT.out, List.any_append, HA.out]; simp [hf])
        clear hf
        go_wp2_with (first
          | (go_at_call 62; refine HF.out.mono ?_; rintro e w2 ⟨rfl, b2⟩; have B2 := hid (BW.out.trans (b2.mono BW.out.size)); clear b2))
        exact ⟨⟨k + 1, by go_num, by omega, HY.out, B2.out⟩, by simp [intOf]; omega⟩
    · obtain rfl : k = n := by omega
      rw [List.take_of_length_le (by rw [HLN.out]; omega)] at hany
      have HY := hid hany
      clear hany hbel HA
      go_wp2
      go_ret
      exact ⟨-1, rfl, by rw [HY.out]; decide, BW.out⟩
theorem containsN_any (A : Option Addr) (n c : Nat) (ns : List (Int × Bool)) (w : World) (hr : nmS.Rw w w.heap.size A n ns) (hn : n ≤ 9223372036854775807) :
    Calls Tryz.prog 63 #[.slice A n c, .func (.func 62) #[] #[]] w fun e w' => e = .returned (.bool (ns.any farB)) ∧ Below w.heap.size w w' := by
  have HI := hid (idxN_any A n c ns w hr hn)
  clear hr
  go_enter Tryz.func63, Tryz.ntmps63
  go_wp2_with (first
    | (go_at_call 75; refine HI.out.mono ?_; rintro e w1 ⟨r, rfl, hr, b1⟩; have HR := hid (And.intro hr b1); clear hr b1))
  go_ret
  exact ⟨ret_bool HR.out.1, HR.out.2⟩

set_option maxHeartbeats 1000000 in
set_option maxRecDepth 100000 in
theorem fits_any (x : Sm) (ns : List (Int × Bool)) (w : World) (hr : nmS.Rw w w.heap.size x.nA x.nn ns) (hn : x.nn ≤ 1000000) (hw : x.word.length ≤ 1000000) (hb : x.bn ≤ 4611686018427387904) :
    Calls Tryz.prog 49 #[smV x] w fun e w' => e = .returned (.bool (fitB x.word ns x.block x.bn)) ∧ Below w.heap.size w w' := by
  obtain ⟨xw, xA, xn, xc, xb, xB, xm, xk⟩ := x
  simp only at hr hn hw hb
  have HR := hid hr
  have HW := hid (fun w1 => by have := word_any (strB xw) w1 (by show xw.length ≤ _; omega); unfold WordPost at this; exact this)
  have hn8 : (decide (ns.length ≤ 8)) = decide ((xn : Int) ≤ 8) := by rw [hr.1]; rw [Bool.eq_iff_iff]; simp; omega
  have hl : (strB xw).data.toList = xw := rfl
  rw [hl] at HW
  unfold fitB
  simp only
  rw [hn8]
  clear hl hn8 hr
  generalize wordB xw = b1 at *
  cases b1 with
  | false =>
    have HFR := hid (Eq.refl 0)
    go_enter Tryz.func49, Tryz.ntmps49
    go_upto_region 2 with (refine Sh.wp_box smS (x := ⟨xw, xA, xn, xc, xb, xB, xm, xk⟩) rfl (.tmp 0) rfl rfl ?_; intro w1 q1 b1 s1; have c0 : w1.cell? ⟨w.heap.size, 0, none⟩ = some (.string (strB xw)) := q1.cell (j := 0) rfl; have V1 := hid q1; have B1 := hid b1; clear q1 b1 s1)
    go_wp2_with (first
      | (go_at_call 63; have h9 := containsN_any xA xn xc ns w2 (HR.out.below B2.out |>.more B2.out.size) (by omega); (try rw [HFR.out] at h9); (with_reducible refine h9.mono ?_); rintro e w3 ⟨rfl, b3⟩; have c2 : w3.cell? ⟨w.heap.size, 2, none⟩ = some (.bool xb) := (b3.cell (p := ⟨w.heap.size, 2, none⟩) L2.out).trans c2; have c3 : w3.cell? ⟨w.heap.size, 3, none⟩ = some (.slice xB xm xk) := (b3.cell (p := ⟨w.heap.size, 3, none⟩) L2.out).trans c3; have B2 := hid (B2.out.trans (b3.mono B2.out.size)); clear b3)
      | (go_at_call 53; refine (HW.out w1).mono ?_; rintro e w2 ⟨rfl, b2⟩; have V2 := hid (V1.out.keep b2); have c1 : w2.cell? ⟨w.heap.size, 1, none⟩ = some (.slice xA xn xc) := V2.out.cell (j := 1) rfl; have c2 : w2.cell? ⟨w.heap.size, 2, none⟩ = some (.bool xb) := V2.out.cell (j := 2) rfl; have c3 : w2.cell? ⟨w.heap.size, 3, none⟩ = some (.slice xB xm xk) := V2.out.cell (j := 3) rfl; have L2 := hid V2.out.lt; have B2 := hid (B1.out.trans (b2.mono B1.out.size)); clear b2))
    go_ret
    exact ⟨rfl, B2.out⟩
  | true =>
    by_cases h8 : (xn : Int) ≤ 8
    · rw [decide_eq_true h8]
      obtain ⟨fr, hfr⟩ : ∃ fr, ns.any farB = fr := ⟨_, rfl⟩
      rw [hfr]
      have HFR := hid hfr
      clear hfr
      cases fr with
      | true =>
        go_enter Tryz.func49, Tryz.ntmps49
        go_upto_region 2 with (refine Sh.wp_box smS (x := ⟨xw, xA, xn, xc, xb, xB, xm, xk⟩) rfl (.tmp 0) rfl rfl ?_; intro w1 q1 b1 s1; have c0 : w1.cell? ⟨w.heap.size, 0, none⟩ = some (.string (strB xw)) := q1.cell (j := 0) rfl; have V1 := hid q1; have B1 := hid b1; clear q1 b1 s1)
        go_wp2_with (first
          | (go_at_call 63; have h9 := containsN_any xA xn xc ns w2 (HR.out.below B2.out |>.more B2.out.size) (by omega); (try rw [HFR.out] at h9); (with_reducible refine h9.mono ?_); rintro e w3 ⟨rfl, b3⟩; have c2 : w3.cell? ⟨w.heap.size, 2, none⟩ = some (.bool xb) := (b3.cell (p := ⟨w.heap.size, 2, none⟩) L2.out).trans c2; have c3 : w3.cell? ⟨w.heap.size, 3, none⟩ = some (.slice xB xm xk) := (b3.cell (p := ⟨w.heap.size, 3, none⟩) L2.out).trans c3; have B2 := hid (B2.out.trans (b3.mono B2.out.size)); clear b3)
          | (go_at_call 53; refine (HW.out w1).mono ?_; rintro e w2 ⟨rfl, b2⟩; have V2 := hid (V1.out.keep b2); have c1 : w2.cell? ⟨w.heap.size, 1, none⟩ = some (.slice xA xn xc) := V2.out.cell (j := 1) rfl; have c2 : w2.cell? ⟨w.heap.size, 2, none⟩ = some (.bool xb) := V2.out.cell (j := 2) rfl; have c3 : w2.cell? ⟨w.heap.size, 3, none⟩ = some (.slice xB xm xk) := V2.out.cell (j := 3) rfl; have L2 := hid V2.out.lt; have B2 := hid (B1.out.trans (b2.mono B1.out.size)); clear b2))
        go_ret
        exact ⟨rfl, B2.out⟩
      | false =>
        cases xb with
        | true =>
          go_enter Tryz.func49, Tryz.ntmps49
          go_upto_region 2 with (refine Sh.wp_box smS (x := ⟨xw, xA, xn, xc, true, xB, xm, xk⟩) rfl (.tmp 0) rfl rfl ?_; intro w1 q1 b1 s1; have c0 : w1.cell? ⟨w.heap.size, 0, none⟩ = some (.string (strB xw)) := q1.cell (j := 0) rfl; have V1 := hid q1; have B1 := hid b1; clear q1 b1 s1)
          go_wp2_with (first
            | (go_at_call 63; have h9 := containsN_any xA xn xc ns w2 (HR.out.below B2.out |>.more B2.out.size) (by omega); (try rw [HFR.out] at h9); (with_reducible refine h9.mono ?_); rintro e w3 ⟨rfl, b3⟩; have c2 : w3.cell? ⟨w.heap.size, 2, none⟩ = some (.bool true) := (b3.cell (p := ⟨w.heap.size, 2, none⟩) L2.out).trans c2; have c3 : w3.cell? ⟨w.heap.size, 3, none⟩ = some (.slice xB xm xk) := (b3.cell (p := ⟨w.heap.size, 3, none⟩) L2.out).trans c3; have B2 := hid (B2.out.trans (b3.mono B2.out.size)); clear b3)
            | (go_at_call 53; refine (HW.out w1).mono ?_; rintro e w2 ⟨rfl, b2⟩; have V2 := hid (V1.out.keep b2); have c1 : w2.cell? ⟨w.heap.size, 1, none⟩ = some (.slice xA xn xc) := V2.out.cell (j := 1) rfl; have c2 : w2.cell? ⟨w.heap.size, 2, none⟩ = some (.bool true) := V2.out.cell (j := 2) rfl; have c3 : w2.cell? ⟨w.heap.size, 3, none⟩ = some (.slice xB xm xk) := V2.out.cell (j := 3) rfl; have L2 := hid V2.out.lt; have B2 := hid (B1.out.trans (b2.mono B1.out.size)); clear b2))
          go_ret
          exact ⟨rfl, B2.out⟩
        | false =>
          by_cases hm : xm = 0
          · subst hm
            go_enter Tryz.func49, Tryz.ntmps49
            go_upto_region 2 with (refine Sh.wp_box smS (x := ⟨xw, xA, xn, xc, false, xB, 0, xk⟩) rfl (.tmp 0) rfl rfl ?_; intro w1 q1 b1 s1; have c0 : w1.cell? ⟨w.heap.size, 0, none⟩ = some (.string (strB xw)) := q1.cell (j := 0) rfl; have V1 := hid q1; have B1 := hid b1; clear q1 b1 s1)
            go_wp2_with (first
              | (go_at_call 63; have h9 := containsN_any xA xn xc ns w2 (HR.out.below B2.out |>.more B2.out.size) (by omega); (try rw [HFR.out] at h9); (with_reducible refine h9.mono ?_); rintro e w3 ⟨rfl, b3⟩; have c2 : w3.cell? ⟨w.heap.size, 2, none⟩ = some (.bool false) := (b3.cell (p := ⟨w.heap.size, 2, none⟩) L2.out).trans c2; have c3 : w3.cell? ⟨w.heap.size, 3, none⟩ = some (.slice xB 0 xk) := (b3.cell (p := ⟨w.heap.size, 3, none⟩) L2.out).trans c3; have B2 := hid (B2.out.trans (b3.mono B2.out.size)); clear b3)
              | (go_at_call 53; refine (HW.out w1).mono ?_; rintro e w2 ⟨rfl, b2⟩; have V2 := hid (V1.out.keep b2); have c1 : w2.cell? ⟨w.heap.size, 1, none⟩ = some (.slice xA xn xc) := V2.out.cell (j := 1) rfl; have c2 : w2.cell? ⟨w.heap.size, 2, none⟩ = some (.bool false) := V2.out.cell (j := 2) rfl; have c3 : w2.cell? ⟨w.heap.size, 3, none⟩ = some (.slice xB 0 xk) := V2.out.cell (j := 3) rfl; have L2 := hid V2.out.lt; have B2 := hid (B1.out.trans (b2.mono B1.out.size)); clear b2))
            go_ret
            exact ⟨rfl, B2.out⟩
          · rw [decide_eq_false hm]
            have hm2 : ((xm : Int) == 0) = false := beq_eq_false_iff_ne.2 (by omega)
            go_enter Tryz.func49, Tryz.ntmps49
            go_upto_region 2 with (refine Sh.wp_box smS (x := ⟨xw, xA, xn, xc, false, xB, xm, xk⟩) rfl (.tmp 0) rfl rfl ?_; intro w1 q1 b1 s1; have c0 : w1.cell? ⟨w.heap.size, 0, none⟩ = some (.string (strB xw)) := q1.cell (j := 0) rfl; have V1 := hid q1; have B1 := hid b1; clear q1 b1 s1)
            go_wp2_with (first
              | (go_at_call 63; have h9 := containsN_any xA xn xc ns w2 (HR.out.below B2.out |>.more B2.out.size) (by omega); (try rw [HFR.out] at h9); (with_reducible refine h9.mono ?_); rintro e w3 ⟨rfl, b3⟩; have c2 : w3.cell? ⟨w.heap.size, 2, none⟩ = some (.bool false) := (b3.cell (p := ⟨w.heap.size, 2, none⟩) L2.out).trans c2; have c3 : w3.cell? ⟨w.heap.size, 3, none⟩ = some (.slice xB xm xk) := (b3.cell (p := ⟨w.heap.size, 3, none⟩) L2.out).trans c3; have B2 := hid (B2.out.trans (b3.mono B2.out.size)); clear b3)
              | (go_at_call 53; refine (HW.out w1).mono ?_; rintro e w2 ⟨rfl, b2⟩; have V2 := hid (V1.out.keep b2); have c1 : w2.cell? ⟨w.heap.size, 1, none⟩ = some (.slice xA xn xc) := V2.out.cell (j := 1) rfl; have c2 : w2.cell? ⟨w.heap.size, 2, none⟩ = some (.bool false) := V2.out.cell (j := 2) rfl; have c3 : w2.cell? ⟨w.heap.size, 3, none⟩ = some (.slice xB xm xk) := V2.out.cell (j := 3) rfl; have L2 := hid V2.out.lt; have B2 := hid (B1.out.trans (b2.mono B1.out.size)); clear b2))
            go_ret
            exact ⟨rfl, B2.out⟩
    · rw [decide_eq_false h8]
      have HFR := hid (Eq.refl 0)
      go_enter Tryz.func49, Tryz.ntmps49
      go_upto_region 2 with (refine Sh.wp_box smS (x := ⟨xw, xA, xn, xc, xb, xB, xm, xk⟩) rfl (.tmp 0) rfl rfl ?_; intro w1 q1 b1 s1; have c0 : w1.cell? ⟨w.heap.size, 0, none⟩ = some (.string (strB xw)) := q1.cell (j := 0) rfl; have V1 := hid q1; have B1 := hid b1; clear q1 b1 s1)
      go_wp2_with (first
        | (go_at_call 63; have h9 := containsN_any xA xn xc ns w2 (HR.out.below B2.out |>.more B2.out.size) (by omega); (try rw [HFR.out] at h9); (with_reducible refine h9.mono ?_); rintro e w3 ⟨rfl, b3⟩; have c2 : w3.cell? ⟨w.heap.size, 2, none⟩ = some (.bool xb) := (b3.cell (p := ⟨w.heap.size, 2, none⟩) L2.out).trans c2; have c3 : w3.cell? ⟨w.heap.size, 3, none⟩ = some (.slice xB xm xk) := (b3.cell (p := ⟨w.heap.size, 3, none⟩) L2.out).trans c3; have B2 := hid (B2.out.trans (b3.mono B2.out.size)); clear b3)
        | (go_at_call 53; refine (HW.out w1).mono ?_; rintro e w2 ⟨rfl, b2⟩; have V2 := hid (V1.out.keep b2); have c1 : w2.cell? ⟨w.heap.size, 1, none⟩ = some (.slice xA xn xc) := V2.out.cell (j := 1) rfl; have c2 : w2.cell? ⟨w.heap.size, 2, none⟩ = some (.bool xb) := V2.out.cell (j := 2) rfl; have c3 : w2.cell? ⟨w.heap.size, 3, none⟩ = some (.slice xB xm xk) := V2.out.cell (j := 3) rfl; have L2 := hid V2.out.lt; have B2 := hid (B1.out.trans (b2.mono B1.out.size)); clear b2))
      go_ret
      exact ⟨rfl, B2.out⟩
end Go.Proofs.YtinjhnflnfpoeaaGreatDoor
