/-
  heap.Find, heap.Take: what they answer at slices that read as lists. What is asked: a length that fits; for Take at most 4096 things.
-/
import Derived.Test.YtpfidohneddgkaaI
namespace Go.Proofs.Ytpfidohneddgkaa
open Go Go.RowKit

def sq (x : It) : Int := x.2.2.1
/-- The first place at which a number stands. -/
def First (xs : List It) (s : Int) (k : Nat) : Prop := k < xs.length ∧ sq (nth xs k) = s ∧ ∀ j, j < k → sq (nth xs j) ≠ s
def NoSq (xs : List It) (s : Int) : Prop := ∀ j, j < xs.length → sq (nth xs j) ≠ s
theorem first_or (xs : List It) (s : Int) : (∃ k, First xs s k) ∨ NoSq xs s := by
  have : ∀ n, n ≤ xs.length → (∃ k, First xs s k) ∨ ∀ j, j < n → sq (nth xs j) ≠ s := by
    intro n
    induction n with
    | zero => exact fun _ => .inr fun j hj => absurd hj (by omega)
    | succ n ih =>
      intro hn
      rcases ih (by omega) with h | h
      · exact .inl h
      · by_cases e : sq (nth xs n) = s
        · exact .inl ⟨n, by omega, e, h⟩
        · refine .inr fun j hj => ?_
          by_cases q : j = n
          · subst q; exact e
          · exact h j (by omega)
  exact this xs.length (Nat.le_refl _)
set_option maxHeartbeats 400000 in
theorem seqIs (x : It) (s : Int) (g : Nat) (w : World) (hc : w.cell? ⟨g, 0, none⟩ = some (.int .u64 s)) : Calls Try.prog 60 #[itv x, .pointer (some ⟨g, 0, none⟩)] w fun e w' => e = .returned (.bool (sq x == s)) ∧ Below w.heap.size w w' := by
  obtain ⟨x1, x2, x3, x4, x5, x6⟩ := x
  show Calls Try.prog 60 #[.agg #[.int .i64 x1, .int .i64 x2, .int .u64 x3, .int .i64 x4, .int .i64 x5, .int .u64 x6], .pointer (some ⟨g, 0, none⟩)] w _
  have hg := block_lt_of_cell hc
  go_enter Try.func60, Try.ntmps60
  go_wp2
  go_ret
  exact ⟨ret_bool rfl, (Below.refl _ _).alloc (Nat.le_refl _) _⟩
set_option maxHeartbeats 400000 in
theorem idx_yes (A : Option Addr) (n c B g k : Nat) (xs : List It) (s : Int) (w : World) (ha : Row w B A n xs) (hB : B ≤ w.heap.size) (hn : n ≤ 1000000000) (hc : w.cell? ⟨g, 0, none⟩ = some (.int .u64 s)) (hk : First xs s k) :
    Calls Try.prog 59 #[.slice A n c, .func (.func 60) #[] #[.pointer (some ⟨g, 0, none⟩)]] w fun e w' => e = .returned (.int .i64 (k : Int)) ∧ Below w.heap.size w w' := by
  have HA := hid ha
  have hkn : k < n := by rw [← ha.1]; exact hk.1
  have HK := hid hk
  have hg := block_lt_of_cell hc
  have HC := hid hc
  clear ha hk hc
  go_enter Try.func59, Try.ntmps59
  go_wp2
  go_loopw [8] (fun t wr => ∃ i : Nat, t = .int .i64 (i : Int) ∧ i ≤ k ∧ Below w.heap.size w wr) (fun t _ => n - (intOf t).toNat)
  case atStart => exact ⟨0, rfl, by omega, Below.refl _ _⟩
  case round =>
    obtain ⟨i, rfl, hi, bel⟩ := hrel
    have BW := hid bel
    have HR : Hid (Row wr B A n xs) := hid (HA.out.below (bel.mono hB))
    obtain ⟨b, o, rfl, hb, hcc⟩ := HR.out.all (by omega)
    have R1 := hid (hcc i (by omega))
    have i1 : i < n := by omega
    have i2 : (i : Int) < (n : Int) := by omega
    have C1 : Hid (wr.cell? ⟨g, 0, none⟩ = some (.int .u64 s)) := hid ((bel.cell (p := ⟨g, 0, none⟩) hg).trans HC.out)
    have HS : Hid (i < k → (sq (nth xs i) == s) = false) := hid fun h => by simpa using HK.out.2.2 i h
    have HE : Hid (i = k → (sq (nth xs i) == s) = true) := hid fun h => by subst h; simpa using HK.out.2.1
    clear bel hcc
    have TT := hid (seqIs (nth xs i) s g wr C1.out)
    generalize nth xs i = x at *
    by_cases hik : i < k
    · have HS' := HS.out hik
      rw [HS'] at TT
      clear HS HE HS'
      go_wp2_with (first
        | (refine wpList_ld rfl (.tmp 14) rfl rfl R1.out ?_)
        | (go_at_call 60; refine TT.out.mono ?_; rintro e w1 ⟨rfl, bel1⟩))
      go_roundw
      case rel => exact ⟨i + 1, by go_num, by omega, BW.out.trans (bel1.mono BW.out.size)⟩
      case measure => simp [intOf]; omega
    · have HE' := HE.out (by omega)
      obtain rfl : i = k := by omega
      rw [HE'] at TT
      clear HS HE HE'
      go_wp2_with (first
        | (refine wpList_ld rfl (.tmp 14) rfl rfl R1.out ?_)
        | (go_at_call 60; refine TT.out.mono ?_; rintro e w1 ⟨rfl, bel1⟩))
      go_ret
      exact ⟨rfl, BW.out.trans (bel1.mono BW.out.size)⟩
set_option maxHeartbeats 400000 in
theorem idx_no (A : Option Addr) (n c B g : Nat) (xs : List It) (s : Int) (w : World) (ha : Row w B A n xs) (hB : B ≤ w.heap.size) (hn : n ≤ 1000000000) (hc : w.cell? ⟨g, 0, none⟩ = some (.int .u64 s)) (hk : NoSq xs s) :
    Calls Try.prog 59 #[.slice A n c, .func (.func 60) #[] #[.pointer (some ⟨g, 0, none⟩)]] w fun e w' => e = .returned (.int .i64 (-1)) ∧ Below w.heap.size w w' := by
  have HA := hid ha
  have HL := hid ha.1
  have HK := hid hk
  have hg := block_lt_of_cell hc
  have HC := hid hc
  clear ha hk hc
  go_enter Try.func59, Try.ntmps59
  go_wp2
  go_loopw [8] (fun t wr => ∃ i : Nat, t = .int .i64 (i : Int) ∧ i ≤ n ∧ Below w.heap.size w wr) (fun t _ => n - (intOf t).toNat)
  case atStart => exact ⟨0, rfl, by omega, Below.refl _ _⟩
  case round =>
    obtain ⟨i, rfl, hi, bel⟩ := hrel
    have BW := hid bel
    clear bel
    by_cases i1 : i < n
    · have HR : Hid (Row wr B A n xs) := hid (HA.out.below (BW.out.mono hB))
      obtain ⟨b, o, rfl, hb, hcc⟩ := HR.out.all (by omega)
      have R1 := hid (hcc i (by omega))
      have i2 : (i : Int) < (n : Int) := by omega
      have C1 : Hid (wr.cell? ⟨g, 0, none⟩ = some (.int .u64 s)) := hid ((BW.out.cell (p := ⟨g, 0, none⟩) hg).trans HC.out)
      have HS' : (sq (nth xs i) == s) = false := by simpa using HK.out i (by rw [HL.out]; exact i1)
      clear hcc
      have TT := hid (seqIs (nth xs i) s g wr C1.out)
      rw [HS'] at TT
      clear HS'
      generalize nth xs i = x at *
      go_wp2_with (first
        | (refine wpList_ld rfl (.tmp 14) rfl rfl R1.out ?_)
        | (go_at_call 60; refine TT.out.mono ?_; rintro e w1 ⟨rfl, bel1⟩))
      go_roundw
      case rel => exact ⟨i + 1, by go_num, by omega, BW.out.trans (bel1.mono BW.out.size)⟩
      case measure => simp [intOf]; omega
    · go_wp2
      go_ret
      exact ⟨rfl, BW.out⟩
theorem find_yes (A : Option Addr) (n c B k : Nat) (xs : List It) (s : Int) (w : World) (ha : Row w B A n xs) (hB : B ≤ w.heap.size) (hn : n ≤ 1000000000) (hk : First xs s k) :
    Calls Try.prog 50 #[.slice A n c, .int .u64 s] w fun e w' => e = .returned (.tuple #[.int .i64 (k : Int), .bool true]) ∧ Below w.heap.size w w' := by
  have HA := hid ha
  have HK := hid hk
  clear ha hk
  go_enter Try.func50, Try.ntmps50
  go_wp2_with fail
  refine (idx_yes A n c B w.heap.size k xs s _ (HA.out.alloc hB _) (by simp; omega) hn (by simp) HK.out).mono ?_
  rintro e w1 ⟨rfl, bel1⟩
  go_wp2
  go_ret2
  exact ⟨rfl, ((Below.refl _ _).alloc (Nat.le_refl _) _).trans (bel1.mono (by simp))⟩
theorem find_no (A : Option Addr) (n c B : Nat) (xs : List It) (s : Int) (w : World) (ha : Row w B A n xs) (hB : B ≤ w.heap.size) (hn : n ≤ 1000000000) (hk : NoSq xs s) :
    Calls Try.prog 50 #[.slice A n c, .int .u64 s] w fun e w' => e = .returned (.tuple #[.int .i64 0, .bool false]) ∧ Below w.heap.size w w' := by
  have HA := hid ha
  have HK := hid hk
  clear ha hk
  go_enter Try.func50, Try.ntmps50
  go_wp2_with fail
  refine (idx_no A n c B w.heap.size xs s _ (HA.out.alloc hB _) (by simp; omega) hn (by simp) HK.out).mono ?_
  rintro e w1 ⟨rfl, bel1⟩
  go_wp2
  go_ret2
  exact ⟨rfl, ((Below.refl _ _).alloc (Nat.le_refl _) _).trans (bel1.mono (by simp))⟩
/-- The one of a number that comes first. -/
def Least (xs : List It) (s : Int) (x : It) : Prop := x ∈ xs ∧ sq x = s ∧ ∀ y, y ∈ xs → sq y = s → lt y x = false
theorem Least.uniq {xs : List It} {s : Int} {x y : It} (h : Least xs s x) (k : Least xs s y) : x = y := lt_tri (k.2.2 x h.1 h.2.1) (h.2.2 y k.1 k.2.1)
def Best (xs : List It) (s : Int) (i a : Nat) : Prop := a < i ∧ sq (nth xs a) = s ∧ ∀ j, j < i → sq (nth xs j) = s → lt (nth xs j) (nth xs a) = false
theorem Best.start {xs : List It} {s : Int} {k : Nat} (h : First xs s k) : Best xs s (k + 1) k := ⟨by omega, h.2.1, fun j hj hs => by
  by_cases q : j = k
  · subst q; exact lt_irr _
  · exact absurd hs (h.2.2 j (by omega))⟩
theorem Best.not {xs : List It} {s : Int} {i a : Nat} (h : Best xs s i a) (hs : sq (nth xs i) ≠ s) : Best xs s (i + 1) a := ⟨by have := h.1; omega, h.2.1, fun j hj hq => by
  by_cases q : j = i
  · subst q; exact absurd hq hs
  · exact h.2.2 j (by omega) hq⟩
theorem Best.stay {xs : List It} {s : Int} {i a : Nat} (h : Best xs s i a) (hl : lt (nth xs i) (nth xs a) = false) : Best xs s (i + 1) a := ⟨by have := h.1; omega, h.2.1, fun j hj hq => by
  by_cases q : j = i
  · subst q; exact hl
  · exact h.2.2 j (by omega) hq⟩
theorem Best.move {xs : List It} {s : Int} {i a : Nat} (h : Best xs s i a) (hs : sq (nth xs i) = s) (hl : lt (nth xs i) (nth xs a) = true) : Best xs s (i + 1) i := ⟨by omega, hs, fun j hj hq => by
  by_cases q : j = i
  · subst q; exact lt_irr _
  · exact le_trans (lt_asym hl) (h.2.2 j (by omega) hq)⟩
theorem Best.least {xs : List It} {s : Int} {n a : Nat} (h : Best xs s n a) (hn : xs.length = n) : Least xs s (nth xs a) := by
  refine ⟨nth_mem (by rw [hn]; exact h.1), h.2.1, fun y hy hs => ?_⟩
  obtain ⟨j, hj, rfl⟩ := mem_nth hy
  exact h.2.2 j (by omega) hs
def TakeRel (w : World) (xs : List It) (s : Int) (n : Nat) (t9 t7 : Value) (wr : World) : Prop :=
  ∃ i a : Nat, t9 = .int .i64 (i : Int) ∧ t7 = .int .i64 (a : Int) ∧ i ≤ n ∧ Best xs s i a ∧ Below w.heap.size w wr
theorem six_at {w : World} {b o : Nat} {x : It} (h : w.rangeAt b o (enc x)) : w.cell? ⟨b, o + 2, none⟩ = some (.int .u64 (sq x)) := h 2 _ rfl
set_option maxHeartbeats 2000000 in
theorem take_ok (A : Option Addr) (k c B : Nat) (xs : List It) (s : Int) (x0 : It) (w : World) (ha : Row w B A (k + 1) xs) (hB : B ≤ w.heap.size) (hn : k < 4096) (hh : Hp xs) (hx0 : Least xs s x0) :
    Calls Try.prog 38 #[.slice A (k + 1 : Nat) c, .int .u64 s] w (RetP w.heap.size k x0 (fun l => Hp l ∧ xs.Perm (x0 :: l)) w) := by
  have W0 := hid (fun (a : Nat) (hak : a ≤ k) w' hb hB' => without_any A k c B a xs w' (ha.below (w' := w') hb) hB' hn hh hak)
  obtain ⟨n, hnk⟩ : ∃ n, n = k + 1 := ⟨_, rfl⟩
  rw [← hnk] at ha W0 ⊢
  obtain ⟨f, hf⟩ : ∃ f, First xs s f := by
    rcases first_or xs s with h | h
    · exact h
    · obtain ⟨j, hj, rfl⟩ := mem_nth hx0.1
      exact absurd hx0.2.1 (h j hj)
  have HX0 := hid hx0
  have HF := hid hf
  have hfn : f < n := by rw [← ha.1]; exact hf.1
  have HA := hid ha
  have HL := hid ha.1
  have hc0 := (chk_iff xs).2 hh
  have HC := hid hc0
  have HNK := hid hnk
  have T0 := hid (there_new w zr)
  have B0 : Hid (Below w.heap.size w (w.alloc (.cells (enc zr).toArray 36))) := hid ((Below.refl _ _).alloc (Nat.le_refl _) _)
  have S0 : Hid (w.heap.size < (w.alloc (.cells (enc zr).toArray 36)).heap.size) := hid (by simp)
  obtain ⟨b, o, rfl, hb, hc⟩ := ha.all (by omega)
  have RL := hid hc
  have hn4 : n ≤ 4096 := by omega
  clear ha hh hnk hc hc0 hx0 hf
  go_enter Try.func38, Try.ntmps38
  go_wp2_with fail
  change Calls Try.prog 43 _ (w.alloc (.cells (enc zr).toArray 36)) _
  generalize w.alloc (.cells (enc zr).toArray 36) = W at *
  refine (check_any _ n c B xs W (HA.out.below (B0.out.mono hB)) (Nat.le_trans hB B0.out.size) hn4).mono ?_
  rintro e w1 ⟨rfl, bel1⟩
  rw [HC.out]
  have B1 : Hid (Below w.heap.size w w1) := hid (B0.out.trans (bel1.mono B0.out.size))
  have S1 : Hid (w.heap.size < w1.heap.size) := hid (Nat.lt_of_lt_of_le S0.out bel1.size)
  have T1 : Hid (w1.there w.heap.size 0 6) := hid (there_keep T0.out S0.out bel1)
  clear bel1 B0 S0 T0
  go_wp2_with fail
  refine (find_yes _ n c B f xs s w1 (HA.out.below (B1.out.mono hB)) (Nat.le_trans hB B1.out.size) (by omega) HF.out).mono ?_
  rintro e w2 ⟨rfl, bel2⟩
  have B2 : Hid (Below w.heap.size w w2) := hid (B1.out.trans (bel2.mono B1.out.size))
  have S2 : Hid (w.heap.size < w2.heap.size) := hid (Nat.lt_of_lt_of_le S1.out bel2.size)
  have T2 : Hid (w2.there w.heap.size 0 6) := hid (there_keep T1.out S1.out bel2)
  clear bel2 B1 S1 T1
  go_wp2
  go_loopw [9, 7] (TakeRel w2 xs s n) (fun t _ _ => n - (intOf t).toNat)
  case atStart => exact ⟨f + 1, f, by go_num, rfl, by omega, Best.start HF.out, Below.refl _ _⟩
  case round =>
    obtain ⟨i, a, rfl, rfl, hi, hbest, bel⟩ := hrel
    have HBS := hid hbest
    have ha1 : a < i := hbest.1
    have BW := hid bel
    clear hbest bel
    have BWW : Hid (Below w.heap.size w wr) := hid (B2.out.trans (BW.out.mono B2.out.size))
    by_cases hin : i < n
    · have r1 : Hid (wr.rangeAt b (o + i * 6) (enc (nth xs i))) := hid (range_keep (RL.out i hin) (Nat.lt_of_lt_of_le hb hB) BWW.out)
      have r2 : Hid (wr.rangeAt b (o + a * 6) (enc (nth xs a))) := hid (range_keep (RL.out a (by omega)) (Nat.lt_of_lt_of_le hb hB) BWW.out)
      have i1 : (i : Int) < (n : Int) := by omega
      have i2 : (a : Int) < (n : Int) := by omega
      have i3 : a < n := by omega
      by_cases hq : sq (nth xs i) = s
      · have T1 := hid (fun d os => less_q (nth xs i) (nth xs a) wr d os)
        have cc : ∀ d os, (Sort.grow (redrawn wr d) os).cell? ⟨b, o + i * 6 + 2, none⟩ = some (.int .u64 s) := fun d os => by
          rw [← hq]; exact cell_regrown (six_at r1.out) d os
        have HY : Hid (lt (nth xs i) (nth xs a) = true → Best xs s (i + 1) i) := hid (HBS.out.move hq)
        have HN : Hid (lt (nth xs i) (nth xs a) = false → Best xs s (i + 1) a) := hid HBS.out.stay
        clear HBS hq
        generalize lt (nth xs i) (nth xs a) = R at *
        generalize nth xs i = x at *
        generalize nth xs a = y at *
        go_wp2_with fail
        refine wp_region_quiet_below (by kernel_rfl) (by kernel_rfl) ?_
        repeat (first | refine wpQuiet_ld rfl rfl rfl r1.out ?_ | refine wpQuiet_ld rfl rfl rfl r2.out ?_ | quiet_step (with_reducible exact T1.out _ _))
        refine wpQuiet_nil ?_
        intro _ hw'
        obtain ⟨⟨dq, osq⟩, hw''⟩ := hw'
        subst hw''
        have HW : Hid (Below wr.heap.size wr (Sort.grow (redrawn wr dq) osq)) := hid (below_regrown wr dq osq)
        generalize Sort.grow (redrawn wr dq) osq = w3 at *
        clear r1 r2 T1 cc
        have HB2 : Hid (Below w2.heap.size w2 w3) := hid (BW.out.trans (HW.out.mono BW.out.size))
        cases R
        · have HN' := hid (HN.out rfl)
          clear HN HY
          go_wp2
          go_roundw
          case rel => exact ⟨i + 1, a, by go_num, rfl, by omega, HN'.out, HB2.out⟩
          case measure => simp [intOf]; omega
        · have HY' := hid (HY.out rfl)
          clear HN HY
          go_wp2
          go_roundw
          case rel => exact ⟨i + 1, i, by go_num, rfl, by omega, HY'.out, HB2.out⟩
          case measure => simp [intOf]; omega
      · have HN : Hid (Best xs s (i + 1) a) := hid (HBS.out.not hq)
        have cc := six_at r1.out
        have tq : (sq (nth xs i) == s) = false := by simpa using hq
        clear hq HBS r1 r2
        generalize sq (nth xs i) = z at *
        go_wp2_with fail
        go_region
        have HB2 : Hid (Below w2.heap.size w2 wr.drew) := hid BW.out.drew
        go_wp2
        go_roundw
        case rel => exact ⟨i + 1, a, by go_num, rfl, by omega, HN.out, HB2.out⟩
        case measure => simp [intOf]; omega
    · obtain rfl : i = n := by omega
      obtain rfl : nth xs a = x0 := (HBS.out.least HL.out).uniq HX0.out
      have hak : a ≤ k := by have := HNK.out; omega
      have WA := hid (W0.out a hak)
      have R1 : Hid (wr.rangeAt b (o + a * 6) (enc (nth xs a))) := hid (range_keep (RL.out a ha1) (Nat.lt_of_lt_of_le hb hB) BWW.out)
      have i2 : (a : Int) < (i : Int) := by omega
      have T3 : Hid (wr.there w.heap.size 0 6) := hid (there_keep T2.out S2.out BW.out)
      have S3 : Hid (w.heap.size < wr.heap.size) := hid (Nat.lt_of_lt_of_le S2.out BW.out.size)
      clear W0 HBS
      obtain ⟨⟨y1, y2, y3, y4, y5, y6⟩, hy⟩ : ∃ y : It, nth xs a = y := ⟨_, rfl⟩
      have HY := hid hy
      rw [hy] at R1 WA
      clear hy
      obtain ⟨r0, r1, r2, r3, r4, r5⟩ := six_of R1.out
      have hbs : Hid (b < wr.drew.heap.size) := hid (Nat.lt_of_lt_of_le hb (Nat.le_trans hB BWW.out.size))
      have R2 : Hid (wr.drew.rangeAt b (o + a * 6) (enc (y1, y2, y3, y4, y5, y6))) := R1
      have T4 : Hid (wr.drew.there w.heap.size 0 6) := T3
      have S4 : Hid (w.heap.size < wr.drew.heap.size) := S3
      go_wp2_with fail
      go_region_with (first | (go_at_call 52; refine (WA.out wr.drew (BWW.out.drew.mono hB) (Nat.le_trans hB BWW.out.size)).mono ?_; rintro e w3 ⟨A3, c3, l3, rfl, hp3, own3, bel3⟩; obtain ⟨⟨v0, hu0⟩, ⟨v1, hu1⟩, ⟨v2, hu2⟩, ⟨v3, hu3⟩, ⟨v4, hu4⟩, ⟨v5, hu5⟩⟩ := six_there (there_keep T4.out S4.out bel3); obtain ⟨f0, f1, f2, f3, f4, f5⟩ := six_frozen (there_keep T4.out S4.out bel3); obtain ⟨q0, q1, q2, q3, q4, q5⟩ := six_of (range_keep R2.out hbs.out bel3)))
      all_goals
        go_wp2_with fail
        obtain ⟨r9, bel9, oth9⟩ := stored_var (there_keep T4.out S4.out bel3) (y1, y2, y3, y4, y5, y6)
        refine bodyPost_ret (w := w3.setCells w.heap.size 0 (enc (y1, y2, y3, y4, y5, y6))) (results_c3 Try.results38 _ _ w.heap.size (y1, y2, y3, y4, y5, y6) rfl r9) rfl ?_
        have own9 : Own (w3.setCells w.heap.size 0 (enc (y1, y2, y3, y4, y5, y6))) wr.drew.heap.size A3 k c3 l3 := own3.other (fun g hg => oth9 g (by have := S4.out; omega))
        exact ⟨A3, c3, l3, by rw [HY.out]; rfl, by rw [HY.out]; exact hp3, own9.base_le BWW.out.size, BWW.out.drew.trans ((bel3.mono BWW.out.size).trans bel9)⟩
set_option maxHeartbeats 1000000 in
theorem take_none (A : Option Addr) (n c B : Nat) (xs : List It) (s : Int) (w : World) (ha : Row w B A n xs) (hB : B ≤ w.heap.size) (hn : n ≤ 4096) (hh : chk xs = true) (hs : NoSq xs s) :
    Calls Try.prog 38 #[.slice A n c, .int .u64 s] w fun e w' => e = .returned (.tuple #[itv zr, .slice none 0 0, .int .i64 8]) ∧ Below w.heap.size w w' := by
  have HA := hid ha
  have HC := hid hh
  have HS := hid hs
  clear ha hh hs
  have T0 := hid (there_new w zr)
  have B0 : Hid (Below w.heap.size w (w.alloc (.cells (enc zr).toArray 36))) := hid ((Below.refl _ _).alloc (Nat.le_refl _) _)
  have S0 : Hid (w.heap.size < (w.alloc (.cells (enc zr).toArray 36)).heap.size) := hid (by simp)
  go_enter Try.func38, Try.ntmps38
  go_wp2_with fail
  change Calls Try.prog 43 _ (w.alloc (.cells (enc zr).toArray 36)) _
  generalize w.alloc (.cells (enc zr).toArray 36) = W at *
  refine (check_any A n c B xs W (HA.out.below (B0.out.mono hB)) (Nat.le_trans hB B0.out.size) hn).mono ?_
  rintro e w1 ⟨rfl, bel1⟩
  rw [HC.out]
  have B1 : Hid (Below w.heap.size w w1) := hid (B0.out.trans (bel1.mono B0.out.size))
  have S1 : Hid (w.heap.size < w1.heap.size) := hid (Nat.lt_of_lt_of_le S0.out bel1.size)
  have T1 : Hid (w1.there w.heap.size 0 6) := hid (there_keep T0.out S0.out bel1)
  clear bel1 B0 S0 T0
  go_wp2_with fail
  refine (find_no _ n c B xs s w1 (HA.out.below (B1.out.mono hB)) (Nat.le_trans hB B1.out.size) (by omega) HS.out).mono ?_
  rintro e w2 ⟨rfl, bel2⟩
  have B2 : Hid (Below w.heap.size w w2) := hid (B1.out.trans (bel2.mono B1.out.size))
  have T2 : Hid (w2.there w.heap.size 0 6) := hid (there_keep T1.out S1.out bel2)
  clear bel2 B1 S1 T1
  go_wp2_with (refine wpList_sv (v := zr) rfl (.tmp 4) (.tmp 22) rfl rfl rfl T2.out ?_; intro w4 r4 bel4 _)
  exact bodyPost_ret (results_c3 Try.results38 _ w4 w.heap.size zr rfl r4) rfl ⟨rfl, B2.out.trans bel4⟩
set_option maxHeartbeats 1000000 in
theorem take_no (A : Option Addr) (n c B : Nat) (xs : List It) (s : Int) (w : World) (ha : Row w B A n xs) (hB : B ≤ w.heap.size) (hn2 : n ≤ 9223372036854775807) (hh : 4096 < n ∨ chk xs = false) :
    Calls Try.prog 38 #[.slice A n c, .int .u64 s] w fun e w' => e = .returned (.tuple #[itv zr, .slice none 0 0, .int .i64 1]) ∧ Below w.heap.size w w' := by
  have HA := hid ha
  have HC := hid hh
  clear ha hh
  have T0 := hid (there_new w zr)
  have B0 : Hid (Below w.heap.size w (w.alloc (.cells (enc zr).toArray 36))) := hid ((Below.refl _ _).alloc (Nat.le_refl _) _)
  have S0 : Hid (w.heap.size < (w.alloc (.cells (enc zr).toArray 36)).heap.size) := hid (by simp)
  go_enter Try.func38, Try.ntmps38
  go_wp2_with fail
  change Calls Try.prog 43 _ (w.alloc (.cells (enc zr).toArray 36)) _
  generalize w.alloc (.cells (enc zr).toArray 36) = W at *
  refine (check_no A n c B xs W (HA.out.below (B0.out.mono hB)) (Nat.le_trans hB B0.out.size) hn2 HC.out).mono ?_
  rintro e w1 ⟨rfl, bel1⟩
  have B1 : Hid (Below w.heap.size w w1) := hid (B0.out.trans (bel1.mono B0.out.size))
  have T1 : Hid (w1.there w.heap.size 0 6) := hid (there_keep T0.out S0.out bel1)
  clear bel1 B0 S0 T0
  go_wp2_with (refine wpList_sv (v := zr) rfl (.tmp 4) (.tmp 13) rfl rfl rfl T1.out ?_; intro w4 r4 bel4 _)
  exact bodyPost_ret (results_c3 Try.results38 _ w4 w.heap.size zr rfl r4) rfl ⟨rfl, B1.out.trans bel4⟩
end Go.Proofs.Ytpfidohneddgkaa
