/-
  D: Contracts of pico.Text (every number) and of the law functions' live: the text of a time is its number of the greatest unit and that unit; under: the tables hold what the program lays (LaidW).
  E: pico.Scale in whole numbers: its parts and what is left are those of the division, down, of the product; under: what bits.Div64 answers at that product is given.
  H: Contracts of pico.number (digits that tell no more than the greatest time) and pico.Unit (the five units, and m), and that what strconv writes of a number are digits that tell it; Unit under: the tables hold what the program lays (LaidW).
  I: Contracts of pico.Mul, pico.Read (what Text writes; digits, with or without a sign, and a unit; 1m): under the ranges in their heads, and Read under: the tables hold what the program lays (LaidW).
  LC: Contracts of lex.isSign, lex.isBroken, strings.Clone and pico.Unit, at every text (strings.Clone's of at most 2^48 bytes; pico.Unit's under: the tables hold what the program lays).
  LD: Contracts of pico.Mul (two times, whatever their product), pico.Read (a number of at most 18 digits and a unit), lex.read, lex.number: a piece that is to be a number; under: the tables hold what the program lays (LaidW).
  LE: Contracts of lex.read, lex.number: a piece that is to be a number (of at most 2^47 bytes); under: the tables hold what the program lays (LaidW).
-/
import Derived.Test.YtpkoboohnbkpoaaGreatDoorK1
import Derived.Lib.QuietBelow
import Derived.IntWalk
import Derived.Lib.AppendIntMem
import Derived.Shelf.Strconv.Itoa4
import Derived.Test.YtpkoboohnbkpoaaGreatDoorK2
import Derived.Lib.ParseIntBCases
import Derived.Lib.AtoiErrMem
/-! D -/
namespace Go.Proofs.YtpkoboohnbkpoaaGreatDoor
open Go Go.RowKit Go.Joins

theorem fmt_any (n : Int) (w : World) (hL : LaidW w) (h0 : -9223372036854775808 ≤ n) (h1 : n ≤ 9223372036854775807) :
    Calls Tryz.prog 173 #[.int .i64 n, .int .i64 10] w fun e w' => e = .returned (.string ⟨(Lib.itoa n).toArray⟩) ∧ Below w.heap.size w w' := by
  refine (Tryz.strconv_FormatInt_10 n h0 h1 w hL.pow).mono ?_
  rintro e w' ⟨rfl, k, os, rfl⟩
  exact ⟨rfl, Lib.below_grow _ _ (Nat.le_refl _) _ _⟩

theorem tdiv_range (t ps : Int) (h1 : -1152921504606846976 ≤ t) (h2 : t ≤ 1152921504606846976) : -1152921504606846976 ≤ t.tdiv ps ∧ t.tdiv ps ≤ 1152921504606846976 := by
  have h := Int.natAbs_tdiv t ps
  have h' : t.natAbs / ps.natAbs ≤ t.natAbs := Nat.div_le_self _ _
  have h3 : (t.tdiv ps).natAbs ≤ t.natAbs := by rw [h]; exact h'
  omega

theorem decDigits_le (u : Nat) : (Lib.decDigits u).length ≤ u + 1 := by
  induction u using Nat.strongRecOn with
  | ind u ih =>
    unfold Lib.decDigits
    split
    · simp
    · have := ih (u / 10) (by omega)
      simp only [List.length_append, List.length_cons, List.length_nil]
      omega
theorem itoa_le (n : Int) : (Lib.itoa n).length ≤ n.natAbs + 2 := by
  unfold Lib.itoa
  split
  · have := decDigits_le n.natAbs
    simp only [List.length_cons]; omega
  · have := decDigits_le n.toNat
    omega

def GreatestSaid (t : Int) (nm : ByteArray) (ps : Int) : Prop := ∀ w : World, LaidW w → Calls Tryz.prog 189 #[.int .i64 t] w fun e w' => e = .returned (.agg #[.string nm, .int .i64 ps]) ∧ Below w.heap.size w w'

set_option maxRecDepth 100000 in
theorem text_ok (t ps : Int) (nm : ByteArray) (w : World) (hL : LaidW w) (h1 : -1152921504606846976 ≤ t) (h2 : t ≤ 1152921504606846976) (hp1 : 0 < ps) (hnm : nm.size ≤ 2) (hG : GreatestSaid t nm ps) :
    Calls Tryz.prog 174 #[.int .i64 t] w fun e w' => e = .returned (.tuple #[.string (⟨(Lib.itoa (t.tdiv ps)).toArray⟩ ++ nm), .int .i64 0]) ∧ Below w.heap.size w w' := by
  go_enter Tryz.func174, Tryz.ntmps174
  go_wp2_with fail
  refine (may_1 _ _ t true (timeB_yes h1 h2) _ (by simp)).mono ?_
  rintro e w' ⟨rfl, rfl⟩
  go_wp2_with fail
  refine (hG _ (hL.below ((Below.refl _ _).alloc (Nat.le_refl _) _))).mono ?_
  rintro e w1 ⟨rfl, hb⟩
  go_wp2_with fail
  have hLW : LaidW (w1.alloc (Obj.cells #[Value.string nm, Value.int IntKind.i64 ps] 209)) := ((hL.below ((Below.refl _ _).alloc (Nat.le_refl _) _)).below hb).below ((Below.refl _ _).alloc (Nat.le_refl _) _)
  have hc0 : (w1.alloc (Obj.cells #[Value.string nm, Value.int IntKind.i64 ps] 209)).cell? ⟨w1.heap.size, 0, none⟩ = some (.string nm) := by simp
  have hc1 : (w1.alloc (Obj.cells #[Value.string nm, Value.int IntKind.i64 ps] 209)).cell? ⟨w1.heap.size, 1, none⟩ = some (.int .i64 ps) := by simp
  have hB : w1.heap.size < (w1.alloc (Obj.cells #[Value.string nm, Value.int IntKind.i64 ps] 209)).heap.size := by simp
  have HbW : Hid (Below w.heap.size w (w1.alloc (Obj.cells #[Value.string nm, Value.int IntKind.i64 ps] 209))) := hid ((((Below.refl _ _).alloc (Nat.le_refl _) _).trans (hb.mono (by simp))).alloc (by have := hb.size; simp at this; omega) _)
  have hdiv : IntKind.i64.wrap (t.tdiv ps) = t.tdiv ps := IntWalk.i64_quo' t ps ⟨by omega, by omega, by omega⟩
  have HD := hid hdiv
  clear hdiv
  have hlo : -9223372036854775808 ≤ t.tdiv ps ∧ t.tdiv ps ≤ 9223372036854775807 := by have := tdiv_range t ps h1 h2; omega
  have hnz : ¬ ps = 0 := by omega
  clear hb
  generalize w1.alloc (Obj.cells #[Value.string nm, Value.int IntKind.i64 ps] 209) = W at *
  generalize w1.heap.size = B at *
  have k0 := cell_regrown hc0
  have k1 := cell_regrown hc1
  have cF : ∀ d os, Calls Tryz.prog 173 #[.int .i64 (IntKind.i64.wrap (t.tdiv ps)), .int .i64 10] (Sort.grow (redrawn W d) os) fun e w'' => e = .returned (.string ⟨(Lib.itoa (t.tdiv ps)).toArray⟩) ∧ ∃ p : Regrown, w'' = Sort.grow (redrawn W p.d) p.os := fun d os => by
    rw [HD.out]
    exact Calls.regrown_of (fmt_any _ _ (hLW.below (below_regrown W d os)) hlo.1 hlo.2)
  have hlen := itoa_le (t.tdiv ps)
  have hrng := tdiv_range t ps h1 h2
  have n1 : ¬ 9223372036854775807 < (⟨(Lib.itoa (t.tdiv ps)).toArray⟩ : ByteArray).size + nm.size := by simp only [ByteArray.size, List.size_toArray] at hnm ⊢; omega
  clear hlo hLW hlen hrng hL
  generalize hsx : (⟨(Lib.itoa (t.tdiv ps)).toArray⟩ : ByteArray) = sx at *
  have HS := hid hsx
  clear hsx
  refine wp_region_quiet_below (by kernel_rfl) (by kernel_rfl) ?_
  repeat (quiet_step (exact cF _ _))
  refine wpQuiet_nil ?_
  intro _ hw'
  obtain ⟨⟨dq, osq⟩, hw''⟩ := hw'
  subst hw''
  go_wp2
  refine bodyPost_ret (v := .tuple #[.string (sx ++ nm), .int .i64 0]) (by simp [results, Tryz.results174, go_sem]) rfl ⟨by rw [HS.out], HbW.out.trans (below_regrown W dq osq |>.mono HbW.out.size)⟩

theorem text_no (t : Int) (w : World) (h : t < -1152921504606846976 ∨ 1152921504606846976 < t) :
    Calls Tryz.prog 174 #[.int .i64 t] w fun e w' => e = .returned (.tuple #[.string ⟨#[]⟩, .int .i64 1]) ∧ Below w.heap.size w w' := by
  have H := hid h
  clear h
  go_enter Tryz.func174, Tryz.ntmps174
  go_wp2_with fail
  refine (may_1 _ _ t false (timeB_no H.out) _ (by simp)).mono ?_
  rintro e w' ⟨rfl, rfl⟩
  go_wp2
  go_ret2
  exact ⟨rfl, (Below.refl _ _).alloc (Nat.le_refl _) _⟩

/-- the five units -/
def UnitIs (nm : ByteArray) (ps : Int) : Prop :=
  (nm = ⟨#[112, 115]⟩ ∧ ps = 1) ∨ (nm = ⟨#[110, 115]⟩ ∧ ps = 1000) ∨ (nm = ⟨#[117, 115]⟩ ∧ ps = 1000000) ∨ (nm = ⟨#[109, 115]⟩ ∧ ps = 1000000000) ∨ (nm = ⟨#[115]⟩ ∧ ps = 1000000000000)

theorem tm (t : Int) (p : Int) (h : t.tmod p = 0) : (t.tmod p == 0) = true := by simp [h]
theorem tmn (t : Int) (p : Int) (h : ¬ t.tmod p = 0) : (t.tmod p == 0) = false := by simp [h]
theorem tmod_dvd {t p : Int} (h : t.tmod p = 0) : p ∣ t := Int.dvd_of_tmod_eq_zero h
theorem dvd_tmod {t p : Int} (h : p ∣ t) : t.tmod p = 0 := Int.tmod_eq_zero_of_dvd h

theorem greatest_some (t : Int) : ∃ nm ps, UnitIs nm ps ∧ t.tdiv ps * ps = t ∧ GreatestSaid t nm ps := by
  by_cases h0 : t = 0
  · subst h0
    exact ⟨_, _, .inl ⟨rfl, rfl⟩, by decide, fun w hL => greatest_zero w hL⟩
  have hz : (t != 0) = true := by simp [h0]
  by_cases h1 : t.tmod 1000 = 0
  · by_cases h2 : t.tmod 1000000 = 0
    · by_cases h3 : t.tmod 1000000000 = 0
      · by_cases h4 : t.tmod 1000000000000 = 0
        · exact ⟨_, _, .inr (.inr (.inr (.inr ⟨rfl, rfl⟩))), by have := Int.tdiv_mul_cancel (tmod_dvd h4); exact this, fun w hL => greatest_4 t w hL hz (tm _ _ h1) (tm _ _ h2) (tm _ _ h3) (tm _ _ h4)⟩
        · exact ⟨_, _, .inr (.inr (.inr (.inl ⟨rfl, rfl⟩))), by have := Int.tdiv_mul_cancel (tmod_dvd h3); exact this, fun w hL => greatest_3 t w hL hz (tm _ _ h1) (tm _ _ h2) (tm _ _ h3) (tmn _ _ h4)⟩
      · have h4 : ¬ t.tmod 1000000000000 = 0 := fun h => h3 (dvd_tmod (Int.dvd_trans ⟨1000, by decide⟩ (tmod_dvd h)))
        exact ⟨_, _, .inr (.inr (.inl ⟨rfl, rfl⟩)), by have := Int.tdiv_mul_cancel (tmod_dvd h2); exact this, fun w hL => greatest_2 t w hL hz (tm _ _ h1) (tm _ _ h2) (tmn _ _ h3) (tmn _ _ h4)⟩
    · have h3 : ¬ t.tmod 1000000000 = 0 := fun h => h2 (dvd_tmod (Int.dvd_trans ⟨1000, by decide⟩ (tmod_dvd h)))
      have h4 : ¬ t.tmod 1000000000000 = 0 := fun h => h2 (dvd_tmod (Int.dvd_trans ⟨1000000, by decide⟩ (tmod_dvd h)))
      exact ⟨_, _, .inr (.inl ⟨rfl, rfl⟩), by have := Int.tdiv_mul_cancel (tmod_dvd h1); exact this, fun w hL => greatest_1 t w hL hz (tm _ _ h1) (tmn _ _ h2) (tmn _ _ h3) (tmn _ _ h4)⟩
  · have h2 : ¬ t.tmod 1000000 = 0 := fun h => h1 (dvd_tmod (Int.dvd_trans ⟨1000, by decide⟩ (tmod_dvd h)))
    have h3 : ¬ t.tmod 1000000000 = 0 := fun h => h1 (dvd_tmod (Int.dvd_trans ⟨1000000, by decide⟩ (tmod_dvd h)))
    have h4 : ¬ t.tmod 1000000000000 = 0 := fun h => h1 (dvd_tmod (Int.dvd_trans ⟨1000000000, by decide⟩ (tmod_dvd h)))
    exact ⟨_, _, .inl ⟨rfl, rfl⟩, by simp, fun w hL => greatest_0 t w hL hz (tmn _ _ h1) (tmn _ _ h2) (tmn _ _ h3) (tmn _ _ h4)⟩

theorem unit_size {nm : ByteArray} {ps : Int} (h : UnitIs nm ps) : 0 < ps ∧ nm.size ≤ 2 := by
  rcases h with ⟨rfl, rfl⟩ | ⟨rfl, rfl⟩ | ⟨rfl, rfl⟩ | ⟨rfl, rfl⟩ | ⟨rfl, rfl⟩ <;> decide

theorem text_5000 (w : World) (hL : LaidW w) : Calls Tryz.prog 174 #[.int .i64 5000] w fun e w' => e = .returned (.tuple #[.string ⟨#[53, 110, 115]⟩, .int .i64 0]) ∧ Below w.heap.size w w' := by
  have hs : (⟨(Lib.itoa ((5000 : Int).tdiv 1000)).toArray⟩ ++ ⟨#[110, 115]⟩ : ByteArray) = ⟨#[53, 110, 115]⟩ := by decide +kernel
  refine (text_ok 5000 1000 ⟨#[110, 115]⟩ w hL (by omega) (by omega) (by omega) (by decide) (fun w hL => greatest_1 5000 w hL rfl rfl rfl rfl rfl)).mono ?_
  rintro e w' ⟨rfl, hb⟩
  exact ⟨by rw [hs], hb⟩

theorem div_low (p d : Nat) (h : p < 18446744073709551616) (hd : 1 ≤ d) (hd2 : d < 18446744073709551616) : DivSaid p d := fun w => by
  have e1 : p / 18446744073709551616 = 0 := Nat.div_eq_of_lt h
  have e2 : p % 18446744073709551616 = p := Nat.mod_eq_of_lt h
  rw [e1, e2]
  exact div64_low p d w h hd hd2

end Go.Proofs.YtpkoboohnbkpoaaGreatDoor

/-! E -/
namespace Go.Proofs.YtpkoboohnbkpoaaGreatDoor
open Go Go.RowKit Go.Joins

theorem same_mul (a b : Int) (h : a < 0 ↔ b < 0) : a * b = ((a.natAbs * b.natAbs : Nat) : Int) := by
  rw [Int.natCast_mul]
  by_cases ha : a < 0
  · have hb := h.1 ha
    rw [show (a.natAbs : Int) = -a by omega, show (b.natAbs : Int) = -b by omega, Int.neg_mul_neg]
  · have hb : ¬ b < 0 := fun x => ha (h.2 x)
    rw [show (a.natAbs : Int) = a by omega, show (b.natAbs : Int) = b by omega]
theorem opp_mul (a b : Int) (h : ¬ (a < 0 ↔ b < 0)) : a * b = -((a.natAbs * b.natAbs : Nat) : Int) := by
  rw [Int.natCast_mul]
  by_cases ha : a < 0
  · have hb : ¬ b < 0 := fun x => h ⟨fun _ => x, fun _ => ha⟩
    rw [show (a.natAbs : Int) = -a by omega, show (b.natAbs : Int) = b by omega, Int.neg_mul, Int.neg_neg]
  · have hb : b < 0 := Classical.byContradiction fun x => h ⟨fun y => absurd y ha, fun y => absurd y x⟩
    rw [show (a.natAbs : Int) = a by omega, show (b.natAbs : Int) = -b by omega, Int.mul_neg, Int.neg_neg]

/-- division of a number below 0, down -/
theorem neg_div0 (p d : Nat) (hd : 1 ≤ d) (h : p % d = 0) : -(p : Int) / (d : Int) = -((p / d : Nat) : Int) ∧ -(p : Int) % (d : Int) = 0 := by
  have e : p = d * (p / d) := by have := Nat.div_add_mod p d; omega
  generalize p / d = q at *
  subst e
  have hd0 : (d : Int) ≠ 0 := by omega
  refine ⟨?_, ?_⟩
  · rw [show (-((d * q : Nat) : Int)) = (d : Int) * (-(q : Int)) by rw [Int.natCast_mul, Int.mul_neg], Int.mul_ediv_cancel_left _ hd0]
  · rw [show (-((d * q : Nat) : Int)) = (d : Int) * (-(q : Int)) by rw [Int.natCast_mul, Int.mul_neg], Int.mul_emod_right]
theorem neg_div1 (p d : Nat) (hd : 1 ≤ d) (h : 0 < p % d) : -(p : Int) / (d : Int) = -(((p / d : Nat) : Int) + 1) ∧ -(p : Int) % (d : Int) = (d : Int) - ((p % d : Nat) : Int) := by
  have hm : p % d < d := Nat.mod_lt _ hd
  have e : p = d * (p / d) + p % d := (Nat.div_add_mod p d).symm
  generalize p / d = q at *
  generalize p % d = r at *
  subst e
  have hd0 : 0 < (d : Int) := by omega
  have key : (-((d * q + r : Nat) : Int)) = ((d : Int) - r) + (-((q : Int) + 1)) * (d : Int) := by
    rw [Int.natCast_add, Int.natCast_mul, Int.neg_mul, Int.add_mul, Int.one_mul, Int.mul_comm (q : Int) (d : Int)]; omega
  refine ⟨?_, ?_⟩
  · rw [key, Int.add_mul_ediv_right _ _ (by omega), Int.ediv_eq_zero_of_lt (by omega) (by omega)]; omega
  · rw [key, Int.add_mul_emod_self_right, Int.emod_eq_of_lt (by omega) (by omega)]

theorem hi_lt (p d : Nat) (hd : 1 ≤ d) (h : p / d ≤ 1152921504606846976) : p / 18446744073709551616 < d := by
  have h1 : p < d * 1152921504606846977 := by
    have := (Nat.div_lt_iff_lt_mul hd).1 (Nat.lt_succ_of_le h)
    rw [Nat.mul_comm]; exact this
  exact Nat.div_lt_of_lt_mul (by omega)

/-- pico.Scale, where the parts are a time -/
theorem scale_ok (a b d : Int) (w : World) (ha1 : -1152921504606846976 ≤ a) (ha2 : a ≤ 1152921504606846976) (hb1 : -1152921504606846976 ≤ b) (hb2 : b ≤ 1152921504606846976)
    (hd1 : 1 ≤ d) (hd2 : d ≤ 1152921504606846976) (hD : DivSaid (a.natAbs * b.natAbs) d.toNat) (hq1 : -1152921504606846976 ≤ a * b / d) (hq2 : a * b / d ≤ 1152921504606846976) :
    Calls Tryz.prog 197 #[.int .i64 a, .int .i64 b, .int .i64 d] w fun e w' => e = .returned (.tuple #[.int .i64 (a * b / d), .int .i64 (a * b % d), .int .i64 0]) ∧ Below w.heap.size w w' := by
  obtain ⟨n, rfl⟩ := Int.eq_ofNat_of_zero_le (show 0 ≤ d by omega)
  rw [Int.toNat_natCast] at hD
  by_cases hs : (a < 0 ↔ b < 0)
  · have hm := same_mul a b hs
    rw [hm] at hq1 hq2 ⊢
    rw [← Int.natCast_ediv] at hq1 hq2
    rw [← Int.natCast_ediv, ← Int.natCast_emod]
    have hq : a.natAbs * b.natAbs / n ≤ 1152921504606846976 := by omega
    exact scale_same a b n w ha1 ha2 hb1 hb2 (by omega) (by omega) hs hD (hi_lt _ _ (by omega) hq) hq
  · have hm := opp_mul a b hs
    rw [hm] at hq1 hq2 ⊢
    by_cases hr : a.natAbs * b.natAbs % n = 0
    · obtain ⟨e1, e2⟩ := neg_div0 _ n (by omega) hr
      rw [e1] at hq1 hq2 ⊢
      rw [e2]
      have hq : a.natAbs * b.natAbs / n ≤ 1152921504606846976 := by omega
      exact scale_opp0 a b n w ha1 ha2 hb1 hb2 (by omega) (by omega) hs hD (hi_lt _ _ (by omega) hq) hq hr
    · obtain ⟨e1, e2⟩ := neg_div1 _ n (by omega) (Nat.pos_of_ne_zero hr)
      rw [e1] at hq1 hq2 ⊢
      rw [e2]
      have hq : a.natAbs * b.natAbs / n < 1152921504606846976 := by omega
      exact scale_opp a b n w ha1 ha2 hb1 hb2 (by omega) (by omega) hs hD (hi_lt _ _ (by omega) (by omega)) hq (Nat.pos_of_ne_zero hr)

/-- pico.Scale, where the parts are no time -/
theorem scale_ov (a b d : Int) (w : World) (ha1 : -1152921504606846976 ≤ a) (ha2 : a ≤ 1152921504606846976) (hb1 : -1152921504606846976 ≤ b) (hb2 : b ≤ 1152921504606846976)
    (hd1 : 1 ≤ d) (hd2 : d ≤ 1152921504606846976) (hD : a.natAbs * b.natAbs / 18446744073709551616 < d.toNat → DivSaid (a.natAbs * b.natAbs) d.toNat) (hq : a * b / d < -1152921504606846976 ∨ 1152921504606846976 < a * b / d) :
    Calls Tryz.prog 197 #[.int .i64 a, .int .i64 b, .int .i64 d] w fun e w' => e = .returned (.tuple #[.int .i64 0, .int .i64 0, .int .i64 2]) ∧ Below w.heap.size w w' := by
  obtain ⟨n, rfl⟩ := Int.eq_ofNat_of_zero_le (show 0 ≤ d by omega)
  rw [Int.toNat_natCast] at hD
  by_cases hh : a.natAbs * b.natAbs / 18446744073709551616 < n
  · by_cases hg : 1152921504606846976 < a.natAbs * b.natAbs / n
    · exact scale_over a b n w ha1 ha2 hb1 hb2 (by omega) (by omega) (hD hh) hh hg
    · by_cases hs : (a < 0 ↔ b < 0)
      · have hm := same_mul a b hs
        rw [hm, ← Int.natCast_ediv] at hq
        generalize a.natAbs * b.natAbs / n = q at *
        omega
      · have hm := opp_mul a b hs
        rw [hm] at hq
        by_cases hr : a.natAbs * b.natAbs % n = 0
        · obtain ⟨e1, e2⟩ := neg_div0 _ n (by omega) hr
          rw [e1] at hq
          clear e1 e2
          generalize a.natAbs * b.natAbs / n = q at *
          omega
        · obtain ⟨e1, e2⟩ := neg_div1 _ n (by omega) (Nat.pos_of_ne_zero hr)
          rw [e1] at hq
          have hv : a.natAbs * b.natAbs / n = 1152921504606846976 := by
            clear e1 e2
            generalize a.natAbs * b.natAbs / n = q at *
            omega
          exact scale_opp_over a b n w ha1 ha2 hb1 hb2 (by omega) (by omega) hs (hD hh) hh hv (Nat.pos_of_ne_zero hr)
  · exact scale_over_hi a b n w ha1 ha2 hb1 hb2 (by omega) (by omega) (by omega)

/-- pico.Scale at a small product -/
theorem mul_small {a b : Int} {A B : Nat} (ha : a.natAbs ≤ A) (hb : b.natAbs ≤ B) : a.natAbs * b.natAbs ≤ A * B := Nat.mul_le_mul ha hb
end Go.Proofs.YtpkoboohnbkpoaaGreatDoor

/-! H -/
namespace Go.Proofs.YtpkoboohnbkpoaaGreatDoor
open Go Go.RowKit Go.Joins

/-- what digits tell -/
def decVal (l : List UInt8) : Nat := l.foldl (fun n c => 10 * n + (c.toNat - 48)) 0
def isDigits (l : List UInt8) : Prop := ∀ c ∈ l, 48 ≤ c.toNat ∧ c.toNat ≤ 57

theorem decVal_snoc (l : List UInt8) (c : UInt8) : decVal (l ++ [c]) = 10 * decVal l + (c.toNat - 48) := by
  simp [decVal, List.foldl_append]
theorem decVal_take_le (l : List UInt8) (k : Nat) : decVal (l.take k) ≤ decVal l := by
  have key : ∀ (r l : List UInt8), decVal l ≤ decVal (l ++ r) := by
    intro r
    induction r with
    | nil => intro l; simp
    | cons c r ih =>
      intro l
      have h := ih (l ++ [c])
      rw [List.append_assoc, List.singleton_append] at h
      have := decVal_snoc l c
      omega
  have := key (l.drop k) (l.take k)
  rwa [List.take_append_drop] at this

theorem take_snoc (s : ByteArray) (k : Nat) (h : k < s.size) : s.data.toList.take (k + 1) = s.data.toList.take k ++ [s[k]] := by
  rw [List.take_succ_eq_append_getElem (by simpa using h)]; rfl

set_option maxHeartbeats 400000 in
theorem number_any (s : ByteArray) (w : World) (hd : isDigits s.data.toList) (hv : decVal s.data.toList ≤ 1152921504606846976) (hs : s.size ≤ 9223372036854775807) :
    Calls Tryz.prog 179 #[.string s] w fun e w' => e = .returned (.int .i64 (decVal s.data.toList)) ∧ w = w' := by
  have HD := hid hd
  have HV := hid hv
  clear hd hv
  go_enter Tryz.func179, Tryz.ntmps179
  go_wp2
  go_loop [3, 7] (fun n i => ∃ k : Nat, k ≤ s.size ∧ i = .int .i64 k ∧ n = .int .i64 (decVal (s.data.toList.take k) : Nat)) (fun _ i => s.size - (intOf i).toNat)
  case atStart => exact ⟨0, Nat.zero_le _, rfl, rfl⟩
  case round =>
    obtain ⟨k, hk, rfl, rfl⟩ := hrel
    by_cases hlt : k < s.size
    · have h1 := decVal_snoc (s.data.toList.take k) s[k]
      rw [← take_snoc s k hlt] at h1
      have h2 := decVal_take_le s.data.toList (k + 1)
      have h3 := HD.out s[k] (by show s.data[k]'hlt ∈ s.data.toList; simp)
      have h4 := HV.out
      have b1 : decVal (s.data.toList.take k) ≤ 115292150460684697 := by omega
      have H1 := hid h1
      obtain ⟨c1, c2⟩ := h3
      clear h1 h2 h4
      generalize hm : decVal (s.data.toList.take k) = m at *
      generalize hm' : decVal (s.data.toList.take (k + 1)) = m' at *
      have HM := hid hm'
      clear hm hm'
      go_wp2
      exact ⟨⟨k + 1, by omega, by go_num, by rw [HM.out, H1.out]; go_num⟩, by simp [intOf]; omega⟩
    · have hkk : k = s.size := by omega
      have HL : Hid (s.data.toList.take k = s.data.toList) := hid (List.take_of_length_le (by rw [hkk]; exact Nat.le_refl _))
      clear hkk
      go_wp2
      go_ret
      exact ⟨ret_int (by rw [HL.out]), rfl⟩

/-! what itoa writes are digits that tell the number -/
theorem digits_dec (u : Nat) : isDigits (Lib.decDigits u) ∧ decVal (Lib.decDigits u) = u ∧ Lib.decDigits u ≠ [] := by
  induction u using Nat.strongRecOn with
  | ind u ih =>
    unfold Lib.decDigits
    split
    · rename_i h
      refine ⟨?_, ?_, by simp⟩
      · intro c hc
        simp only [List.mem_singleton] at hc
        subst hc
        have : (UInt8.ofNat (48 + u)).toNat = 48 + u := by rw [UInt8.toNat_ofNat']; omega
        omega
      · have : (UInt8.ofNat (48 + u)).toNat = 48 + u := by rw [UInt8.toNat_ofNat']; omega
        simp only [decVal, List.foldl_cons, List.foldl_nil]
        omega
    · rename_i h
      obtain ⟨h1, h2, h3⟩ := ih (u / 10) (by omega)
      have e : (UInt8.ofNat (48 + u % 10)).toNat = 48 + u % 10 := by rw [UInt8.toNat_ofNat']; omega
      refine ⟨?_, ?_, by simp⟩
      · intro c hc
        rcases List.mem_append.1 hc with hc | hc
        · exact h1 c hc
        · simp only [List.mem_singleton] at hc
          subst hc
          omega
      · rw [decVal_snoc, h2, e]
        omega

/-! pico.Unit -/
set_option maxRecDepth 100000 in
theorem unit_0 (w : World) (hL : LaidW w) : Calls Tryz.prog 151 #[.string ⟨#[112, 115]⟩] w fun e w' => e = .returned (.tuple #[.int .i64 1, .bool true]) ∧ Below w.heap.size w w' := by
  obtain ⟨c0, c1, c2, c3, c4, c5, c6, c7, c8, c9⟩ := hL.cells
  have hsz := hL.pos
  have hsz0 : 0 < w.heap.size := Nat.lt_of_le_of_lt (Nat.zero_le _) hsz
  clear hL
  have i0 := unit_at0
  have i1 := unit_at1
  have i2 := unit_at2
  have i3 := unit_at3
  have i4 := unit_at4
  go_enter Tryz.func151, Tryz.ntmps151
  go_wp2
  refine wp_loop_rounds 6 ?_
  rw [rounds_succ]
  go_wp2
  go_ret2
  exact ⟨rfl, (Below.refl _ _).alloc (Nat.le_refl _) _⟩

set_option maxRecDepth 100000 in
theorem unit_1 (w : World) (hL : LaidW w) : Calls Tryz.prog 151 #[.string ⟨#[110, 115]⟩] w fun e w' => e = .returned (.tuple #[.int .i64 1000, .bool true]) ∧ Below w.heap.size w w' := by
  obtain ⟨c0, c1, c2, c3, c4, c5, c6, c7, c8, c9⟩ := hL.cells
  have hsz := hL.pos
  have hsz0 : 0 < w.heap.size := Nat.lt_of_le_of_lt (Nat.zero_le _) hsz
  clear hL
  have i0 := unit_at0
  have i1 := unit_at1
  have i2 := unit_at2
  have i3 := unit_at3
  have i4 := unit_at4
  go_enter Tryz.func151, Tryz.ntmps151
  go_wp2
  refine wp_loop_rounds 6 ?_
  rw [rounds_succ]
  go_wp2
  rw [rounds_succ]
  go_wp2
  go_ret2
  exact ⟨rfl, ((Below.refl _ _).alloc (Nat.le_refl _) _).alloc (by simp) _⟩

set_option maxRecDepth 100000 in
theorem unit_2 (w : World) (hL : LaidW w) : Calls Tryz.prog 151 #[.string ⟨#[117, 115]⟩] w fun e w' => e = .returned (.tuple #[.int .i64 1000000, .bool true]) ∧ Below w.heap.size w w' := by
  obtain ⟨c0, c1, c2, c3, c4, c5, c6, c7, c8, c9⟩ := hL.cells
  have hsz := hL.pos
  have hsz0 : 0 < w.heap.size := Nat.lt_of_le_of_lt (Nat.zero_le _) hsz
  clear hL
  have i0 := unit_at0
  have i1 := unit_at1
  have i2 := unit_at2
  have i3 := unit_at3
  have i4 := unit_at4
  go_enter Tryz.func151, Tryz.ntmps151
  go_wp2
  refine wp_loop_rounds 6 ?_
  rw [rounds_succ]
  go_wp2
  rw [rounds_succ]
  go_wp2
  rw [rounds_succ]
  go_wp2
  go_ret2
  exact ⟨rfl, (((Below.refl _ _).alloc (Nat.le_refl _) _).alloc (by simp) _).alloc (by simp; omega) _⟩

set_option maxRecDepth 100000 in
theorem unit_3 (w : World) (hL : LaidW w) : Calls Tryz.prog 151 #[.string ⟨#[109, 115]⟩] w fun e w' => e = .returned (.tuple #[.int .i64 1000000000, .bool true]) ∧ Below w.heap.size w w' := by
  obtain ⟨c0, c1, c2, c3, c4, c5, c6, c7, c8, c9⟩ := hL.cells
  have hsz := hL.pos
  have hsz0 : 0 < w.heap.size := Nat.lt_of_le_of_lt (Nat.zero_le _) hsz
  clear hL
  have i0 := unit_at0
  have i1 := unit_at1
  have i2 := unit_at2
  have i3 := unit_at3
  have i4 := unit_at4
  go_enter Tryz.func151, Tryz.ntmps151
  go_wp2
  refine wp_loop_rounds 6 ?_
  rw [rounds_succ]
  go_wp2
  rw [rounds_succ]
  go_wp2
  rw [rounds_succ]
  go_wp2
  rw [rounds_succ]
  go_wp2
  go_ret2
  exact ⟨rfl, ((((Below.refl _ _).alloc (Nat.le_refl _) _).alloc (by simp) _).alloc (by simp; omega) _).alloc (by simp; omega) _⟩

set_option maxRecDepth 100000 in
theorem unit_4 (w : World) (hL : LaidW w) : Calls Tryz.prog 151 #[.string ⟨#[115]⟩] w fun e w' => e = .returned (.tuple #[.int .i64 1000000000000, .bool true]) ∧ Below w.heap.size w w' := by
  obtain ⟨c0, c1, c2, c3, c4, c5, c6, c7, c8, c9⟩ := hL.cells
  have hsz := hL.pos
  have hsz0 : 0 < w.heap.size := Nat.lt_of_le_of_lt (Nat.zero_le _) hsz
  clear hL
  have i0 := unit_at0
  have i1 := unit_at1
  have i2 := unit_at2
  have i3 := unit_at3
  have i4 := unit_at4
  go_enter Tryz.func151, Tryz.ntmps151
  go_wp2
  refine wp_loop_rounds 6 ?_
  rw [rounds_succ]
  go_wp2
  rw [rounds_succ]
  go_wp2
  rw [rounds_succ]
  go_wp2
  rw [rounds_succ]
  go_wp2
  rw [rounds_succ]
  go_wp2
  go_ret2
  exact ⟨rfl, (((((Below.refl _ _).alloc (Nat.le_refl _) _).alloc (by simp) _).alloc (by simp; omega) _).alloc (by simp; omega) _).alloc (by simp; omega) _⟩

set_option maxRecDepth 100000 in
theorem unit_m (w : World) (hL : LaidW w) : Calls Tryz.prog 151 #[.string ⟨#[109]⟩] w fun e w' => e = .returned (.tuple #[.int .i64 0, .bool false]) ∧ Below w.heap.size w w' := by
  obtain ⟨c0, c1, c2, c3, c4, c5, c6, c7, c8, c9⟩ := hL.cells
  have hsz := hL.pos
  have hsz0 : 0 < w.heap.size := Nat.lt_of_le_of_lt (Nat.zero_le _) hsz
  clear hL
  have i0 := unit_at0
  have i1 := unit_at1
  have i2 := unit_at2
  have i3 := unit_at3
  have i4 := unit_at4
  go_enter Tryz.func151, Tryz.ntmps151
  go_wp2
  refine wp_loop_rounds 6 ?_
  rw [rounds_succ]
  go_wp2
  rw [rounds_succ]
  go_wp2
  rw [rounds_succ]
  go_wp2
  rw [rounds_succ]
  go_wp2
  rw [rounds_succ]
  go_wp2
  rw [rounds_succ]
  go_wp2
  go_ret2
  exact ⟨rfl, (((((Below.refl _ _).alloc (Nat.le_refl _) _).alloc (by simp) _).alloc (by simp; omega) _).alloc (by simp; omega) _).alloc (by simp; omega) _⟩


end Go.Proofs.YtpkoboohnbkpoaaGreatDoor

/-! I -/
namespace Go.Proofs.YtpkoboohnbkpoaaGreatDoor
open Go Go.RowKit Go.Joins

theorem mul_ok (a b : Int) (w : World) (ha1 : -1152921504606846976 ≤ a) (ha2 : a ≤ 1152921504606846976) (hb1 : -1152921504606846976 ≤ b) (hb2 : b ≤ 1152921504606846976)
    (hD : DivSaid (a.natAbs * b.natAbs) 1) (hq1 : -1152921504606846976 ≤ a * b) (hq2 : a * b ≤ 1152921504606846976) :
    Calls Tryz.prog 181 #[.int .i64 a, .int .i64 b] w fun e w' => e = .returned (.tuple #[.int .i64 (a * b), .int .i64 0]) ∧ Below w.heap.size w w' := by
  go_enter Tryz.func181, Tryz.ntmps181
  go_wp2_with fail
  refine (scale_ok a b 1 w ha1 ha2 hb1 hb2 (by omega) (by omega) hD (by rw [Int.ediv_one]; exact hq1) (by rw [Int.ediv_one]; exact hq2)).mono ?_
  rintro e w' ⟨rfl, hb⟩
  rw [Int.ediv_one]
  go_wp2
  go_ret2
  exact ⟨rfl, hb⟩

theorem cut_any (s rest : ByteArray) (minus : Bool) (w : World) (h1 : Lib.trimPrefix s.data.toList [45] = rest.data.toList) (h2 : Lib.hasPrefix s.data.toList [45] = minus) :
    Calls Tryz.prog 178 #[.string s, .string ⟨#[45]⟩] w fun e w' => e = .returned (.tuple #[.string rest, .bool minus]) ∧ w = w' := by
  refine (Tryz.strings_CutPrefix s ⟨#[45]⟩ w).mono ?_
  rintro e w' ⟨rfl, rfl⟩
  have e1 : Lib.trimPrefix s.data.toList (#[45] : Array UInt8).toList = rest.data.toList := h1
  have e2 : Lib.hasPrefix s.data.toList (#[45] : Array UInt8).toList = minus := h2
  refine ⟨?_, rfl⟩
  show Ending.returned (.tuple #[.string ⟨(Lib.trimPrefix s.data.toList (#[45] : Array UInt8).toList).toArray⟩, .bool (Lib.hasPrefix s.data.toList (#[45] : Array UInt8).toList)]) = _
  rw [e1, e2, Array.toArray_toList]

def digitSet : ByteArray := ⟨#[48, 49, 50, 51, 52, 53, 54, 55, 56, 57]⟩
theorem trim_any (rest nm : ByteArray) (w : World) (h : Lib.trimLeftS rest.data.toList digitSet.data.toList = nm.data.toList) :
    Calls Tryz.prog 150 #[.string rest, .string ⟨#[48, 49, 50, 51, 52, 53, 54, 55, 56, 57]⟩] w fun e w' => e = .returned (.string nm) ∧ Below w.heap.size w w' := by
  refine (Tryz.strings_TrimLeft_laid rest digitSet w (by decide) ?_).mono ?_
  · intro j b hb
    have hm := List.mem_of_getElem? hb
    have hall : digitSet.data.toList.all (fun b => decide (b.toNat < 128)) = true := by decide
    simpa using List.all_eq_true.1 hall b hm
  · rintro e w' ⟨rfl, hb⟩
    exact ⟨by rw [h, Array.toArray_toList], hb⟩

theorem digit_in (c : UInt8) (h : 48 ≤ c.toNat ∧ c.toNat ≤ 57) : digitSet.data.toList.contains c = true := by
  have : ∀ n : Nat, 48 ≤ n → n ≤ 57 → digitSet.data.toList.contains (UInt8.ofNat n) = true := by
    intro n h1 h2
    have : n = 48 ∨ n = 49 ∨ n = 50 ∨ n = 51 ∨ n = 52 ∨ n = 53 ∨ n = 54 ∨ n = 55 ∨ n = 56 ∨ n = 57 := by omega
    rcases this with rfl | rfl | rfl | rfl | rfl | rfl | rfl | rfl | rfl | rfl <;> decide
  have e := this c.toNat h.1 h.2
  rwa [UInt8.ofNat_toNat] at e

theorem unit_letters {nm : ByteArray} {ps : Int} (h : UnitIs nm ps) : ∃ c r, nm.data.toList = c :: r ∧ digitSet.data.toList.contains c = false := by
  rcases h with ⟨rfl, rfl⟩ | ⟨rfl, rfl⟩ | ⟨rfl, rfl⟩ | ⟨rfl, rfl⟩ | ⟨rfl, rfl⟩ <;> exact ⟨_, _, rfl, by decide⟩

theorem trim_digits (ds nm : List UInt8) (hd : isDigits ds) (c : UInt8) (r : List UInt8) (hn : nm = c :: r) (hc : digitSet.data.toList.contains c = false) : Lib.trimLeftS (ds ++ nm) digitSet.data.toList = nm := by
  unfold Lib.trimLeftS
  induction ds with
  | nil => rw [List.nil_append, hn, List.dropWhile_cons_of_neg (by rw [hc]; decide)]
  | cons d ds ih =>
    rw [List.cons_append, List.dropWhile_cons_of_pos (digit_in d (hd d (by simp)))]
    exact ih (fun c hc => hd c (List.mem_cons_of_mem _ hc))

theorem unit_any {nm : ByteArray} {ps : Int} (h : UnitIs nm ps) (w : World) (hL : LaidW w) : Calls Tryz.prog 151 #[.string nm] w fun e w' => e = .returned (.tuple #[.int .i64 ps, .bool true]) ∧ Below w.heap.size w w' := by
  rcases h with ⟨rfl, rfl⟩ | ⟨rfl, rfl⟩ | ⟨rfl, rfl⟩ | ⟨rfl, rfl⟩ | ⟨rfl, rfl⟩
  · exact unit_0 w hL
  · exact unit_1 w hL
  · exact unit_2 w hL
  · exact unit_3 w hL
  · exact unit_4 w hL

theorem unit_top {nm : ByteArray} {ps : Int} (h : UnitIs nm ps) : ps ≤ 1000000000000 := by
  rcases h with ⟨rfl, rfl⟩ | ⟨rfl, rfl⟩ | ⟨rfl, rfl⟩ | ⟨rfl, rfl⟩ | ⟨rfl, rfl⟩ <;> decide

set_option maxHeartbeats 400000 in
theorem read_walk (s rest digs nm : ByteArray) (minus : Bool) (ps : Int) (w : World) (hL : LaidW w) (h1 : Lib.trimPrefix s.data.toList [45] = rest.data.toList) (h2 : Lib.hasPrefix s.data.toList [45] = minus)
    (hu : UnitIs nm ps) (hr : rest = digs ++ nm) (hd : isDigits digs.data.toList) (hd0 : 0 < digs.size) (hsz : rest.size ≤ 9223372036854775807) (hv : decVal digs.data.toList * ps ≤ 1152921504606846976) :
    Calls Tryz.prog 168 #[.string s] w fun e w' => e = .returned (.tuple #[.int .i64 (if minus then -(decVal digs.data.toList * ps) else decVal digs.data.toList * ps), .int .i64 0]) ∧ Below w.heap.size w w' := by
  have htr : Lib.trimLeftS rest.data.toList digitSet.data.toList = nm.data.toList := by
    obtain ⟨c, r, hn, hc⟩ := unit_letters hu
    have e : rest.data.toList = digs.data.toList ++ nm.data.toList := by rw [hr, ByteArray.data_append, Array.toList_append]
    rw [e]
    exact trim_digits _ _ hd c r hn hc
  have hsum : rest.size = digs.size + nm.size := by rw [hr, ByteArray.size_append]
  have hns : nm.size < rest.size := by omega
  have H1 := hid h1
  have H2 := hid h2
  have HR := hid hr
  have HT := hid htr
  have HS := hid hsum
  have HD := hid hd
  have HU := hid hu
  have HV := hid hv
  have HL := hid hL
  clear h1 h2 hr htr hsum hd hu hv hL
  have hne : ((nm.size : Int) == (rest.size : Int)) = false := beq_eq_false_iff_ne.2 (by omega)
  go_enter Tryz.func168, Tryz.ntmps168
  go_wp2_with fail
  refine (cut_any s rest minus w H1.out H2.out).mono ?_
  rintro e w' ⟨rfl, rfl⟩
  go_wp2_with fail
  refine (trim_any rest nm _ HT.out).mono ?_
  rintro e w1 ⟨rfl, g1⟩
  go_wp2_with fail
  refine (unit_any HU.out w1 (HL.out.below g1)).mono ?_
  rintro e w2 ⟨rfl, g2⟩
  go_wp2_with fail
  have hex : rest.extract 0 (rest.size - nm.size) = digs := by
    rw [HR.out, ByteArray.size_append, Nat.add_sub_cancel]
    apply ByteArray.ext
    rw [ByteArray.data_extract, ByteArray.data_append]
    apply Array.ext'
    rw [Array.toList_extract, Array.toList_append]
    simp only [List.extract_eq_take_drop, Nat.sub_zero, List.drop_zero]
    exact List.take_left' rfl
  rw [hex]
  clear hex
  obtain ⟨hp1, hp2⟩ := unit_size HU.out
  have hp3 := unit_top HU.out
  have hval : (decVal digs.data.toList : Int) ≤ decVal digs.data.toList * ps := by
    have := Int.mul_le_mul_of_nonneg_left (show (1 : Int) ≤ ps by omega) (show (0 : Int) ≤ (decVal digs.data.toList : Int) by omega)
    rwa [Int.mul_one] at this
  have hv := HV.out
  have hds : digs.size ≤ 9223372036854775807 := by have := HS.out; omega
  refine (number_any digs w2 HD.out (by omega) hds).mono ?_
  rintro e w3 ⟨rfl, rfl⟩
  have hv0 : (0 : Int) ≤ decVal digs.data.toList * ps := Int.mul_nonneg (by omega) (by omega)
  have hnn : (decVal digs.data.toList * 1 : Nat) ≤ 1152921504606846976 := by omega
  have hnat : decVal digs.data.toList * ps.natAbs ≤ 1152921504606846976 := by
    have : ((decVal digs.data.toList * ps.natAbs : Nat) : Int) = decVal digs.data.toList * ps := by rw [Int.natCast_mul, show ((ps.natAbs : Nat) : Int) = ps by omega]
    omega
  generalize hvv : decVal digs.data.toList = v at *
  have HVV := hid hvv
  clear hvv
  clear H1 H2 HR HT HS HD HV hns hne hsz hds
  cases minus
  · go_wp2_with fail
    refine (may_1 _ _ (v : Int) true (timeB_yes (by omega) (by omega)) _ (by simp)).mono ?_
    rintro e w4 ⟨rfl, rfl⟩
    go_wp2_with fail
    refine (mul_ok (v : Int) ps _ (by omega) (by omega) (by omega) (by omega) (div_low _ _ (by rw [Int.natAbs_natCast]; omega) (by omega) (by omega)) (by omega) (by omega)).mono ?_
    rintro e w5 ⟨rfl, g5⟩
    go_wp2
    go_ret2
    exact ⟨ret_two (by rw [HVV.out]) rfl, (g1.trans (g2.mono g1.size)).trans (((Below.refl _ _).alloc (Nat.le_refl _) _ |>.trans (g5.mono (by simp))).mono (by have := g1.size; have := g2.size; omega))⟩
  · have hneg : -(v : Int) * ps = -(v * ps) := Int.neg_mul _ _
    have HN := hid hneg
    clear hneg
    go_wp2_with fail
    refine (may_1 _ _ (-(v : Int)) true (timeB_yes (by omega) (by omega)) _ (by simp)).mono ?_
    rintro e w4 ⟨rfl, rfl⟩
    go_wp2_with fail
    refine (mul_ok (-(v : Int)) ps _ (by omega) (by omega) (by omega) (by omega) (div_low _ _ (by rw [Int.natAbs_neg, Int.natAbs_natCast]; omega) (by omega) (by omega)) (by rw [HN.out]; omega) (by rw [HN.out]; omega)).mono ?_
    rintro e w5 ⟨rfl, g5⟩
    rw [HN.out]
    go_wp2
    go_ret2
    exact ⟨ret_two (by rw [HVV.out]) rfl, (g1.trans (g2.mono g1.size)).trans (((Below.refl _ _).alloc (Nat.le_refl _) _ |>.trans (g5.mono (by simp))).mono (by have := g1.size; have := g2.size; omega))⟩

theorem pre_minus (l : List UInt8) : Lib.trimPrefix (45 :: l) [45] = l ∧ Lib.hasPrefix (45 :: l) [45] = true := by
  have h : Lib.hasPrefix (45 :: l) [45] = true := by simp [Lib.hasPrefix]
  exact ⟨by unfold Lib.trimPrefix; rw [h]; rfl, h⟩
theorem pre_none (c : UInt8) (l : List UInt8) (hc : c ≠ 45) : Lib.trimPrefix (c :: l) [45] = c :: l ∧ Lib.hasPrefix (c :: l) [45] = false := by
  have h : Lib.hasPrefix (c :: l) [45] = false := by
    unfold Lib.hasPrefix
    simp only [List.isPrefixOf, Bool.and_true]
    exact beq_eq_false_iff_ne.2 (Ne.symm hc)
  exact ⟨by unfold Lib.trimPrefix; rw [h]; rfl, h⟩

/-- pico.Read of digits and a unit -/
theorem read_plain (digs nm : ByteArray) (ps : Int) (w : World) (hL : LaidW w) (hu : UnitIs nm ps) (hd : isDigits digs.data.toList) (hd0 : digs.data.toList ≠ []) (hsz : digs.size ≤ 4611686018427387904) (hv : decVal digs.data.toList * ps ≤ 1152921504606846976) :
    Calls Tryz.prog 168 #[.string (digs ++ nm)] w fun e w' => e = .returned (.tuple #[.int .i64 (decVal digs.data.toList * ps), .int .i64 0]) ∧ Below w.heap.size w w' := by
  have hn := (unit_size hu).2
  have hpos : 0 < digs.size := by
    rcases Nat.eq_zero_or_pos digs.size with h | h
    · exact absurd (List.eq_nil_of_length_eq_zero (show digs.data.toList.length = 0 from h)) hd0
    · exact h
  match hdl : digs.data.toList, hd0 with
  | c :: r, _ =>
    have hcd := hd c (by rw [hdl]; simp)
    have hc : c ≠ 45 := by intro h; rw [h] at hcd; exact absurd hcd.1 (by decide)
    have e : (digs ++ nm).data.toList = c :: (r ++ nm.data.toList) := by rw [ByteArray.data_append, Array.toList_append, hdl, List.cons_append]
    obtain ⟨p1, p2⟩ := pre_none c (r ++ nm.data.toList) hc
    have h := read_walk (digs ++ nm) (digs ++ nm) digs nm false ps w hL (by rw [e]; exact p1) (by rw [e]; exact p2) hu rfl hd hpos (by rw [ByteArray.size_append]; omega) hv
    rw [hdl] at h
    exact h

/-- pico.Read of a sign, digits and a unit -/
theorem read_signed (s digs nm : ByteArray) (hs : s.data.toList = 45 :: digs.data.toList) (ps : Int) (w : World) (hL : LaidW w) (hu : UnitIs nm ps) (hd : isDigits digs.data.toList) (hd0 : digs.data.toList ≠ []) (hsz : digs.size ≤ 4611686018427387904) (hv : decVal digs.data.toList * ps ≤ 1152921504606846976) :
    Calls Tryz.prog 168 #[.string (s ++ nm)] w fun e w' => e = .returned (.tuple #[.int .i64 (-(decVal digs.data.toList * ps)), .int .i64 0]) ∧ Below w.heap.size w w' := by
  have hn := (unit_size hu).2
  have hpos : 0 < digs.size := by
    rcases Nat.eq_zero_or_pos digs.size with h | h
    · exact absurd (List.eq_nil_of_length_eq_zero (show digs.data.toList.length = 0 from h)) hd0
    · exact h
  have e : (s ++ nm).data.toList = 45 :: (digs ++ nm).data.toList := by rw [ByteArray.data_append, Array.toList_append, hs, ByteArray.data_append, Array.toList_append, List.cons_append]
  obtain ⟨p1, p2⟩ := pre_minus (digs ++ nm).data.toList
  exact read_walk (s ++ nm) (digs ++ nm) digs nm true ps w hL (by rw [e]; exact p1) (by rw [e]; exact p2) hu rfl hd hpos (by rw [ByteArray.size_append]; omega) hv

/-- pico.Read of what strconv writes of a number, and a unit -/
theorem read_itoa (n ps : Int) (nm : ByteArray) (w : World) (hL : LaidW w) (hu : UnitIs nm ps) (h1 : -1152921504606846976 ≤ n * ps) (h2 : n * ps ≤ 1152921504606846976) :
    Calls Tryz.prog 168 #[.string (⟨(Lib.itoa n).toArray⟩ ++ nm)] w fun e w' => e = .returned (.tuple #[.int .i64 (n * ps), .int .i64 0]) ∧ Below w.heap.size w w' := by
  have hp := (unit_size hu).1
  have key : n.natAbs ≤ 1152921504606846976 := by
    have e1 : (n * ps).natAbs = n.natAbs * ps.natAbs := Int.natAbs_mul n ps
    have e2 : n.natAbs * 1 ≤ n.natAbs * ps.natAbs := Nat.mul_le_mul_left _ (by omega)
    omega
  obtain ⟨d1, d2, d3⟩ := digits_dec n.natAbs
  have dl := decDigits_le n.natAbs
  by_cases hn : n < 0
  · have ei : Lib.itoa n = 45 :: Lib.decDigits n.natAbs := by unfold Lib.itoa; rw [if_pos hn]
    have ev : (n.natAbs : Int) * ps = -(n * ps) := by rw [show (n.natAbs : Int) = -n by omega, Int.neg_mul]
    have h := read_signed ⟨(Lib.itoa n).toArray⟩ ⟨(Lib.decDigits n.natAbs).toArray⟩ nm (by rw [ei]) ps w hL hu (by simpa using d1) (by simpa using d3) (by show (Lib.decDigits n.natAbs).toArray.size ≤ _; rw [List.size_toArray]; omega) (by
      show ((decVal (Lib.decDigits n.natAbs) : Nat) : Int) * ps ≤ _
      rw [d2, ev]; omega)
    refine h.mono ?_
    rintro e w' ⟨rfl, hb⟩
    refine ⟨ret_two ?_ rfl, hb⟩
    show -(((decVal (Lib.decDigits n.natAbs) : Nat) : Int) * ps) = _
    rw [d2, ev, Int.neg_neg]
  · have ei : Lib.itoa n = Lib.decDigits n.natAbs := by unfold Lib.itoa; rw [if_neg hn, show n.toNat = n.natAbs by omega]
    have ev : (n.natAbs : Int) * ps = n * ps := by rw [show (n.natAbs : Int) = n by omega]
    rw [ei]
    have h := read_plain ⟨(Lib.decDigits n.natAbs).toArray⟩ nm ps w hL hu (by simpa using d1) (by simpa using d3) (by show (Lib.decDigits n.natAbs).toArray.size ≤ _; rw [List.size_toArray]; omega) (by
      show ((decVal (Lib.decDigits n.natAbs) : Nat) : Int) * ps ≤ _
      rw [d2, ev]; omega)
    refine h.mono ?_
    rintro e w' ⟨rfl, hb⟩
    refine ⟨ret_two ?_ rfl, hb⟩
    show (((decVal (Lib.decDigits n.natAbs) : Nat) : Int) * ps) = _
    rw [d2, ev]

/-- pico.Read of 1m: no unit -/
theorem read_1m (w : World) (hL : LaidW w) : Calls Tryz.prog 168 #[.string ⟨#[49, 109]⟩] w fun e w' => e = .returned (.tuple #[.int .i64 0, .int .i64 4]) ∧ Below w.heap.size w w' := by
  have HL := hid hL
  clear hL
  go_enter Tryz.func168, Tryz.ntmps168
  go_wp2_with fail
  refine (cut_any ⟨#[49, 109]⟩ ⟨#[49, 109]⟩ false w (by decide) (by decide)).mono ?_
  rintro e w' ⟨rfl, rfl⟩
  go_wp2_with fail
  refine (trim_any ⟨#[49, 109]⟩ ⟨#[109]⟩ _ (by decide)).mono ?_
  rintro e w1 ⟨rfl, g1⟩
  go_wp2_with fail
  refine (unit_m w1 (HL.out.below g1)).mono ?_
  rintro e w2 ⟨rfl, g2⟩
  go_wp2
  go_ret2
  exact ⟨rfl, g1.trans (g2.mono g1.size)⟩

end Go.Proofs.YtpkoboohnbkpoaaGreatDoor

/-! LC -/
namespace Go.Proofs.YtpkoboohnbkpoaaGreatDoor
open Go Go.RowKit Go.Joins

theorem clone_any (s : ByteArray) (w : World) (hs : s.size ≤ 281474976710656) : Calls Tryz.prog 122 #[.string s] w fun e w' => e = .returned (.string s) ∧ Below w.heap.size w w' := by
  go_enter Tryz.func122, Tryz.ntmps122
  go_wp2_with (first | (go_at_call 148; refine (Tryz.stringslite_Clone s _ hs).mono ?_; rintro e w' ⟨rfl, hb⟩))
  go_ret
  exact ⟨rfl, hb⟩

theorem index_byte (c : UInt8) : decide (0 ≤ Lib.indexByte ([59, 123, 125] : List UInt8) c) = sgB c := by
  have key : ∀ n : Fin 256, decide (0 ≤ Lib.indexByte ([59, 123, 125] : List UInt8) (UInt8.ofNat n.val)) = sgB (UInt8.ofNat n.val) := by decide +kernel
  have := key ⟨c.toNat, c.toNat_lt⟩
  simpa using this

def signL (l : List UInt8) : Bool := match l with
  | [c] => sgB c
  | _ => false
theorem sign_any (s : ByteArray) (w : World) : Calls Tryz.prog 121 #[.string s] w fun e w' => e = .returned (.bool (signL s.data.toList)) ∧ w' = w := by
  by_cases h1 : s.size = 1
  · obtain ⟨c, rfl⟩ : ∃ c, s = ⟨#[c]⟩ := by
      have hl : s.data.toList.length = 1 := h1
      match hm : s.data.toList, hl with
      | [c], _ => exact ⟨c, by apply ByteArray.ext; apply Array.ext'; rw [hm]⟩
    have hc := Tryz.strings_Contains_one ⟨#[59, 123, 125]⟩ c
    have e : ∀ b, decide (0 ≤ Lib.indexByte (⟨#[59, 123, 125]⟩ : ByteArray).data.toList c) = b → signL (⟨#[c]⟩ : ByteArray).data.toList = b := fun b hb => by rw [← hb]; exact (index_byte c).symm
    generalize decide (0 ≤ Lib.indexByte (⟨#[59, 123, 125]⟩ : ByteArray).data.toList c) = b at *
    have HE := hid (e b rfl)
    have HC := hid hc
    clear e hc h1
    go_enter Tryz.func121, Tryz.ntmps121
    go_wp2_with (first | (go_at_call 147; refine (HC.out _).mono ?_; rintro e w' ⟨rfl, rfl⟩))
    go_ret
    exact ⟨ret_bool (by rw [HE.out]), rfl⟩
  · have hb : ((s.size : Int) == 1) = false := beq_eq_false_iff_ne.2 (by omega)
    have HE : Hid (signL s.data.toList = false) := hid (by
      have hl : s.data.toList.length ≠ 1 := h1
      match hm : s.data.toList with
      | [] => rfl
      | [c] => rw [hm] at hl; exact absurd rfl hl
      | _ :: _ :: _ => rfl)
    go_enter Tryz.func121, Tryz.ntmps121
    go_wp2
    go_ret
    exact ⟨ret_bool (by rw [HE.out]), rfl⟩

theorem broken_any (s : ByteArray) (w : World) (x : Nat) (hx : (dec s.data.toList).1 = x) : Calls Tryz.prog 87 #[.string s, .int .i32 x] w fun e w' => e = .returned (.bool (brok s.data.toList)) ∧ w' = w := by
  have hc := Tryz.strings_HasPrefix s ⟨#[239, 191, 189]⟩
  have e : brok s.data.toList = ((dec s.data.toList).1 == 65533 && !Lib.hasPrefix s.data.toList (⟨#[239, 191, 189]⟩ : ByteArray).data.toList) := rfl
  rw [hx] at e
  generalize Lib.hasPrefix s.data.toList (⟨#[239, 191, 189]⟩ : ByteArray).data.toList = b at *
  have HE := hid e
  have HC := hid hc
  clear e hc hx
  by_cases h : x = 65533
  · subst h
    go_enter Tryz.func87, Tryz.ntmps87
    go_wp2_with (first | (go_at_call 120; refine (HC.out _).mono ?_; rintro e w' ⟨rfl, rfl⟩))
    go_ret
    exact ⟨ret_bool (by rw [HE.out]; simp), rfl⟩
  · have hb : ((x : Int) == 65533) = false := beq_eq_false_iff_ne.2 (by omega)
    have hb2 : (x == 65533) = false := beq_eq_false_iff_ne.2 h
    rw [hb2] at HE
    go_enter Tryz.func87, Tryz.ntmps87
    go_wp2
    go_ret
    exact ⟨ret_bool (by rw [HE.out]; simp), rfl⟩

theorem unit_is {s : ByteArray} {ps : Int} (h : unitF s.data.toList = some ps) : UnitIs s ps := by
  have ext : ∀ a : ByteArray, s.data.toList = a.data.toList → s = a := fun a h => by apply ByteArray.ext; exact Array.ext' h
  have h : (if s.data.toList = [112, 115] then some 1 else if s.data.toList = [110, 115] then some 1000 else if s.data.toList = [117, 115] then some 1000000 else if s.data.toList = [109, 115] then some 1000000000 else if s.data.toList = [115] then some 1000000000000 else none) = some ps := h
  by_cases h1 : s.data.toList = [112, 115]
  · rw [if_pos h1] at h; cases h; exact .inl ⟨ext ⟨#[112, 115]⟩ h1, rfl⟩
  rw [if_neg h1] at h
  by_cases h2 : s.data.toList = [110, 115]
  · rw [if_pos h2] at h; cases h; exact .inr (.inl ⟨ext ⟨#[110, 115]⟩ h2, rfl⟩)
  rw [if_neg h2] at h
  by_cases h3 : s.data.toList = [117, 115]
  · rw [if_pos h3] at h; cases h; exact .inr (.inr (.inl ⟨ext ⟨#[117, 115]⟩ h3, rfl⟩))
  rw [if_neg h3] at h
  by_cases h4 : s.data.toList = [109, 115]
  · rw [if_pos h4] at h; cases h; exact .inr (.inr (.inr (.inl ⟨ext ⟨#[109, 115]⟩ h4, rfl⟩)))
  rw [if_neg h4] at h
  by_cases h5 : s.data.toList = [115]
  · rw [if_pos h5] at h; cases h; exact .inr (.inr (.inr (.inr ⟨ext ⟨#[115]⟩ h5, rfl⟩)))
  rw [if_neg h5] at h
  cases h
theorem unit_not {s : ByteArray} (h : unitF s.data.toList = none) : s.data.toList ≠ [112, 115] ∧ s.data.toList ≠ [110, 115] ∧ s.data.toList ≠ [117, 115] ∧ s.data.toList ≠ [109, 115] ∧ s.data.toList ≠ [115] := by
  have h : (if s.data.toList = [112, 115] then some 1 else if s.data.toList = [110, 115] then some 1000 else if s.data.toList = [117, 115] then some 1000000 else if s.data.toList = [109, 115] then some 1000000000 else if s.data.toList = [115] then some 1000000000000 else none) = (none : Option Int) := h
  refine ⟨fun e => ?_, fun e => ?_, fun e => ?_, fun e => ?_, fun e => ?_⟩ <;> (rw [e] at h; cases h)

set_option maxRecDepth 100000 in
theorem unit_none (s : ByteArray) (w : World) (hL : LaidW w) (h : unitF s.data.toList = none) : Calls Tryz.prog 151 #[.string s] w fun e w' => e = .returned (.tuple #[.int .i64 0, .bool false]) ∧ Below w.heap.size w w' := by
  obtain ⟨h1, h2, h3, h4, h5⟩ := unit_not h
  have k1 : (([112, 115] : List UInt8) == s.toList) = false := beq_eq_false_iff_ne.2 (by rw [ByteArray.toList_eq]; exact h1.symm)
  have k2 : (([110, 115] : List UInt8) == s.toList) = false := beq_eq_false_iff_ne.2 (by rw [ByteArray.toList_eq]; exact h2.symm)
  have k3 : (([117, 115] : List UInt8) == s.toList) = false := beq_eq_false_iff_ne.2 (by rw [ByteArray.toList_eq]; exact h3.symm)
  have k4 : (([109, 115] : List UInt8) == s.toList) = false := beq_eq_false_iff_ne.2 (by rw [ByteArray.toList_eq]; exact h4.symm)
  have k5 : (([115] : List UInt8) == s.toList) = false := beq_eq_false_iff_ne.2 (by rw [ByteArray.toList_eq]; exact h5.symm)
  clear h h1 h2 h3 h4 h5
  obtain ⟨c0, c1, c2, c3, c4, c5, c6, c7, c8, c9⟩ := hL.cells
  have hsz := hL.pos
  have hsz0 : 0 < w.heap.size := Nat.lt_of_le_of_lt (Nat.zero_le _) hsz
  clear hL
  have i0 := unit_at0
  have i1 := unit_at1
  have i2 := unit_at2
  have i3 := unit_at3
  have i4 := unit_at4
  go_enter Tryz.func151, Tryz.ntmps151
  go_wp2
  refine wp_loop_rounds 6 ?_
  rw [rounds_succ]
  go_wp2
  rw [rounds_succ]
  go_wp2
  rw [rounds_succ]
  go_wp2
  rw [rounds_succ]
  go_wp2
  rw [rounds_succ]
  go_wp2
  rw [rounds_succ]
  go_wp2
  go_ret2
  exact ⟨rfl, (((((Below.refl _ _).alloc (Nat.le_refl _) _).alloc (by simp) _).alloc (by simp; omega) _).alloc (by simp; omega) _).alloc (by simp; omega) _⟩
end Go.Proofs.YtpkoboohnbkpoaaGreatDoor

/-! LD -/
namespace Go.Proofs.YtpkoboohnbkpoaaGreatDoor
open Go Go.RowKit Go.Joins

def topB (v : Int) : Bool := decide (-1152921504606846976 ≤ v) && decide (v ≤ 1152921504606846976)
def timV (v : Int) : Int := if topB v then v else 0
def timE (v : Int) : Int := if topB v then 0 else 2

theorem mul_all (a b : Int) (w : World) (ha1 : -1152921504606846976 ≤ a) (ha2 : a ≤ 1152921504606846976) (hb1 : -1152921504606846976 ≤ b) (hb2 : b ≤ 1152921504606846976) :
    Calls Tryz.prog 181 #[.int .i64 a, .int .i64 b] w fun e w' => e = .returned (.tuple #[.int .i64 (timV (a * b)), .int .i64 (timE (a * b))]) ∧ Below w.heap.size w w' := by
  have hn : (a * b).natAbs = a.natAbs * b.natAbs := Int.natAbs_mul a b
  by_cases h : topB (a * b) = true
  · have h' : -1152921504606846976 ≤ a * b ∧ a * b ≤ 1152921504606846976 := by simpa [topB] using h
    rw [timV, timE, if_pos h, if_pos h]
    exact mul_ok a b w ha1 ha2 hb1 hb2 (div_low _ _ (by omega) (by omega) (by omega)) h'.1 h'.2
  · have h' : ¬ (-1152921504606846976 ≤ a * b ∧ a * b ≤ 1152921504606846976) := by simpa [topB] using h
    rw [timV, timE, if_neg h, if_neg h]
    have hbig : 1152921504606846976 < a.natAbs * b.natAbs := by omega
    have HS : Calls Tryz.prog 197 #[.int .i64 a, .int .i64 b, .int .i64 1] w fun e w' => e = .returned (.tuple #[.int .i64 0, .int .i64 0, .int .i64 2]) ∧ Below w.heap.size w w' := by
      rcases Nat.lt_or_ge (a.natAbs * b.natAbs) 18446744073709551616 with h2 | h2
      · exact scale_over a b 1 w ha1 ha2 hb1 hb2 (by omega) (by omega) (div_low _ _ h2 (by omega) (by omega)) (by rw [Nat.div_eq_of_lt h2]; omega) (by rw [Nat.div_one]; exact hbig)
      · exact scale_over_hi a b 1 w ha1 ha2 hb1 hb2 (by omega) (by omega) ((Nat.le_div_iff_mul_le (by omega)).2 (by omega))
    have HS := hid HS
    clear h h' hbig hn
    go_enter Tryz.func181, Tryz.ntmps181
    go_wp2_with fail
    refine HS.out.mono ?_
    rintro e w' ⟨rfl, hb⟩
    go_wp2
    go_ret2
    exact ⟨rfl, hb⟩

theorem sub_set : digitSet.data.toList = [48, 49, 50, 51, 52, 53, 54, 55, 56, 57] := rfl
theorem dig_set (c : UInt8) : ([48, 49, 50, 51, 52, 53, 54, 55, 56, 57] : List UInt8).contains c = digB c := by
  have key : ∀ n : Fin 256, ([48, 49, 50, 51, 52, 53, 54, 55, 56, 57] : List UInt8).contains (UInt8.ofNat n.val) = digB (UInt8.ofNat n.val) := by decide +kernel
  have := key ⟨c.toNat, c.toNat_lt⟩
  simpa using this
theorem trim_eq (l : List UInt8) : Lib.trimLeftS l digitSet.data.toList = l.dropWhile digB := by
  unfold Lib.trimLeftS
  rw [sub_set]
  congr 1
  funext c
  exact dig_set c
theorem size_eq (l : List UInt8) : Lib.trimPrefix l [45] = sizeF l ∧ Lib.hasPrefix l [45] = minusB l := by
  cases l with
  | nil => exact ⟨rfl, rfl⟩
  | cons c r =>
    by_cases h : c = 45
    · subst h; exact ⟨(pre_minus r).1, (pre_minus r).2⟩
    · refine ⟨by rw [(pre_none c r h).1, sizeF_cons, if_neg h], by rw [(pre_none c r h).2]; exact (beq_eq_false_iff_ne.2 h).symm⟩
theorem decV_eq (l : List UInt8) : decV l = decVal l := rfl
theorem digs_is (l : List UInt8) : isDigits (l.takeWhile digB) := fun c hc => by
  have := List.all_eq_true.1 (all_takeWhile digB l) c hc
  simpa [digB] using this
/-- so many digits tell less than that power of ten -/
theorem decV_lt (l : List UInt8) (h : isDigits l) : decV l < 10 ^ l.length := by
  have key : ∀ r : List UInt8, isDigits r.reverse → decV r.reverse < 10 ^ r.length := by
    intro r
    induction r with
    | nil => intro _; decide
    | cons c r ih =>
      intro h
      rw [List.reverse_cons] at h ⊢
      have h1 := ih fun d hd => h d (List.mem_append_left _ hd)
      have h2 := decVal_snoc r.reverse c
      have h3 := h c (by simp)
      rw [decV_eq] at h1 ⊢
      rw [h2, List.length_cons, Nat.pow_succ]
      omega
  have := key l.reverse (by rwa [List.reverse_reverse])
  rwa [List.reverse_reverse, List.length_reverse] at this
theorem decV_18 (l : List UInt8) (h : isDigits l) (hl : l.length ≤ 18) : decV l < 1000000000000000000 := by
  have h1 := decV_lt l h
  have h2 : 10 ^ l.length ≤ 10 ^ 18 := Nat.pow_le_pow_right (by omega) hl
  omega

set_option maxHeartbeats 400000 in
theorem read_gen (s rest digs nm : ByteArray) (minus : Bool) (ps v : Int) (w : World) (hL : LaidW w) (h1 : Lib.trimPrefix s.data.toList [45] = rest.data.toList) (h2 : Lib.hasPrefix s.data.toList [45] = minus)
    (hu : UnitIs nm ps) (hr : rest = digs ++ nm) (hT : Lib.trimLeftS rest.data.toList digitSet.data.toList = nm.data.toList) (hd : isDigits digs.data.toList) (hd0 : 0 < digs.size) (hsz : rest.size ≤ 9223372036854775807) (hv : decVal digs.data.toList < 1000000000000000000) (hvv : (if minus then -(decVal digs.data.toList : Int) else decVal digs.data.toList) = v) :
    Calls Tryz.prog 168 #[.string s] w fun e w' => e = .returned (.tuple #[.int .i64 (timV (v * ps)), .int .i64 (timE (v * ps))]) ∧ Below w.heap.size w w' := by
  have hsum : rest.size = digs.size + nm.size := by rw [hr, ByteArray.size_append]
  have hns : nm.size < rest.size := by omega
  have H1 := hid h1
  have H2 := hid h2
  have HR := hid hr
  have HT := hid hT
  have HS := hid hsum
  have HD := hid hd
  have HU := hid hu
  have HV := hid hv
  have HL := hid hL
  have HVV := hid hvv
  clear h1 h2 hr hT hsum hd hu hv hL hvv
  have hne : ((nm.size : Int) == (rest.size : Int)) = false := beq_eq_false_iff_ne.2 (by omega)
  go_enter Tryz.func168, Tryz.ntmps168
  go_wp2_with fail
  refine (cut_any s rest minus w H1.out H2.out).mono ?_
  rintro e w' ⟨rfl, rfl⟩
  go_wp2_with fail
  refine (trim_any rest nm _ HT.out).mono ?_
  rintro e w1 ⟨rfl, g1⟩
  go_wp2_with fail
  refine (unit_any HU.out w1 (HL.out.below g1)).mono ?_
  rintro e w2 ⟨rfl, g2⟩
  go_wp2_with fail
  have hex : rest.extract 0 (rest.size - nm.size) = digs := by
    rw [HR.out, ByteArray.size_append, Nat.add_sub_cancel]
    apply ByteArray.ext
    rw [ByteArray.data_extract, ByteArray.data_append]
    apply Array.ext'
    rw [Array.toList_extract, Array.toList_append]
    simp only [List.extract_eq_take_drop, Nat.sub_zero, List.drop_zero]
    exact List.take_left' rfl
  rw [hex]
  clear hex
  obtain ⟨hp1, hp2⟩ := unit_size HU.out
  have hp3 := unit_top HU.out
  have hv := HV.out
  have hds : digs.size ≤ 9223372036854775807 := by have := HS.out; omega
  refine (number_any digs w2 HD.out (by omega) hds).mono ?_
  rintro e w3 ⟨rfl, rfl⟩
  have hvv := HVV.out
  clear HVV
  generalize decVal digs.data.toList = u at *
  clear H1 H2 HR HT HS HD HV hns hne hsz hds
  have HM := hid (fun w => mul_all v ps w (by cases minus <;> simp at hvv <;> omega) (by cases minus <;> simp at hvv <;> omega) (by omega) (by omega))
  obtain ⟨X, hX⟩ : ∃ X, timV (v * ps) = X := ⟨_, rfl⟩
  obtain ⟨Y, hY⟩ : ∃ Y, timE (v * ps) = Y := ⟨_, rfl⟩
  rw [hX, hY] at HM
  have HX := hid hX
  have HY := hid hY
  clear hX hY
  cases minus
  · obtain rfl : (u : Int) = v := hvv
    go_wp2_with fail
    refine (may_1 _ _ (u : Int) true (timeB_yes (by omega) (by omega)) _ (by simp)).mono ?_
    rintro e w4 ⟨rfl, rfl⟩
    go_wp2_with fail
    refine (HM.out _).mono ?_
    rintro e w5 ⟨rfl, g5⟩
    go_wp2
    go_ret2
    exact ⟨ret_two HX.out.symm HY.out.symm, (g1.trans (g2.mono g1.size)).trans (((Below.refl _ _).alloc (Nat.le_refl _) _ |>.trans (g5.mono (by simp))).mono (by have := g1.size; have := g2.size; omega))⟩
  · obtain rfl : -(u : Int) = v := hvv
    go_wp2_with fail
    refine (may_1 _ _ (-(u : Int)) true (timeB_yes (by omega) (by omega)) _ (by simp)).mono ?_
    rintro e w4 ⟨rfl, rfl⟩
    go_wp2_with fail
    refine (HM.out _).mono ?_
    rintro e w5 ⟨rfl, g5⟩
    go_wp2
    go_ret2
    exact ⟨ret_two HX.out.symm HY.out.symm, (g1.trans (g2.mono g1.size)).trans (((Below.refl _ _).alloc (Nat.le_refl _) _ |>.trans (g5.mono (by simp))).mono (by have := g1.size; have := g2.size; omega))⟩
end Go.Proofs.YtpkoboohnbkpoaaGreatDoor

/-! LE -/
namespace Go.Proofs.YtpkoboohnbkpoaaGreatDoor
open Go Go.RowKit Go.Joins

def smallI (v : Int) : Bool := decide (-1000000000000000000 < v) && decide (v < 1000000000000000000)
theorem small_top {v : Int} (h : smallI v = true) : topB v = true := by
  simp only [smallI, topB, Bool.and_eq_true, decide_eq_true_eq] at h ⊢; omega

theorem parseM (M : Nat) : ∀ (l : List UInt8) (acc : Nat), isDigits l → M = 18446744073709551615 → l.foldl (fun n c => 10 * n + (c.toNat - 48)) acc < 1000000000000000000 → Lib.parseUintM M acc l = .ok (l.foldl (fun n c => 10 * n + (c.toNat - 48)) acc) := by
  intro l
  induction l with
  | nil => intro acc _ _ _; rfl
  | cons c r ih =>
    intro acc hd hM hv
    have hc := hd c (List.mem_cons_self ..)
    have hge : ∀ (r : List UInt8) (a : Nat), a ≤ r.foldl (fun n c => 10 * n + (c.toNat - 48)) a := by
      intro r
      induction r with
      | nil => intro a; exact Nat.le_refl _
      | cons d r ih => intro a; rw [List.foldl_cons]; exact Nat.le_trans (by omega) (ih _)
    rw [List.foldl_cons] at hv ⊢
    have h1 := hge r (10 * acc + (c.toNat - 48))
    rw [Lib.parseUintM, if_pos hc, if_neg (by omega), if_neg (by omega), show acc * 10 + (c.toNat - 48) = 10 * acc + (c.toNat - 48) by omega]
    exact ih _ (fun d hdm => hd d (List.mem_cons_of_mem _ hdm)) hM hv

theorem parse_num (p : List UInt8) (hne : sizeF p ≠ []) (hd : isDigits (sizeF p)) (hl : (sizeF p).length ≤ 18) : Lib.parseIntB 64 p = .ok (valF p) := by
  have htw : (sizeF p).takeWhile digB = sizeF p := takeWhile_all _ _ (List.all_eq_true.2 fun c hc => by have := hd c hc; simp [digB, this])
  have hv := decV_18 _ hd hl
  have hU : Lib.parseUintB 64 (sizeF p) = .ok (decV (sizeF p)) := by
    unfold Lib.parseUintB
    rw [if_neg hne]
    exact parseM _ _ 0 hd (by decide) hv
  unfold valF
  rw [htw]
  match p with
  | [] => exact absurd rfl hne
  | c :: r =>
    by_cases h : c = 45
    · subst h
      have e : sizeF (45 :: r) = r := by rw [sizeF_cons, if_pos rfl]
      rw [e] at hU hv ⊢
      rw [Lib.parseIntB_minus, hU]
      have : minusB (45 :: r) = true := rfl
      rw [this, Lib.signedC, if_neg (by omega), if_pos rfl]
    · have e : sizeF (c :: r) = c :: r := by rw [sizeF_cons, if_neg h]
      rw [e] at hU hv hd ⊢
      have hc := hd c (List.mem_cons_self ..)
      rw [Lib.parseIntB_plain _ _ _ (by omega) (by omega), hU]
      have : minusB (c :: r) = false := beq_eq_false_iff_ne.2 h
      rw [this, Lib.signlessC, if_neg (by omega)]
      rfl

def bA (l : List UInt8) : ByteArray := ⟨l.toArray⟩
theorem bA_data (s : ByteArray) : bA s.data.toList = s := by apply ByteArray.ext; simp [bA]
theorem bA_size (l : List UInt8) : (bA l).size = l.length := by simp [bA, ByteArray.size]
theorem bA_list (l : List UInt8) : (bA l).data.toList = l := rfl
theorem bA_app (a b : List UInt8) : bA (a ++ b) = bA a ++ bA b := by apply ByteArray.ext; rw [ByteArray.data_append]; apply Array.ext'; simp [bA]

theorem read_time (p : List UInt8) (ps : Int) (w : World) (hL : LaidW w) (hu : unitF ((sizeF p).dropWhile digB) = some ps) (hd : (sizeF p).takeWhile digB ≠ []) (h18 : ((sizeF p).takeWhile digB).length ≤ 18) (hsz : p.length ≤ 4611686018427387904) :
    Calls Tryz.prog 168 #[.string (bA p)] w fun e w' => e = .returned (.tuple #[.int .i64 (timV (valF p * ps)), .int .i64 (timE (valF p * ps))]) ∧ Below w.heap.size w w' := by
  have hdg := digs_is (sizeF p)
  have hsl : (sizeF p).length ≤ p.length := by
    cases p with
    | nil => exact Nat.le_refl _
    | cons c r => rw [sizeF_cons]; split <;> simp
  refine read_gen (bA p) (bA (sizeF p)) (bA ((sizeF p).takeWhile digB)) (bA ((sizeF p).dropWhile digB)) (minusB p) ps (valF p) w hL (size_eq p).1 (size_eq p).2 (unit_is hu) ?_ ?_ hdg ?_ ?_ ?_ rfl
  · rw [← bA_app, List.takeWhile_append_dropWhile]
  · exact trim_eq _
  · rw [bA_size]; exact List.length_pos_iff.2 hd
  · rw [bA_size]; omega
  · exact decV_18 _ hdg h18

theorem lread_time (p : List UInt8) (ps : Int) (w : World) (hL : LaidW w) (hu : unitF ((sizeF p).dropWhile digB) = some ps) (hd : (sizeF p).takeWhile digB ≠ []) (h18 : ((sizeF p).takeWhile digB).length ≤ 18) (hsz : p.length ≤ 4611686018427387904) :
    Calls Tryz.prog 152 #[.string (bA p), .bool true] w fun e w' => e = .returned (.tuple #[.int .i64 (timV (valF p * ps)), .bool (smallI (valF p * ps))]) ∧ Below w.heap.size w w' := by
  have HR := hid (read_time p ps w hL hu hd h18 hsz)
  clear hu hd h18 hsz hL
  generalize valF p * ps = v at *
  have HT := hid (show timE v = 0 → smallI (timV v) = smallI v from fun h => by
    unfold timE at h; unfold timV
    split at h
    · rename_i h1; rw [if_pos h1]
    · cases h)
  have HN := hid (show timE v ≠ 0 → smallI v = false from fun h => by
    unfold timE at h
    split at h
    · exact absurd rfl h
    · rename_i h1
      cases hs : smallI v with
      | false => rfl
      | true => exact absurd (small_top hs) h1)
  have hS := fun w => small_any (timV v) w
  have e : (decide (-1000000000000000000 < timV v) && decide (timV v < 1000000000000000000)) = smallI (timV v) := rfl
  rw [e] at hS
  clear e
  generalize timV v = X at *
  generalize timE v = Y at *
  generalize smallI v = B at *
  generalize smallI X = C at *
  have HS := hid hS
  clear hS
  by_cases h : Y = 0
  · have hb := HT.out h
    subst h
    subst hb
    clear HT HN
    go_enter Tryz.func152, Tryz.ntmps152
    go_wp2_with (first
      | (go_at_call 168; refine HR.out.mono ?_; rintro e w1 ⟨rfl, g1⟩)
      | (go_at_call 160; refine (HS.out _).mono ?_; rintro e w2 ⟨rfl, rfl⟩))
    go_ret2
    exact ⟨by simp, g1⟩
  · have hb := HN.out h
    subst hb
    clear HT HN
    have hy : (Y == 0) = false := beq_eq_false_iff_ne.2 h
    go_enter Tryz.func152, Tryz.ntmps152
    go_wp2_with (first
      | (go_at_call 168; refine HR.out.mono ?_; rintro e w1 ⟨rfl, g1⟩)
      | (go_at_call 160; refine (HS.out _).mono ?_; rintro e w2 ⟨rfl, rfl⟩))
    go_ret2
    exact ⟨by simp, g1⟩

theorem lread_num (p : List UInt8) (w : World) (hne : sizeF p ≠ []) (hd : isDigits (sizeF p)) (hl : (sizeF p).length ≤ 18) (hsz : p.length ≤ 4611686018427387904) :
    Calls Tryz.prog 152 #[.string (bA p), .bool false] w fun e w' => e = .returned (.tuple #[.int .i64 (valF p), .bool true]) ∧ Below w.heap.size w w' := by
  have HP := hid (fun w => Tryz.strconv_ParseInt_10_at64_ok (bA p) (by rw [bA_size]; omega) (valF p) (parse_num p hne hd hl) w)
  clear hne hd hl hsz
  generalize valF p = v at *
  go_enter Tryz.func152, Tryz.ntmps152
  go_wp2_with (first
    | (go_at_call 169; refine (HP.out _).mono ?_; rintro e w1 ⟨rfl, hw⟩; have g1 : Below w.heap.size w w1 := (by rcases hw with rfl | ⟨t, rfl⟩ <;> first | exact Below.refl _ _ | exact Lib.bytesWorld_below _ _ _); clear hw))
  go_quiet (fail)
  go_wp2_with fail
  go_ret2
  exact ⟨rfl, bel_drewN g1 _⟩

/-- what a piece is told to be -/
def tokR (r : Except Nat Tk) : Value := match r with
  | .ok t => .tuple #[tkV t, .int .i64 0]
  | .error e => .tuple #[tkV ⟨0, [], 0, false⟩, .int .i64 (e : Int)]

theorem trimp_any (s rest : ByteArray) (w : World) (h1 : Lib.trimPrefix s.data.toList [45] = rest.data.toList) :
    Calls Tryz.prog 149 #[.string s, .string ⟨#[45]⟩] w fun e w' => e = .returned (.string rest) ∧ w' = w := by
  refine (Tryz.strings_TrimPrefix s ⟨#[45]⟩ w).mono ?_
  rintro e w' ⟨rfl, rfl⟩
  have e1 : Lib.trimPrefix s.data.toList (#[45] : Array UInt8).toList = rest.data.toList := h1
  refine ⟨?_, rfl⟩
  show Ending.returned (.string ⟨(Lib.trimPrefix s.data.toList (#[45] : Array UInt8).toList).toArray⟩) = _
  rw [e1, Array.toArray_toList]

theorem ne_emp {l : List UInt8} (h : ¬ l = []) : l.isEmpty = false := by cases l with
  | nil => exact absurd rfl h
  | cons _ _ => rfl
set_option maxRecDepth 100000 in
theorem lnum_any (p : List UInt8) (w : World) (hL : LaidW w) (hsz : p.length ≤ 140737488355328) :
    Calls Tryz.prog 124 #[.string (bA p)] w fun e w' => e = .returned (tokR (numF p)) ∧ Below w.heap.size w w' := by
  obtain ⟨u, hu⟩ : ∃ u, (sizeF p).dropWhile digB = u := ⟨_, rfl⟩
  obtain ⟨d, hd⟩ : ∃ d, (sizeF p).takeWhile digB = d := ⟨_, rfl⟩
  obtain ⟨z, hz⟩ : ∃ z, sizeF p = z := ⟨_, rfl⟩
  have hcat : d ++ u = z := by rw [← hd, ← hu, hz]; exact List.takeWhile_append_dropWhile
  have hzl : z.length ≤ p.length := by
    rw [← hz]
    cases p with
    | nil => exact Nat.le_refl _
    | cons c r => rw [sizeF_cons]; split <;> simp
  have hlen : (z.length : Int) - (u.length : Int) = (d.length : Int) := by rw [← hcat, List.length_append]; omega
  have HT := hid (fun w => trimp_any (bA p) (bA z) w (by rw [← hz]; exact (size_eq p).1))
  have HU := hid (fun w => trim_any (bA z) (bA u) w (by rw [← hu, ← hz]; exact trim_eq _))
  have hsu := bA_size u
  have hsz2 := bA_size z
  have h1 : Hid (numF p = (if d = [] ∨ (u ≠ [] ∧ unitF u = none) then .error 4 else if 18 < d.length then .error 6 else match unitF u with
    | some ps => if -1000000000000000000 < valF p * ps ∧ valF p * ps < 1000000000000000000 then .ok ⟨2, p, valF p * ps, true⟩ else .error 2
    | none => .ok ⟨2, p, valF p, false⟩)) := hid (by subst hu; subst hd; rfl)
  have HL := hid hL
  have HR := hid (fun (hne : d ≠ []) (h18 : d.length ≤ 18) (ps : Int) (hups : unitF u = some ps) w hL => lread_time p ps w hL (by rw [hu]; exact hups) (by rw [hd]; exact hne) (by rw [hd]; exact h18) (by omega))
  have HQ := hid (fun (hne : d ≠ []) (h18 : d.length ≤ 18) (hu0 : u = []) w => lread_num p w (by rw [hz, ← hcat, hu0, List.append_nil]; exact hne) (by have := digs_is (sizeF p); rw [hd] at this; rw [hz, ← hcat, hu0, List.append_nil]; exact this) (by rw [hz, ← hcat, hu0, List.append_nil]; exact h18) (by omega))
  have HCl := hid (fun w => clone_any (bA p) w (by rw [bA_size]; omega))
  have hue : u = [] ↔ (bA u).toList = [] := by rw [ByteArray.toList_eq]; rfl
  have hN : ∃ (kv : Int) (bt : Bool), (∀ w, LaidW w → Calls Tryz.prog 151 #[.string (bA u)] w fun e w' => e = .returned (.tuple #[.int .i64 kv, .bool bt]) ∧ Below w.heap.size w w') ∧ (bt = true ↔ unitF u ≠ none) := by
    cases hus : unitF u with
    | none => exact ⟨0, false, fun w hL => unit_none (bA u) w hL hus, by simp⟩
    | some ps => exact ⟨ps, true, fun w hL => unit_any (unit_is hus) w hL, by simp⟩
  obtain ⟨kv, bt, hN, hbt⟩ := hN
  have HN := hid hN
  have HB : Hid ((bA z).size ≤ 140737488355328 ∧ (bA u).size ≤ (bA z).size) := hid (by rw [hsu, hsz2]; exact ⟨by omega, by rw [← hcat, List.length_append]; omega⟩)
  have HB : Hid ((bA z).size ≤ 140737488355328 ∧ (bA u).size ≤ (bA z).size) := hid (by rw [hsu, hsz2]; exact ⟨by omega, by rw [← hcat, List.length_append]; omega⟩)
  clear hN hL hsz hzl
  rw [hz, hu, hd] at *
  generalize hm1 : (bA z).size = m1 at *
  generalize hm2 : (bA u).size = m2 at *
  have hb1 : m1 ≤ 140737488355328 := HB.out.1
  have hb2 : m2 ≤ m1 := HB.out.2
  clear HB
  have hb1 : m1 ≤ 140737488355328 := HB.out.1
  have hb2 : m2 ≤ m1 := HB.out.2
  clear HB
  have hz0 : Hid (z.length = m1) := hid hsz2.symm
  have hu0 : Hid (u.length = m2) := hid hsu.symm
  clear hsu hsz2 hcat hu hd hz
  by_cases hA : d = []
  · rw [if_pos (.inl hA)] at h1
    have hmm : ((m1 : Int) - m2 == 0) = true := beq_iff_eq.2 (by have := hz0.out; have := hu0.out; rw [hA] at hlen; simp at hlen; omega)
    clear hz0 hu0 hlen hA HR HQ HCl hbt hue
    go_enter Tryz.func124, Tryz.ntmps124
    go_wp2_with (first
      | (refine Sh.wp_sv tkS (x := ⟨0, [], 0, false⟩) rfl (.tmp 2) (.tmp 36) rfl rfl (by rfl) q3 ?_; intro w9 q9 b9 o9 _)
      | (go_at_call 151; refine (HN.out _ (HL.out.below (b1.trans (g2.mono b1.size)))).mono ?_; rintro e w3 ⟨rfl, g3⟩; have q3 := q2.keep g3; have B3 : Hid (Below w.heap.size w w3) := hid ((b1.trans (g2.mono b1.size)).trans (g3.mono (Nat.le_trans b1.size g2.size))); clear q1 q2 g2 g3 b1)
      | (go_at_call 150; refine (HU.out _).mono ?_; rintro e w2 ⟨rfl, g2⟩; have q2 := q1.keep g2)
      | (go_at_call 149; refine (HT.out _).mono ?_; rintro e w' ⟨rfl, rfl⟩)
      | (refine Sh.wp_al tkS rfl rfl ?_; intro w1 q1 b1 s1; clear s1))
    exact bodyPost_ret (results_t1 Tryz.results124 _ rfl q9) rfl ⟨by rw [h1.out]; rfl, B3.out.trans (b9.mono (Nat.le_refl _))⟩
  have hmm : ((m1 : Int) - m2 == 0) = false := beq_eq_false_iff_ne.2 (by have := hz0.out; have := hu0.out; have := List.length_pos_iff.2 hA; omega)
  by_cases hB : u ≠ [] ∧ unitF u = none
  · rw [if_pos (.inr hB)] at h1
    have hue1 : (bA u).toList.isEmpty = false := ne_emp fun h => hB.1 (hue.2 h)
    obtain rfl : bt = false := by
      cases bt with
      | false => rfl
      | true => exact absurd hB.2 (hbt.1 rfl)
    clear hz0 hu0 hlen hA HR HQ HCl hbt hue hB
    go_enter Tryz.func124, Tryz.ntmps124
    go_wp2_with (first
      | (refine Sh.wp_sv tkS (x := ⟨0, [], 0, false⟩) rfl (.tmp 2) (.tmp 36) rfl rfl (by rfl) q3 ?_; intro w9 q9 b9 o9 _)
      | (go_at_call 151; refine (HN.out _ (HL.out.below (b1.trans (g2.mono b1.size)))).mono ?_; rintro e w3 ⟨rfl, g3⟩; have q3 := q2.keep g3; have B3 : Hid (Below w.heap.size w w3) := hid ((b1.trans (g2.mono b1.size)).trans (g3.mono (Nat.le_trans b1.size g2.size))); clear q1 q2 g2 g3 b1)
      | (go_at_call 150; refine (HU.out _).mono ?_; rintro e w2 ⟨rfl, g2⟩; have q2 := q1.keep g2)
      | (go_at_call 149; refine (HT.out _).mono ?_; rintro e w' ⟨rfl, rfl⟩)
      | (refine Sh.wp_al tkS rfl rfl ?_; intro w1 q1 b1 s1; clear s1))
    exact bodyPost_ret (results_t1 Tryz.results124 _ rfl q9) rfl ⟨by rw [h1.out]; rfl, B3.out.trans (b9.mono (Nat.le_refl _))⟩
  rw [if_neg (by intro h; rcases h with h | h; exact hA h; exact hB h)] at h1
  have hBt : (bA u).toList.isEmpty = true ∨ ((bA u).toList.isEmpty = false ∧ bt = true) := by
    by_cases hu1 : u = []
    · exact .inl (List.isEmpty_iff.2 (hue.1 hu1))
    · refine .inr ⟨ne_emp fun h => hu1 (hue.2 h), hbt.2 fun h => hB ⟨hu1, h⟩⟩
  by_cases hC : 18 < d.length
  · rw [if_pos hC] at h1
    have h18 : 18 < (m1 : Int) - m2 := by have := hz0.out; have := hu0.out; omega
    clear hz0 hu0 hlen hA HR HQ HCl hbt hue hB hC
    rcases hBt with hue1 | ⟨hue1, rfl⟩
    · go_enter Tryz.func124, Tryz.ntmps124
      go_wp2_with (first
        | (refine Sh.wp_sv tkS (x := ⟨0, [], 0, false⟩) rfl (.tmp 2) (.tmp 40) rfl rfl (by rfl) q3 ?_; intro w9 q9 b9 o9 _)
        | (go_at_call 151; refine (HN.out _ (HL.out.below (b1.trans (g2.mono b1.size)))).mono ?_; rintro e w3 ⟨rfl, g3⟩; have q3 := q2.keep g3; have B3 : Hid (Below w.heap.size w w3) := hid ((b1.trans (g2.mono b1.size)).trans (g3.mono (Nat.le_trans b1.size g2.size))); clear q1 q2 g2 g3 b1)
        | (go_at_call 150; refine (HU.out _).mono ?_; rintro e w2 ⟨rfl, g2⟩; have q2 := q1.keep g2)
        | (go_at_call 149; refine (HT.out _).mono ?_; rintro e w' ⟨rfl, rfl⟩)
        | (refine Sh.wp_al tkS rfl rfl ?_; intro w1 q1 b1 s1; clear s1))
      exact bodyPost_ret (results_t1 Tryz.results124 _ rfl q9) rfl ⟨by rw [h1.out]; rfl, B3.out.trans (b9.mono (Nat.le_refl _))⟩
    · go_enter Tryz.func124, Tryz.ntmps124
      go_wp2_with (first
        | (refine Sh.wp_sv tkS (x := ⟨0, [], 0, false⟩) rfl (.tmp 2) (.tmp 40) rfl rfl (by rfl) q3 ?_; intro w9 q9 b9 o9 _)
        | (go_at_call 151; refine (HN.out _ (HL.out.below (b1.trans (g2.mono b1.size)))).mono ?_; rintro e w3 ⟨rfl, g3⟩; have q3 := q2.keep g3; have B3 : Hid (Below w.heap.size w w3) := hid ((b1.trans (g2.mono b1.size)).trans (g3.mono (Nat.le_trans b1.size g2.size))); clear q1 q2 g2 g3 b1)
        | (go_at_call 150; refine (HU.out _).mono ?_; rintro e w2 ⟨rfl, g2⟩; have q2 := q1.keep g2)
        | (go_at_call 149; refine (HT.out _).mono ?_; rintro e w' ⟨rfl, rfl⟩)
        | (refine Sh.wp_al tkS rfl rfl ?_; intro w1 q1 b1 s1; clear s1))
      exact bodyPost_ret (results_t1 Tryz.results124 _ rfl q9) rfl ⟨by rw [h1.out]; rfl, B3.out.trans (b9.mono (Nat.le_refl _))⟩
  rw [if_neg hC] at h1
  have h18 : ¬ 18 < (m1 : Int) - m2 := by have := hz0.out; have := hu0.out; omega
  cases hus : unitF u with
  | none =>
    have hu1 : u = [] := Classical.byContradiction fun h => hB ⟨h, hus⟩
    rw [hus] at h1 hbt
    obtain rfl : bt = false := by
      cases bt with
      | false => rfl
      | true => exact absurd rfl (hbt.1 rfl)
    have hue1 := List.isEmpty_iff.2 (hue.1 hu1)
    have HRD := hid (fun w (_ : LaidW w) => HQ.out hA (by omega) hu1 w)
    clear hz0 hu0 hlen hA HR HQ hbt hue hB hC hBt hus hu1
    have h1 : Hid (numF p = .ok ⟨2, p, valF p, false⟩) := h1
    generalize valF p = v at *
    go_enter Tryz.func124, Tryz.ntmps124
    go_wp2_with (first
      | (refine Sh.wp_sv tkS (x := ⟨2, p, v, false⟩) rfl (.tmp 2) (.tmp 54) rfl rfl (by rfl) q5 ?_; intro w9 q9 b9 o9 _)
      | (go_at_call 122; refine (HCl.out _).mono ?_; rintro e w5 ⟨rfl, g5⟩; have q5 := q4.keep g5; have B5 : Hid (Below w.heap.size w w5) := hid (B4.out.trans (g5.mono B4.out.size)); clear q4 g5)
      | (go_at_call 152; refine (HRD.out _ (HL.out.below B3.out)).mono ?_; rintro e w4 ⟨rfl, g4⟩; have q4 := q3.keep g4; have B4 : Hid (Below w.heap.size w w4) := hid (B3.out.trans (g4.mono B3.out.size)); clear q3 g4)
      | (go_at_call 151; refine (HN.out _ (HL.out.below (b1.trans (g2.mono b1.size)))).mono ?_; rintro e w3 ⟨rfl, g3⟩; have q3 := q2.keep g3; have B3 : Hid (Below w.heap.size w w3) := hid ((b1.trans (g2.mono b1.size)).trans (g3.mono (Nat.le_trans b1.size g2.size))); clear q1 q2 g2 g3 b1)
      | (go_at_call 150; refine (HU.out _).mono ?_; rintro e w2 ⟨rfl, g2⟩; have q2 := q1.keep g2)
      | (go_at_call 149; refine (HT.out _).mono ?_; rintro e w' ⟨rfl, rfl⟩)
      | (refine Sh.wp_al tkS rfl rfl ?_; intro w1 q1 b1 s1; clear s1))
    exact bodyPost_ret (results_t1 Tryz.results124 _ rfl q9) rfl ⟨by rw [h1.out]; rfl, B5.out.trans (b9.mono (Nat.le_refl _))⟩
  | some ps =>
    have hu1 : u ≠ [] := fun h => by rw [h] at hus; cases hus
    have hue1 : (bA u).toList.isEmpty = false := ne_emp fun h => hu1 (hue.2 h)
    obtain rfl : bt = true := hbt.2 (by rw [hus]; simp)
    have HRD := hid (HR.out hA (by omega) ps hus)
    rw [hus] at h1
    clear hz0 hu0 hlen hA HR HQ hbt hue hB hC hBt hus hu1
    have h1 : Hid (numF p = if -1000000000000000000 < valF p * ps ∧ valF p * ps < 1000000000000000000 then .ok ⟨2, p, valF p * ps, true⟩ else .error 2) := h1
    generalize valF p * ps = v at *
    by_cases hs : smallI v = true
    · have hs' : -1000000000000000000 < v ∧ v < 1000000000000000000 := by simpa [smallI] using hs
      rw [if_pos hs'] at h1
      have ht : timV v = v := by unfold timV; rw [if_pos (small_top hs)]
      rw [hs, ht] at HRD
      clear hs hs' ht
      go_enter Tryz.func124, Tryz.ntmps124
      go_wp2_with (first
        | (refine Sh.wp_sv tkS (x := ⟨2, p, v, true⟩) rfl (.tmp 2) (.tmp 54) rfl rfl (by rfl) q5 ?_; intro w9 q9 b9 o9 _)
        | (go_at_call 122; refine (HCl.out _).mono ?_; rintro e w5 ⟨rfl, g5⟩; have q5 := q4.keep g5; have B5 : Hid (Below w.heap.size w w5) := hid (B4.out.trans (g5.mono B4.out.size)); clear q4 g5)
        | (go_at_call 152; refine (HRD.out _ (HL.out.below B3.out)).mono ?_; rintro e w4 ⟨rfl, g4⟩; have q4 := q3.keep g4; have B4 : Hid (Below w.heap.size w w4) := hid (B3.out.trans (g4.mono B3.out.size)); clear q3 g4)
        | (go_at_call 151; refine (HN.out _ (HL.out.below (b1.trans (g2.mono b1.size)))).mono ?_; rintro e w3 ⟨rfl, g3⟩; have q3 := q2.keep g3; have B3 : Hid (Below w.heap.size w w3) := hid ((b1.trans (g2.mono b1.size)).trans (g3.mono (Nat.le_trans b1.size g2.size))); clear q1 q2 g2 g3 b1)
        | (go_at_call 150; refine (HU.out _).mono ?_; rintro e w2 ⟨rfl, g2⟩; have q2 := q1.keep g2)
        | (go_at_call 149; refine (HT.out _).mono ?_; rintro e w' ⟨rfl, rfl⟩)
        | (refine Sh.wp_al tkS rfl rfl ?_; intro w1 q1 b1 s1; clear s1))
      exact bodyPost_ret (results_t1 Tryz.results124 _ rfl q9) rfl ⟨by rw [h1.out]; rfl, B5.out.trans (b9.mono (Nat.le_refl _))⟩
    · have hs' : ¬ (-1000000000000000000 < v ∧ v < 1000000000000000000) := by simpa [smallI] using hs
      rw [if_neg hs'] at h1
      have hs : smallI v = false := by simpa using hs
      rw [hs] at HRD
      clear hs hs'
      generalize timV v = v2 at *
      go_enter Tryz.func124, Tryz.ntmps124
      go_wp2_with (first
        | (refine Sh.wp_sv tkS (x := ⟨0, [], 0, false⟩) rfl (.tmp 2) (.tmp 49) rfl rfl (by rfl) q4 ?_; intro w9 q9 b9 o9 _)
        | (go_at_call 122; refine (HCl.out _).mono ?_; rintro e w5 ⟨rfl, g5⟩; have q5 := q4.keep g5; have B5 : Hid (Below w.heap.size w w5) := hid (B4.out.trans (g5.mono B4.out.size)); clear q4 g5)
        | (go_at_call 152; refine (HRD.out _ (HL.out.below B3.out)).mono ?_; rintro e w4 ⟨rfl, g4⟩; have q4 := q3.keep g4; have B4 : Hid (Below w.heap.size w w4) := hid (B3.out.trans (g4.mono B3.out.size)); clear q3 g4)
        | (go_at_call 151; refine (HN.out _ (HL.out.below (b1.trans (g2.mono b1.size)))).mono ?_; rintro e w3 ⟨rfl, g3⟩; have q3 := q2.keep g3; have B3 : Hid (Below w.heap.size w w3) := hid ((b1.trans (g2.mono b1.size)).trans (g3.mono (Nat.le_trans b1.size g2.size))); clear q1 q2 g2 g3 b1)
        | (go_at_call 150; refine (HU.out _).mono ?_; rintro e w2 ⟨rfl, g2⟩; have q2 := q1.keep g2)
        | (go_at_call 149; refine (HT.out _).mono ?_; rintro e w' ⟨rfl, rfl⟩)
        | (refine Sh.wp_al tkS rfl rfl ?_; intro w1 q1 b1 s1; clear s1))
      exact bodyPost_ret (results_t1 Tryz.results124 _ rfl q9) rfl ⟨by rw [h1.out]; rfl, B4.out.trans (b9.mono (Nat.le_refl _))⟩
end Go.Proofs.YtpkoboohnbkpoaaGreatDoor
