/-
  Contracts of pico.Text (every number) and of the law functions' live: the text of a time is its number of the greatest unit and that unit; under: the tables hold what the program lays (LaidW).
-/
import Derived.Test.YtfdieablcffdkaaGreatDoorC
import Derived.Lib.QuietBelow
import Derived.IntWalk
import Derived.Lib.AppendIntMem
import Derived.Shelf.Strconv.Itoa4
namespace Go.Proofs.YtfdieablcffdkaaGreatDoor
open Go Go.RowKit Go.Joins

theorem fmt_any (n : Int) (w : World) (hL : LaidW w) (h0 : -9223372036854775808 ≤ n) (h1 : n ≤ 9223372036854775807) :
    Calls Tryz.prog 34 #[.int .i64 n, .int .i64 10] w fun e w' => e = .returned (.string ⟨(Lib.itoa n).toArray⟩) ∧ Below w.heap.size w w' := by
  refine (Tryz.strconv_FormatInt_10 n h0 h1 w hL.pow).mono ?_
  rintro e w' ⟨rfl, k, os, rfl⟩
  exact ⟨rfl, Lib.below_grow _ _ (Nat.le_refl _) _ _⟩

theorem tdiv_range (t ps : Int) (h1 : -1152921504606846976 ≤ t) (h2 : t ≤ 1152921504606846976) : -1152921504606846976 ≤ t.tdiv ps ∧ t.tdiv ps ≤ 1152921504606846976 := by
  have h := Int.natAbs_tdiv t ps
  have h' : t.natAbs / ps.natAbs ≤ t.natAbs := Nat.div_le_self _ _
  have h3 : (t.tdiv ps).natAbs ≤ t.natAbs := by rw [h]; exact h'
  omega

theorem decDigits_le (u : Nat) : (Lib.decDigits u).length ≤ u + 1 := by
  induction u using Nat.strongRecOn with
  | ind u ih =>
    unfold Lib.decDigits
    split
    · simp
    · have := ih (u / 10) (by omega)
      simp only [List.length_append, List.length_cons, List.length_nil]
      omega
theorem itoa_le (n : Int) : (Lib.itoa n).length ≤ n.natAbs + 2 := by
  unfold Lib.itoa
  split
  · have := decDigits_le n.natAbs
    simp only [List.length_cons]; omega
  · have := decDigits_le n.toNat
    omega

def GreatestSaid (t : Int) (nm : ByteArray) (ps : Int) : Prop := ∀ w : World, LaidW w → Calls Tryz.prog 49 #[.int .i64 t] w fun e w' => e = .returned (.agg #[.string nm, .int .i64 ps]) ∧ Below w.heap.size w w'

set_option maxRecDepth 100000 in
theorem text_ok (t ps : Int) (nm : ByteArray) (w : World) (hL : LaidW w) (h1 : -1152921504606846976 ≤ t) (h2 : t ≤ 1152921504606846976) (hp1 : 0 < ps) (hnm : nm.size ≤ 2) (hG : GreatestSaid t nm ps) :
    Calls Tryz.prog 35 #[.int .i64 t] w fun e w' => e = .returned (.tuple #[.string (⟨(Lib.itoa (t.tdiv ps)).toArray⟩ ++ nm), .int .i64 0]) ∧ Below w.heap.size w w' := by
  go_enter Tryz.func35, Tryz.ntmps35
  go_wp2_with fail
  refine (may_1 _ _ t true (timeB_yes h1 h2) _ (by simp)).mono ?_
  rintro e w' ⟨rfl, rfl⟩
  go_wp2_with fail
  refine (hG _ (hL.below ((Below.refl _ _).alloc (Nat.le_refl _) _))).mono ?_
  rintro e w1 ⟨rfl, hb⟩
  go_wp2_with fail
  have hLW : LaidW (w1.alloc (Obj.cells #[Value.string nm, Value.int IntKind.i64 ps] 77)) := ((hL.below ((Below.refl _ _).alloc (Nat.le_refl _) _)).below hb).below ((Below.refl _ _).alloc (Nat.le_refl _) _)
  have hc0 : (w1.alloc (Obj.cells #[Value.string nm, Value.int IntKind.i64 ps] 77)).cell? ⟨w1.heap.size, 0, none⟩ = some (.string nm) := by simp
  have hc1 : (w1.alloc (Obj.cells #[Value.string nm, Value.int IntKind.i64 ps] 77)).cell? ⟨w1.heap.size, 1, none⟩ = some (.int .i64 ps) := by simp
  have hB : w1.heap.size < (w1.alloc (Obj.cells #[Value.string nm, Value.int IntKind.i64 ps] 77)).heap.size := by simp
  have HbW : Hid (Below w.heap.size w (w1.alloc (Obj.cells #[Value.string nm, Value.int IntKind.i64 ps] 77))) := hid ((((Below.refl _ _).alloc (Nat.le_refl _) _).trans (hb.mono (by simp))).alloc (by have := hb.size; simp at this; omega) _)
  have hdiv : IntKind.i64.wrap (t.tdiv ps) = t.tdiv ps := IntWalk.i64_quo' t ps ⟨by omega, by omega, by omega⟩
  have HD := hid hdiv
  clear hdiv
  have hlo : -9223372036854775808 ≤ t.tdiv ps ∧ t.tdiv ps ≤ 9223372036854775807 := by have := tdiv_range t ps h1 h2; omega
  have hnz : ¬ ps = 0 := by omega
  clear hb
  generalize w1.alloc (Obj.cells #[Value.string nm, Value.int IntKind.i64 ps] 77) = W at *
  generalize w1.heap.size = B at *
  have k0 := cell_regrown hc0
  have k1 := cell_regrown hc1
  have cF : ∀ d os, Calls Tryz.prog 34 #[.int .i64 (IntKind.i64.wrap (t.tdiv ps)), .int .i64 10] (Sort.grow (redrawn W d) os) fun e w'' => e = .returned (.string ⟨(Lib.itoa (t.tdiv ps)).toArray⟩) ∧ ∃ p : Regrown, w'' = Sort.grow (redrawn W p.d) p.os := fun d os => by
    rw [HD.out]
    exact Calls.regrown_of (fmt_any _ _ (hLW.below (below_regrown W d os)) hlo.1 hlo.2)
  have hlen := itoa_le (t.tdiv ps)
  have hrng := tdiv_range t ps h1 h2
  have n1 : ¬ 9223372036854775807 < (⟨(Lib.itoa (t.tdiv ps)).toArray⟩ : ByteArray).size + nm.size := by simp only [ByteArray.size, List.size_toArray] at hnm ⊢; omega
  clear hlo hLW hlen hrng hL
  generalize hsx : (⟨(Lib.itoa (t.tdiv ps)).toArray⟩ : ByteArray) = sx at *
  have HS := hid hsx
  clear hsx
  refine wp_region_quiet_below (by kernel_rfl) (by kernel_rfl) ?_
  repeat (quiet_step (exact cF _ _))
  refine wpQuiet_nil ?_
  intro _ hw'
  obtain ⟨⟨dq, osq⟩, hw''⟩ := hw'
  subst hw''
  go_wp2
  refine bodyPost_ret (v := .tuple #[.string (sx ++ nm), .int .i64 0]) (by simp [results, Tryz.results35, go_sem]) rfl ⟨by rw [HS.out], HbW.out.trans (below_regrown W dq osq |>.mono HbW.out.size)⟩

theorem text_no (t : Int) (w : World) (h : t < -1152921504606846976 ∨ 1152921504606846976 < t) :
    Calls Tryz.prog 35 #[.int .i64 t] w fun e w' => e = .returned (.tuple #[.string ⟨#[]⟩, .int .i64 1]) ∧ Below w.heap.size w w' := by
  have H := hid h
  clear h
  go_enter Tryz.func35, Tryz.ntmps35
  go_wp2_with fail
  refine (may_1 _ _ t false (timeB_no H.out) _ (by simp)).mono ?_
  rintro e w' ⟨rfl, rfl⟩
  go_wp2
  go_ret2
  exact ⟨rfl, (Below.refl _ _).alloc (Nat.le_refl _) _⟩

/-- the five units -/
def UnitIs (nm : ByteArray) (ps : Int) : Prop :=
  (nm = ⟨#[112, 115]⟩ ∧ ps = 1) ∨ (nm = ⟨#[110, 115]⟩ ∧ ps = 1000) ∨ (nm = ⟨#[117, 115]⟩ ∧ ps = 1000000) ∨ (nm = ⟨#[109, 115]⟩ ∧ ps = 1000000000) ∨ (nm = ⟨#[115]⟩ ∧ ps = 1000000000000)

theorem tm (t : Int) (p : Int) (h : t.tmod p = 0) : (t.tmod p == 0) = true := by simp [h]
theorem tmn (t : Int) (p : Int) (h : ¬ t.tmod p = 0) : (t.tmod p == 0) = false := by simp [h]
theorem tmod_dvd {t p : Int} (h : t.tmod p = 0) : p ∣ t := Int.dvd_of_tmod_eq_zero h
theorem dvd_tmod {t p : Int} (h : p ∣ t) : t.tmod p = 0 := Int.tmod_eq_zero_of_dvd h

theorem greatest_some (t : Int) : ∃ nm ps, UnitIs nm ps ∧ t.tdiv ps * ps = t ∧ GreatestSaid t nm ps := by
  by_cases h0 : t = 0
  · subst h0
    exact ⟨_, _, .inl ⟨rfl, rfl⟩, by decide, fun w hL => greatest_zero w hL⟩
  have hz : (t != 0) = true := by simp [h0]
  by_cases h1 : t.tmod 1000 = 0
  · by_cases h2 : t.tmod 1000000 = 0
    · by_cases h3 : t.tmod 1000000000 = 0
      · by_cases h4 : t.tmod 1000000000000 = 0
        · exact ⟨_, _, .inr (.inr (.inr (.inr ⟨rfl, rfl⟩))), by have := Int.tdiv_mul_cancel (tmod_dvd h4); exact this, fun w hL => greatest_4 t w hL hz (tm _ _ h1) (tm _ _ h2) (tm _ _ h3) (tm _ _ h4)⟩
        · exact ⟨_, _, .inr (.inr (.inr (.inl ⟨rfl, rfl⟩))), by have := Int.tdiv_mul_cancel (tmod_dvd h3); exact this, fun w hL => greatest_3 t w hL hz (tm _ _ h1) (tm _ _ h2) (tm _ _ h3) (tmn _ _ h4)⟩
      · have h4 : ¬ t.tmod 1000000000000 = 0 := fun h => h3 (dvd_tmod (Int.dvd_trans ⟨1000, by decide⟩ (tmod_dvd h)))
        exact ⟨_, _, .inr (.inr (.inl ⟨rfl, rfl⟩)), by have := Int.tdiv_mul_cancel (tmod_dvd h2); exact this, fun w hL => greatest_2 t w hL hz (tm _ _ h1) (tm _ _ h2) (tmn _ _ h3) (tmn _ _ h4)⟩
    · have h3 : ¬ t.tmod 1000000000 = 0 := fun h => h2 (dvd_tmod (Int.dvd_trans ⟨1000, by decide⟩ (tmod_dvd h)))
      have h4 : ¬ t.tmod 1000000000000 = 0 := fun h => h2 (dvd_tmod (Int.dvd_trans ⟨1000000, by decide⟩ (tmod_dvd h)))
      exact ⟨_, _, .inr (.inl ⟨rfl, rfl⟩), by have := Int.tdiv_mul_cancel (tmod_dvd h1); exact this, fun w hL => greatest_1 t w hL hz (tm _ _ h1) (tmn _ _ h2) (tmn _ _ h3) (tmn _ _ h4)⟩
  · have h2 : ¬ t.tmod 1000000 = 0 := fun h => h1 (dvd_tmod (Int.dvd_trans ⟨1000, by decide⟩ (tmod_dvd h)))
    have h3 : ¬ t.tmod 1000000000 = 0 := fun h => h1 (dvd_tmod (Int.dvd_trans ⟨1000000, by decide⟩ (tmod_dvd h)))
    have h4 : ¬ t.tmod 1000000000000 = 0 := fun h => h1 (dvd_tmod (Int.dvd_trans ⟨1000000000, by decide⟩ (tmod_dvd h)))
    exact ⟨_, _, .inl ⟨rfl, rfl⟩, by simp, fun w hL => greatest_0 t w hL hz (tmn _ _ h1) (tmn _ _ h2) (tmn _ _ h3) (tmn _ _ h4)⟩

theorem unit_size {nm : ByteArray} {ps : Int} (h : UnitIs nm ps) : 0 < ps ∧ nm.size ≤ 2 := by
  rcases h with ⟨rfl, rfl⟩ | ⟨rfl, rfl⟩ | ⟨rfl, rfl⟩ | ⟨rfl, rfl⟩ | ⟨rfl, rfl⟩ <;> decide

theorem text_5000 (w : World) (hL : LaidW w) : Calls Tryz.prog 35 #[.int .i64 5000] w fun e w' => e = .returned (.tuple #[.string ⟨#[53, 110, 115]⟩, .int .i64 0]) ∧ Below w.heap.size w w' := by
  have hs : (⟨(Lib.itoa ((5000 : Int).tdiv 1000)).toArray⟩ ++ ⟨#[110, 115]⟩ : ByteArray) = ⟨#[53, 110, 115]⟩ := by decide +kernel
  refine (text_ok 5000 1000 ⟨#[110, 115]⟩ w hL (by omega) (by omega) (by omega) (by decide) (fun w hL => greatest_1 5000 w hL rfl rfl rfl rfl rfl)).mono ?_
  rintro e w' ⟨rfl, hb⟩
  exact ⟨by rw [hs], hb⟩

theorem div_low (p d : Nat) (h : p < 18446744073709551616) (hd : 1 ≤ d) (hd2 : d < 18446744073709551616) : DivSaid p d := fun w => by
  have e1 : p / 18446744073709551616 = 0 := Nat.div_eq_of_lt h
  have e2 : p % 18446744073709551616 = p := Nat.mod_eq_of_lt h
  rw [e1, e2]
  exact div64_low p d w h hd hd2

end Go.Proofs.YtfdieablcffdkaaGreatDoor
