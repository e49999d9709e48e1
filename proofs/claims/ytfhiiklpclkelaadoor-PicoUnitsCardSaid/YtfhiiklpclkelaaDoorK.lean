/-
  The walk of the statement PicoUnits: it returns true at every input of its types; under: the tables hold what the program lays (LaidW).
-/
import Derived.Test.YtfhiiklpclkelaaDoorI
namespace Go.Proofs.YtfhiiklpclkelaaDoor
open Go Go.RowKit Go.Joins

def nmOf : Nat → ByteArray
  | 0 => ⟨#[112, 115]⟩ | 1 => ⟨#[110, 115]⟩ | 2 => ⟨#[117, 115]⟩ | 3 => ⟨#[109, 115]⟩ | _ => ⟨#[115]⟩
def psOf : Nat → Int
  | 0 => 1 | 1 => 1000 | 2 => 1000000 | 3 => 1000000000 | _ => 1000000000000
def lastOf : Nat → Int
  | 0 => 0 | k + 1 => psOf k
theorem unitOf (k : Nat) : UnitIs (nmOf k) (psOf k) := by
  match k with
  | 0 => exact .inl ⟨rfl, rfl⟩
  | 1 => exact .inr (.inl ⟨rfl, rfl⟩)
  | 2 => exact .inr (.inr (.inl ⟨rfl, rfl⟩))
  | 3 => exact .inr (.inr (.inr (.inl ⟨rfl, rfl⟩)))
  | _ + 4 => exact .inr (.inr (.inr (.inr ⟨rfl, rfl⟩)))
theorem psStep (k : Nat) (h : k < 4) : psOf (k + 1) = 1000 * psOf k := by
  match k, h with
  | 0, _ => rfl
  | 1, _ => rfl
  | 2, _ => rfl
  | 3, _ => rfl

theorem lastFacts (k : Nat) (h : k < 5) : 0 ≤ lastOf k ∧ lastOf k ≤ 1000000000 ∧ (k ≠ 0 → psOf k = 1000 * lastOf k) := by
  match k, h with
  | 0, _ => exact ⟨by decide, by decide, fun h => absurd rfl h⟩
  | 1, _ => exact ⟨by decide, by decide, fun _ => rfl⟩
  | 2, _ => exact ⟨by decide, by decide, fun _ => rfl⟩
  | 3, _ => exact ⟨by decide, by decide, fun _ => rfl⟩
  | 4, _ => exact ⟨by decide, by decide, fun _ => rfl⟩
theorem unit_size1 {nm : ByteArray} {ps : Int} (h : UnitIs nm ps) : 1 ≤ nm.size := by
  rcases h with ⟨rfl, rfl⟩ | ⟨rfl, rfl⟩ | ⟨rfl, rfl⟩ | ⟨rfl, rfl⟩ | ⟨rfl, rfl⟩ <;> decide
def TextPost (w : World) (e : Ending) (w' : World) : Prop := ∃ s : ByteArray, e = .returned (.tuple #[.string s, .int .i64 0]) ∧ 2 ≤ s.size ∧ Below w.heap.size w w'
theorem text_small (n : Int) (w : World) (hL : LaidW w) (h1 : -1152921504606846976 ≤ n) (h2 : n ≤ 1152921504606846976) : Calls Tryd.prog 20 #[.int .i64 n] w (TextPost w) := by
  obtain ⟨nm, ps, hu, hp, hG⟩ := greatest_some n
  refine (text_ok n ps nm w hL h1 h2 (unit_size hu).1 (unit_size hu).2 hG).mono ?_
  rintro e w' ⟨rfl, hb⟩
  refine ⟨_, rfl, ?_, hb⟩
  rw [ByteArray.size_append]
  have h3 := unit_size1 hu
  have h4 : 1 ≤ (⟨(Lib.itoa (n.tdiv ps)).toArray⟩ : ByteArray).size := by
    show 1 ≤ (Lib.itoa (n.tdiv ps)).toArray.size
    rw [List.size_toArray]
    unfold Lib.itoa
    split
    · simp
    · exact List.length_pos_iff.2 (digits_dec _).2.2
  omega

theorem read_one {nm : ByteArray} {ps : Int} (hu : UnitIs nm ps) (w : World) (hL : LaidW w) : Calls Tryd.prog 21 #[.string (⟨#[49]⟩ ++ nm)] w fun e w' => e = .returned (.tuple #[.int .i64 ps, .int .i64 0]) ∧ Below w.heap.size w w' := by
  have h2 := unit_top hu
  have e1 : ((decVal [49] : Nat) : Int) * ps = ps := by rw [show decVal [49] = 1 from by decide]; omega
  refine (read_plain ⟨#[49]⟩ nm ps w hL hu (by intro c hc; simp at hc; subst hc; decide) (by simp) (by decide) (by show ((decVal [49] : Nat) : Int) * ps ≤ _; rw [e1]; omega)).mono ?_
  rintro e w' ⟨rfl, hb⟩
  exact ⟨ret_two e1 rfl, hb⟩

def zeros : ByteArray := ⟨#[48, 48, 48, 48, 48, 48, 48, 48, 48, 48]⟩
def manyD (m : Nat) : ByteArray := zeros.extract 0 m ++ (⟨#[50, 53]⟩ : ByteArray)
def manyOk (D : ByteArray) : Bool := (D.data.toList.all fun c => decide (48 ≤ c.toNat) && decide (c.toNat ≤ 57)) && (decide (decVal D.data.toList = 25) && (!D.data.toList.isEmpty && decide (D.size ≤ 100)))
theorem many_ok : ∀ m : Nat, m < 11 → manyOk (manyD m) = true := by decide +kernel
theorem many_facts (D : ByteArray) (h : manyOk D = true) : isDigits D.data.toList ∧ decVal D.data.toList = 25 ∧ D.data.toList ≠ [] ∧ D.size ≤ 100 := by
  unfold manyOk at h
  simp only [Bool.and_eq_true, decide_eq_true_eq, List.all_eq_true, Bool.not_eq_true', List.isEmpty_eq_false_iff] at h
  exact ⟨h.1, h.2.1, h.2.2.1, h.2.2.2⟩
theorem read_many' {nm : ByteArray} {ps : Int} (hu : UnitIs nm ps) (D : ByteArray) (hD : manyOk D = true) (w : World) (hL : LaidW w) :
    Calls Tryd.prog 21 #[.string (D ++ nm)] w fun e w' => e = .returned (.tuple #[.int .i64 (25 * ps), .int .i64 0]) ∧ Below w.heap.size w w' := by
  obtain ⟨h1, h2, h3, h4⟩ := many_facts D hD
  have hp := unit_top hu
  refine (read_plain D nm ps w hL hu h1 h3 (by omega) (by rw [h2]; omega)).mono ?_
  rintro e w' ⟨rfl, hb⟩
  exact ⟨ret_two (by rw [h2]; rfl) rfl, hb⟩
theorem read_many {nm : ByteArray} {ps : Int} (hu : UnitIs nm ps) (m : Nat) (hm : m ≤ 10) (w : World) (hL : LaidW w) :
    Calls Tryd.prog 21 #[.string ((⟨#[48, 48, 48, 48, 48, 48, 48, 48, 48, 48]⟩ : ByteArray).extract 0 m ++ (⟨#[50, 53]⟩ : ByteArray) ++ nm)] w fun e w' => e = .returned (.tuple #[.int .i64 (25 * ps), .int .i64 0]) ∧ Below w.heap.size w w' :=
  read_many' hu (manyD m) (many_ok m (by omega)) w hL

def SliceIs (B : Nat) (W : World) : Prop := ∀ k, k < 5 → W.cell? ⟨B, k, none⟩ = some (.string (nmOf k))
theorem SliceIs.below {B : Nat} {W W' : World} (h : SliceIs B W) (hB : B < W.heap.size) (hb : Below W.heap.size W W') : SliceIs B W' := fun k hk => by
  rw [hb.cell (p := ⟨B, k, none⟩) hB]; exact h k hk

set_option maxRecDepth 100000 in
set_option maxHeartbeats 400000 in
theorem units_walk (n z : Int) (w : World) (hL : LaidW w) (hn1 : -2147483648 ≤ n) (hn2 : n ≤ 2147483647) (hz1 : 0 ≤ z) (hz2 : z ≤ 255) :
    Calls Tryd.prog 7 #[.int .i32 n, .int .u8 z] w fun e w' => e = .returned (.bool true) ∧ Below w.heap.size w w' := by
  have HL := hid hL
  clear hL
  go_enter Tryd.func7, Tryd.ntmps7
  go_wp2_with fail
  refine (live_any w HL.out).mono ?_
  rintro e w1 ⟨rfl, g1⟩
  go_wp2_with fail
  go_loopw [6, 24] (fun last i W => ∃ k : Nat, k ≤ 5 ∧ i = .int .i64 k ∧ last = .int .i64 (lastOf k) ∧ SliceIs w1.heap.size W ∧ Below w.heap.size w W ∧ w1.heap.size < W.heap.size) (fun _ i _ => 5 - (intOf i).toNat)
  case atStart =>
    refine ⟨0, by omega, rfl, rfl, ?_, g1.alloc g1.size _, by simp⟩
    intro k hk
    match k, hk with
    | 0, _ => simp [nmOf]
    | 1, _ => simp [nmOf]
    | 2, _ => simp [nmOf]
    | 3, _ => simp [nmOf]
    | 4, _ => simp [nmOf]
  case round =>
    obtain ⟨k, hk, rfl, rfl, hS, hb, hB⟩ := hrel
    by_cases hlt : k < 5
    · have hc := hS k hlt
      have HS := hid hS
      have HU := hid (unitOf k)
      have HLast := hid (lastFacts k hlt)
      have HNext : Hid (lastOf (k + 1) = psOf k) := hid rfl
      clear hS
      generalize hnm : nmOf k = nm at *
      generalize hps : psOf k = ps at *
      generalize hla : lastOf k = la at *
      clear hnm hps hla
      obtain ⟨hp1, hnm2⟩ := unit_size HU.out
      have hp2 := unit_top HU.out
      obtain ⟨hl1, hl2, hl3⟩ := HLast.out
      have HL3 := hid hl3
      clear hl3
      have hnm3 := unit_size1 HU.out
      go_wp2_with fail
      refine (unit_any HU.out wr (HL.out.below hb)).mono ?_
      rintro e w2 ⟨rfl, g2⟩
      have hb2 : Below w.heap.size w w2 := hb.trans (g2.mono hb.size)
      by_cases hk0 : k = 0
      · have hkf : ¬ 0 < k := by omega
        have HK := hid hk0
        clear hk0
        go_wp2_with fail
        refine (text_small n w2 (HL.out.below hb2) (by omega) (by omega)).mono ?_
        rintro e w3 ⟨sx, rfl, hsx, g3⟩
        go_wp2_with fail
        refine (read_one HU.out w3 (HL.out.below (hb2.trans (g3.mono hb2.size)))).mono ?_
        rintro e w4 ⟨rfl, g4⟩
        have hb4 : Below w.heap.size w w4 := (hb2.trans (g3.mono hb2.size)).trans (g4.mono (by have := hb2.size; have := g3.size; omega))
        go_wp2_with fail
        refine (read_many HU.out (z % 11).toNat (by omega) w4 (HL.out.below hb4)).mono ?_
        rintro e w5 ⟨rfl, g5⟩
        have hb5 : Below w.heap.size w w5 := hb4.trans (g5.mono hb4.size)
        have G5 : Hid (Below wr.heap.size wr w5) := hid (((g2.trans (g3.mono g2.size)).trans (g4.mono (by have := g2.size; have := g3.size; omega))).trans (g5.mono (by have := g2.size; have := g3.size; have := g4.size; omega)))
        go_wp2
        exact ⟨⟨k + 1, by omega, by go_num, by rw [HNext.out], HS.out.below hB G5.out, hb5, Nat.lt_of_lt_of_le hB G5.out.size⟩, by simp [intOf]; omega⟩
      · have hkf : 0 < k := by omega
        have hne : (ps != 1000 * la) = false := by rw [HL3.out hk0]; simp
        clear hk0
        go_wp2_with fail
        refine (text_small n w2 (HL.out.below hb2) (by omega) (by omega)).mono ?_
        rintro e w3 ⟨sx, rfl, hsx, g3⟩
        go_wp2_with fail
        refine (read_one HU.out w3 (HL.out.below (hb2.trans (g3.mono hb2.size)))).mono ?_
        rintro e w4 ⟨rfl, g4⟩
        have hb4 : Below w.heap.size w w4 := (hb2.trans (g3.mono hb2.size)).trans (g4.mono (by have := hb2.size; have := g3.size; omega))
        go_wp2_with fail
        refine (read_many HU.out (z % 11).toNat (by omega) w4 (HL.out.below hb4)).mono ?_
        rintro e w5 ⟨rfl, g5⟩
        have hb5 : Below w.heap.size w w5 := hb4.trans (g5.mono hb4.size)
        have G5 : Hid (Below wr.heap.size wr w5) := hid (((g2.trans (g3.mono g2.size)).trans (g4.mono (by have := g2.size; have := g3.size; omega))).trans (g5.mono (by have := g2.size; have := g3.size; have := g4.size; omega)))
        go_wp2
        exact ⟨⟨k + 1, by omega, by go_num, by rw [HNext.out], HS.out.below hB G5.out, hb5, Nat.lt_of_lt_of_le hB G5.out.size⟩, by simp [intOf]; omega⟩
    · clear hS
      go_wp2_with fail
      refine (read_1m wr (HL.out.below hb)).mono ?_
      rintro e w2 ⟨rfl, g2⟩
      go_wp2
      go_ret
      exact ⟨ret_bool rfl, hb.trans (g2.mono hb.size)⟩
end Go.Proofs.YtfhiiklpclkelaaDoor
