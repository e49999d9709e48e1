/-
  Texts Oc of this seat, as far as they are used.
-/
import Derived.Test.YtlgedfljmgedfaaGreatJ2
import Derived.Test.YtlgedfljmgedfaaGreatJ3
import Derived.Laws.BitsAllLaws
import Derived.Lib.ItoaNum
import Derived.Below
import Derived.Maps.AppendAt
import Derived.OwnWalk
import Derived.Laws.OwnMore
import Derived.Deep.MidRow
namespace Go.Proofs.YtlgedfljmgedfaaGreat.O6
open Go Go.RowKit

theorem shift_of (y : Nat) (h2 : 2 ≤ y) (h4 : y ≤ 1152921504606846976) : ∃ s, 3 ≤ s ∧ s ≤ 62 ∧ s + Lib.bitLen y = 64 ∧ 9223372036854775808 ≤ y * 2 ^ s ∧ y * 2 ^ s < 18446744073709551616 := by
  obtain ⟨b1, b2, b3⟩ := Lib.bitLenAux_bounds 64 y (by omega) (by omega)
  have b4 : Lib.bitLen y ≤ 61 := Lib.bitLen_le y 61 (by omega) (by omega)
  have hb : Lib.bitLenAux 64 y = Lib.bitLen y := rfl
  rw [hb] at b1 b2 b3
  have b5 : 2 ≤ Lib.bitLen y := by
    rcases Nat.lt_or_ge (Lib.bitLen y) 2 with h | h
    · have : Lib.bitLen y = 1 := by omega
      rw [this] at b3
      omega
    · exact h
  generalize Lib.bitLen y = b at *
  refine ⟨64 - b, by omega, by omega, by omega, ?_, ?_⟩
  · have e : (9223372036854775808 : Nat) = 2 ^ (b - 1) * 2 ^ (64 - b) := by rw [← Nat.pow_add, show b - 1 + (64 - b) = 63 by omega]
    rw [e]
    exact Nat.mul_le_mul_right _ b2
  · have e : (18446744073709551616 : Nat) = 2 ^ b * 2 ^ (64 - b) := by rw [← Nat.pow_add, show b + (64 - b) = 64 by omega]
    rw [e]
    exact Nat.mul_lt_mul_of_pos_right b3 (Nat.two_pow_pos _)

theorem lz_said (y s : Nat) (hy : y < 18446744073709551616) (hs : s + Lib.bitLen y = 64) : LzSaid (y : Int) s := fun w => by
  refine (Tryz.bits_LeadingZeros64 y w (by omega) (by omega)).mono ?_
  rintro e w' ⟨rfl, rfl⟩
  exact ⟨ret_int (by rw [Int.toNat_natCast]; omega), rfl⟩

/-- the low word, shifted: what goes over, and what stays -/
theorem low_parts (lo s : Nat) (hs : s ≤ 64) : lo * 2 ^ s = lo / 2 ^ (64 - s) * 18446744073709551616 + lo * 2 ^ s % 18446744073709551616 := by
  have e : (18446744073709551616 : Nat) = 2 ^ (64 - s) * 2 ^ s := by rw [← Nat.pow_add, show 64 - s + s = 64 by omega]
  have d : lo * 2 ^ s / 18446744073709551616 = lo / 2 ^ (64 - s) := by rw [e, Nat.mul_div_mul_right _ _ (Nat.two_pow_pos _)]
  have := Nat.div_add_mod (lo * 2 ^ s) 18446744073709551616
  rw [d] at this
  omega
theorem low_lt (lo s : Nat) (hs : s ≤ 64) (h : lo < 18446744073709551616) : lo / 2 ^ (64 - s) < 2 ^ s := by
  have e : (18446744073709551616 : Nat) = 2 ^ (64 - s) * 2 ^ s := by rw [← Nat.pow_add, show 64 - s + s = 64 by omega]
  exact Nat.div_lt_of_lt_mul (by rw [← e]; exact h)

theorem cast_shl (a s : Nat) : ((a : Int) * 2 ^ s) = ((a * 2 ^ s : Nat) : Int) := by rw [Int.natCast_mul, Int.natCast_pow]; rfl
theorem cast_shr (a s : Nat) : ((a : Int) / 2 ^ s) = ((a / 2 ^ s : Nat) : Int) := by rw [Int.natCast_ediv, Int.natCast_pow]; rfl

set_option maxRecDepth 10000 in
theorem div_high (p d : Nat) (h0 : 0 < p / 18446744073709551616) (hlt : p / 18446744073709551616 < d) (hd : d ≤ 1152921504606846976) : DivSaid p d := fun w => by
  obtain ⟨s, s1, s2, s3, y1, y2⟩ := shift_of d (by omega) hd
  have hlo : p % 18446744073709551616 < 18446744073709551616 := Nat.mod_lt _ (by decide)
  have hp := Nat.div_add_mod p 18446744073709551616
  generalize p / 18446744073709551616 = hi at *
  generalize p % 18446744073709551616 = lo at *
  have k0 : 0 < 2 ^ s := Nat.two_pow_pos s
  have lp := low_parts lo s (by omega)
  have ll := low_lt lo s (by omega) hlo
  have hH : hi * 2 ^ s + 2 ^ s ≤ d * 2 ^ s := by
    have := Nat.mul_le_mul_right (2 ^ s) (show hi + 1 ≤ d by omega)
    rwa [Nat.add_mul, Nat.one_mul] at this
  have hHL : hi * 2 ^ s + lo / 2 ^ (64 - s) < d * 2 ^ s := by omega
  have hHb : hi * 2 ^ s < 18446744073709551616 := by omega
  have hLb : lo / 2 ^ (64 - s) < 18446744073709551616 := by omega
  have hMb : lo * 2 ^ s % 18446744073709551616 < 18446744073709551616 := Nat.mod_lt _ (by decide)
  have hor : (hi * 2 ^ s) ||| (lo / 2 ^ (64 - s)) = hi * 2 ^ s + lo / 2 ^ (64 - s) := nat_join s _ _ (Nat.mul_mod_left _ _) ll
  have hN : p * 2 ^ s = (hi * 2 ^ s + lo / 2 ^ (64 - s)) * 18446744073709551616 + lo * 2 ^ s % 18446744073709551616 := by
    rw [← hp, Nat.add_mul, Nat.add_mul, Nat.mul_assoc, Nat.mul_comm 18446744073709551616]
    omega
  have hw := div64_walk (hi : Int) (lo : Int) (d : Int) ((d * 2 ^ s : Nat) : Int) ((d * 2 ^ s / 4294967296 : Nat) : Int) ((d * 2 ^ s % 4294967296 : Nat) : Int) ((hi * 2 ^ s : Nat) : Int) ((lo / 2 ^ (64 - s) : Nat) : Int) ((hi * 2 ^ s + lo / 2 ^ (64 - s) : Nat) : Int)
    ((lo * 2 ^ s % 18446744073709551616 : Nat) : Int) ((lo * 2 ^ s % 18446744073709551616 / 4294967296 : Nat) : Int) ((lo * 2 ^ s % 18446744073709551616 % 4294967296 : Nat) : Int) s w (by omega) (by omega) (by omega) (by omega) (by omega) s1 s2 (lz_said d s (by omega) s3)
    (by rw [cast_shl]; exact Go.Proofs.Mul64.wrapN _ y2) (by rw [Int.natCast_ediv]; rfl) (Go.Proofs.Mul64.maskN _ y2) (by rw [cast_shl]; exact Go.Proofs.Mul64.wrapN _ hHb) (cast_shr _ _) (by rw [bits_or_u64_nat _ _ hHb hLb, hor]) (by rw [cast_shl]; exact Go.Proofs.Mul64.wrapM _)
    (by rw [Int.natCast_ediv]; rfl) (Go.Proofs.Mul64.maskN _ hMb)
    (by omega) (by omega) (by omega) (by omega) (by omega) (by omega) (by omega) (by omega)
    ⟨by omega, by omega, by omega, by omega, by omega, by omega, by omega, by omega, by omega⟩ (by omega) (by omega)
  refine hw.mono ?_
  rintro e w' ⟨rfl, rfl⟩
  generalize hYY : d * 2 ^ s = Y at *
  generalize hUU : hi * 2 ^ s + lo / 2 ^ (64 - s) = U at *
  generalize lo * 2 ^ s % 18446744073709551616 = M at *
  have fin := dwhole (N := (p : Int)) (y := (d : Int)) (U := (U : Int)) (un1 := ((M / 4294967296 : Nat) : Int)) (un0 := ((M % 4294967296 : Nat) : Int)) (Y := (Y : Int)) (k := ((2 ^ s : Nat) : Int)) (by omega) (by omega)
    (by rw [← Int.natCast_mul, hYY]) (by
      rw [← Int.natCast_mul, hN]
      omega) rfl rfl rfl rfl
  refine ⟨ret_two ?_ ?_, Below.refl _ _⟩
  · rw [fin.1, Int.natCast_ediv]
  · rw [show ((2 : Int) ^ s) = ((2 ^ s : Nat) : Int) by rw [Int.natCast_pow]; rfl, fin.2, Int.natCast_emod]

theorem div_low (p d : Nat) (h : p < 18446744073709551616) (hd : 1 ≤ d) (hd2 : d < 18446744073709551616) : DivSaid p d := fun w => by
  have e1 : p / 18446744073709551616 = 0 := Nat.div_eq_of_lt h
  have e2 : p % 18446744073709551616 = p := Nat.mod_eq_of_lt h
  rw [e1, e2]
  exact div64_low p d w h hd hd2


theorem div_any (p d : Nat) (hd0 : 1 ≤ d) (hlt : p / 18446744073709551616 < d) (hd : d ≤ 1152921504606846976) : DivSaid p d := by
  by_cases h : p / 18446744073709551616 = 0
  · exact div_low p d (by omega) hd0 (by omega)
  · exact div_high p d (by omega) hlt hd
end Go.Proofs.YtlgedfljmgedfaaGreat.O6
namespace Go.Proofs.YtlgedfljmgedfaaGreat.O6
open Go Go.RowKit

theorem hi_of_quo (a b d : Int) (hd1 : 1 ≤ d) (h1 : -1152921504606846976 ≤ a * b / d) (h2 : a * b / d ≤ 1152921504606846976) : a.natAbs * b.natAbs / 18446744073709551616 < d.toNat := by
  obtain ⟨n, rfl⟩ := Int.eq_ofNat_of_zero_le (show 0 ≤ d by omega)
  rw [Int.toNat_natCast]
  have key : a.natAbs * b.natAbs / n ≤ 1152921504606846976 := by
    by_cases hs : (a < 0 ↔ b < 0)
    · rw [same_mul a b hs, ← Int.natCast_ediv] at h2
      generalize a.natAbs * b.natAbs / n = q at *
      omega
    · rw [opp_mul a b hs] at h1
      by_cases hr : a.natAbs * b.natAbs % n = 0
      · rw [(neg_div0 _ n (by omega) hr).1] at h1
        generalize a.natAbs * b.natAbs / n = q at *
        omega
      · rw [(neg_div1 _ n (by omega) (Nat.pos_of_ne_zero hr)).1] at h1
        generalize a.natAbs * b.natAbs / n = q at *
        omega
  exact hi_lt _ _ (by omega) key

/-- pico.Scale at any three numbers -/
theorem scaled (a b d : Int) (w : World) (ha1 : -1152921504606846976 ≤ a) (ha2 : a ≤ 1152921504606846976) (hb1 : -1152921504606846976 ≤ b) (hb2 : b ≤ 1152921504606846976)
    (hd1 : 1 ≤ d) (hd2 : d ≤ 1152921504606846976) (hq1 : -1152921504606846976 ≤ a * b / d) (hq2 : a * b / d ≤ 1152921504606846976) :
    Calls Tryz.prog 134 #[.int .i64 a, .int .i64 b, .int .i64 d] w fun e w' => e = .returned (.tuple #[.int .i64 (a * b / d), .int .i64 (a * b % d), .int .i64 0]) ∧ Below w.heap.size w w' :=
  scale_ok a b d w ha1 ha2 hb1 hb2 hd1 hd2 (div_any _ _ (by omega) (hi_of_quo a b d hd1 hq1 hq2) (by omega)) hq1 hq2
theorem scaled_over (a b d : Int) (w : World) (ha1 : -1152921504606846976 ≤ a) (ha2 : a ≤ 1152921504606846976) (hb1 : -1152921504606846976 ≤ b) (hb2 : b ≤ 1152921504606846976)
    (hd1 : 1 ≤ d) (hd2 : d ≤ 1152921504606846976) (hq : a * b / d < -1152921504606846976 ∨ 1152921504606846976 < a * b / d) :
    Calls Tryz.prog 134 #[.int .i64 a, .int .i64 b, .int .i64 d] w fun e w' => e = .returned (.tuple #[.int .i64 0, .int .i64 0, .int .i64 2]) ∧ Below w.heap.size w w' :=
  scale_ov a b d w ha1 ha2 hb1 hb2 hd1 hd2 (fun h => div_any _ _ (by omega) h (by omega)) hq
/-- one of the three is no time, or the last is below 1 -/
def BadArgs (a b d : Int) : Prop := (timeB a && (timeB b && timeB d)) = false ∨ d < 1
theorem mul_ok (a b : Int) (w : World) (ha1 : -1152921504606846976 ≤ a) (ha2 : a ≤ 1152921504606846976) (hb1 : -1152921504606846976 ≤ b) (hb2 : b ≤ 1152921504606846976)
    (hD : DivSaid (a.natAbs * b.natAbs) 1) (hq1 : -1152921504606846976 ≤ a * b) (hq2 : a * b ≤ 1152921504606846976) :
    Calls Tryz.prog 158 #[.int .i64 a, .int .i64 b] w fun e w' => e = .returned (.tuple #[.int .i64 (a * b), .int .i64 0]) ∧ Below w.heap.size w w' := by
  go_enter Tryz.func158, Tryz.ntmps158
  go_wp2_with fail
  refine (scale_ok a b 1 w ha1 ha2 hb1 hb2 (by omega) (by omega) hD (by rw [Int.ediv_one]; exact hq1) (by rw [Int.ediv_one]; exact hq2)).mono ?_
  rintro e w' ⟨rfl, hb⟩
  rw [Int.ediv_one]
  go_wp2
  go_ret2
  exact ⟨rfl, hb⟩

/-! pico.Add and pico.Sub -/
theorem add_ok (a b : Int) (w : World) (ha1 : -1152921504606846976 ≤ a) (ha2 : a ≤ 1152921504606846976) (hb1 : -1152921504606846976 ≤ b) (hb2 : b ≤ 1152921504606846976) (h1 : -1152921504606846976 ≤ a + b) (h2 : a + b ≤ 1152921504606846976) :
    Calls Tryz.prog 124 #[.int .i64 a, .int .i64 b] w fun e w' => e = .returned (.tuple #[.int .i64 (a + b), .int .i64 0]) ∧ Below w.heap.size w w' := by
  go_enter Tryz.func124, Tryz.ntmps124
  go_wp2_with fail
  refine (may_2 _ _ a b true (by rw [timeB_yes ha1 ha2, timeB_yes hb1 hb2]; rfl) _ (by simp) (by simp)).mono ?_
  rintro e w' ⟨rfl, rfl⟩
  go_wp2_with fail
  refine (bounded_ok (a + b) _ h1 h2).mono ?_
  rintro e w1 ⟨rfl, g1⟩
  go_wp2
  go_ret2
  exact ⟨rfl, ((Below.refl _ _).alloc (Nat.le_refl _) _).trans (g1.mono (by simp))⟩
theorem add_over (a b : Int) (w : World) (ha1 : -1152921504606846976 ≤ a) (ha2 : a ≤ 1152921504606846976) (hb1 : -1152921504606846976 ≤ b) (hb2 : b ≤ 1152921504606846976) (h : a + b < -1152921504606846976 ∨ 1152921504606846976 < a + b) :
    Calls Tryz.prog 124 #[.int .i64 a, .int .i64 b] w fun e w' => e = .returned (.tuple #[.int .i64 0, .int .i64 2]) ∧ Below w.heap.size w w' := by
  have H := hid h
  clear h
  go_enter Tryz.func124, Tryz.ntmps124
  go_wp2_with fail
  refine (may_2 _ _ a b true (by rw [timeB_yes ha1 ha2, timeB_yes hb1 hb2]; rfl) _ (by simp) (by simp)).mono ?_
  rintro e w' ⟨rfl, rfl⟩
  go_wp2_with fail
  refine (bounded_no (a + b) _ H.out).mono ?_
  rintro e w1 ⟨rfl, g1⟩
  go_wp2
  go_ret2
  exact ⟨rfl, ((Below.refl _ _).alloc (Nat.le_refl _) _).trans (g1.mono (by simp))⟩
end Go.Proofs.YtlgedfljmgedfaaGreat.O6
namespace Go.Proofs.YtlgedfljmgedfaaGreat.O6
open Go Go.RowKit

/-- An oscillator: its period, its drift, what is left. -/
structure Oc where
  p : Int
  d : Int
  r : Int
def enco (x : Oc) : List Value := [.int .i64 x.p, .int .i64 x.d, .int .i64 x.r]
def ov (x : Oc) : Value := .agg (enco x).toArray
def oz : Oc := ⟨0, 0, 0⟩
theorem enco_len (x : Oc) : (enco x).length = 3 := rfl
theorem enco_one (x : Oc) : ∀ u ∈ enco x, u.oneCell' = true := by
  intro u hu; simp [enco] at hu; rcases hu with rfl | rfl | rfl <;> rfl
theorem size23 : (Tryz.prog.info? 26).map (·.size) = some 3 := by kernel_rfl
theorem size2 : (Tryz.prog.info? 2).map (·.size) = some 1 := by kernel_rfl
theorem info2 : (Tryz.prog.info? 2).map (fun i => (i.zero, i.size, i.bytes)) = some (some (.int .i64 0), 1, 8) := by kernel_rfl
theorem zero23 (w : World) : (zeroValue 26).run Tryz.prog w = .ok (ov oz) w := by kernel_rfl

/-- Block g is a variable that holds the oscillator. -/
def VarO (w : World) (g : Nat) (x : Oc) : Prop := w.rangeAt g 0 (enco x) ∧ w.there g 0 3
/-- Only block g is another one. -/
def Oth (g : Nat) (w w' : World) : Prop := ∀ k, k ≠ g → w'.heap[k]? = w.heap[k]?
theorem range_keep {w w' : World} {b o : Nat} {cs : List Value} (h : w.rangeAt b o cs) {B : Nat} (hb : b < B) (hk : Below B w w') : w'.rangeAt b o cs := fun j v hv => (hk.cell (p := ⟨b, o + j, none⟩) hb).trans (h j v hv)
theorem there_keep {w w' : World} {b o n : Nat} (h : w.there b o n) {B : Nat} (hb : b < B) (hk : Below B w w') : w'.there b o n := fun j hj =>
  ⟨by rw [hk.cell (p := ⟨b, o + j, none⟩) hb]; exact (h j hj).1, by rw [hk.frozen (p := ⟨b, o + j, none⟩) hb]; exact (h j hj).2⟩
theorem range_other {w w' : World} {b o g : Nat} {cs : List Value} (h : w.rangeAt b o cs) (hb : b ≠ g) (ho : Oth g w w') : w'.rangeAt b o cs := fun j v hv => (World.cell?_of_block (a := ⟨b, o + j, none⟩) (ho b hb)).trans (h j v hv)
theorem there_other {w w' : World} {b o n g : Nat} (h : w.there b o n) (hb : b ≠ g) (ho : Oth g w w') : w'.there b o n := fun j hj =>
  ⟨by rw [World.cell?_of_block (a := ⟨b, o + j, none⟩) (ho b hb)]; exact (h j hj).1, by rw [World.frozen?_of_block (a := ⟨b, o + j, none⟩) (ho b hb)]; exact (h j hj).2⟩
section
variable {w w' : World} {g : Nat} {x : Oc}
theorem VarO.below (h : VarO w g x) {B : Nat} (hk : Below B w w') (hb : g < B) : VarO w' g x := ⟨range_keep h.1 hb hk, there_keep h.2 hb hk⟩
theorem VarO.other (h : VarO w g x) {b : Nat} (ho : Oth b w w') (hb : g ≠ b) : VarO w' g x := ⟨range_other h.1 hb ho, there_other h.2 hb ho⟩
theorem VarO.lt (h : VarO w g x) : g < w.heap.size := World.block_lt_of_cell? w _ (h.1 0 _ rfl)
theorem VarO.keep (h : VarO w g x) (hk : Below w.heap.size w w') : VarO w' g x := h.below hk h.lt
theorem VarO.c0 (h : VarO w g x) : w.cell? ⟨g, 0, none⟩ = some (.int .i64 x.p) := h.1 0 _ rfl
theorem VarO.c1 (h : VarO w g x) : w.cell? ⟨g, 1, none⟩ = some (.int .i64 x.d) := h.1 1 _ rfl
theorem VarO.c2 (h : VarO w g x) : w.cell? ⟨g, 2, none⟩ = some (.int .i64 x.r) := h.1 2 _ rfl
/-- A new variable. -/
theorem varo_new (w : World) (x : Oc) : VarO (w.alloc (.cells (enco x).toArray 26)) w.heap.size x := by
  have h1 : (w.alloc (.cells (enco x).toArray 26)).rangeAt w.heap.size 0 (enco x) := fun j v hv => by
    rw [Nat.zero_add, cell_of_row _ _ _ _ _ _ (heap_alloc_new w _)]
    simpa using hv
  refine ⟨h1, fun j hj => ⟨?_, frozen_of_row _ _ _ _ _ (heap_alloc_new w _)⟩⟩
  rw [h1 j _ (List.getElem?_eq_getElem (by rw [enco_len]; exact hj))]; rfl
/-- Cells of a block set: no other one is touched. -/
theorem setCells_oth (g : Nat) : ∀ (vs : List Value) (o : Nat) (w : World), Below g w (w.setCells g o vs) ∧ Oth g w (w.setCells g o vs) := by
  intro vs
  induction vs with
  | nil => exact fun o w => ⟨Below.refl _ _, fun _ _ => rfl⟩
  | cons v r ih => exact fun o w => ⟨((Below.refl _ _).setCell (p := ⟨g, o, none⟩) (Nat.le_refl _) v).trans (ih (o + 1) _).1, fun k hk => ((ih (o + 1) _).2 k hk).trans (Below.heap_setCell w ⟨g, o, none⟩ v k hk)⟩
theorem setCells_size (g : Nat) : ∀ (vs : List Value) (o : Nat) (w : World), (w.setCells g o vs).heap.size = w.heap.size := by
  intro vs
  induction vs with
  | nil => exact fun o w => rfl
  | cons v r ih => exact fun o w => (ih (o + 1) _).trans (by simp)
theorem there_set {n : Nat} (vs : List Value) (o : Nat) (h : w.there g 0 n) : (w.setCells g o vs).there g 0 n := World.there_setCells h g o vs
theorem varo_stored (ht : w.there g 0 3) (x : Oc) : VarO (w.setCells g 0 (enco x)) g x := ⟨World.rangeAt_setCells_same w g 0 (enco x) ht, there_set _ _ ht⟩

/-! ### At the operation, for the walk -/
variable {ops : Array Oper} {rest : List Oper} {o : Oper} {a : Act} {Q : Exit → Act → World → Prop}
theorem wpList_boxo (hg : o.guard = none) (y : Operand) (ho : o.op = .box 26 y) (hx : a.eval y = ov x)
    (h : ∀ w', VarO w' w.heap.size x → Below w.heap.size w w' → Hid (w'.heap.size = w.heap.size + 1) → wpList Tryz.prog ops Q rest (a.put o.dst (.pointer (some ⟨w.heap.size, 0, none⟩))) w') : wpList Tryz.prog ops Q (o :: rest) a w := by
  refine wpList_plain hg fun K hK => ?_
  unfold Oper.wp execOp
  simp only [ho, hx, Sem.run_bind, Instr.box, newVar, newRow, run_newObj_alloc, Sem.run_pure, Result.andThen_ok]
  exact hK _ _ (h _ (varo_new w x) ((Below.refl _ _).alloc (Nat.le_refl _) _) (hid (by simp)))
theorem wpList_alo (hg : o.guard = none) (ho : o.op = .alloc 26)
    (h : ∀ w', VarO w' w.heap.size oz → Below w.heap.size w w' → Hid (w'.heap.size = w.heap.size + 1) → wpList Tryz.prog ops Q rest (a.put o.dst (.pointer (some ⟨w.heap.size, 0, none⟩))) w') : wpList Tryz.prog ops Q (o :: rest) a w := by
  refine wpList_plain hg fun K hK => ?_
  unfold Oper.wp execOp
  simp only [ho, Sem.run_bind, Instr.alloc, zero23, newVar, newRow, run_newObj_alloc, Sem.run_pure, Result.andThen_ok]
  exact hK _ _ (h _ (varo_new w oz) ((Below.refl _ _).alloc (Nat.le_refl _) _) (hid (by simp)))
theorem wpList_ldo (hw : Region.wanted o (yielded ops a.tmps) = true) (y : Operand) (ho : o.op = .load 26 y) (hx : a.eval y = .pointer (some ⟨g, 0, none⟩)) (hv : VarO w g x)
    (h : wpList Tryz.prog ops Q rest (a.put o.dst (ov x)) w) : wpList Tryz.prog ops Q (o :: rest) a w :=
  wpList_step fun _ hK => by rw [if_pos hw]; exact wp_load_mid 26 y ho g 0 hx (enco x) _ hv.1 Tryz.underlying26 rfl (by rw [size23]; rfl) (hK _ _ h)
/-- One cell stored. -/
theorem wpList_st1 (hg : o.guard = none) (ty : TypeId) (y z : Operand) (ho : o.op = .store ty y z) (j : Nat) (v : Value) (hx : a.eval y = .pointer (some ⟨g, j, none⟩)) (hy : a.eval z = v) (hc : v.cells = #[v]) (h1 : v.oneCell' = true) (hs : (Tryz.prog.info? ty).map (·.size) = some 1)
    (hv : w.there g 0 3) (hj : j < 3) (h : wpList Tryz.prog ops Q rest (a.put o.dst undef) (w.setCells g j [v])) : wpList Tryz.prog ops Q (o :: rest) a w := by
  refine wpList_plain hg fun K hK => ?_
  have ht : w.there g j 1 := fun i hi => by have := hv (j + i) (by omega); rwa [Nat.zero_add] at this
  have := run_storeCells_cells (P := Tryz.prog) g j [v] 0 w (fun i hi => by simpa using (ht i (by simpa using hi)).1) (fun i hi => by simpa using (ht i (by simpa using hi)).2) (fun u hu => by simp at hu; rw [hu]; exact h1)
  unfold Oper.wp execOp
  cases hq : Tryz.prog.info? ty with
  | none => simp [hq] at hs
  | some i =>
    have hz : i.size = 1 := by simpa [hq] using hs
    simp only [Nat.add_zero] at this
    have hsv : (storeVar ty ⟨g, j, none⟩ v).run Tryz.prog w = .ok () (w.setCells g j [v]) := by
      simp [storeVar, sizeOf, typeInfo, hq, hc, hz, this]
    simp only [ho, hx, hy, Instr.storeAt, Instr.sureAddr, Sem.run_bind, Sem.run_pure, Result.andThen_ok, hsv]
    exact hK _ _ h
theorem range_set {cs : List Value} {j : Nat} {v : Value} (h : w.rangeAt g 0 cs) (ht : w.there g 0 cs.length) (hj : j < cs.length) : (w.setCells g j [v]).rangeAt g 0 (cs.set j v) := by
  intro i u hu
  rw [Nat.zero_add]
  have hil : i < cs.length := by have := (List.getElem?_eq_some_iff.1 hu).1; simpa using this
  by_cases e : i = j
  · subst e
    have h2 := World.rangeAt_setCells_same w g i [v] (fun k hk => by have := ht (i + k) (by simp at hk; omega); rwa [Nat.zero_add] at this) 0 v rfl
    rw [List.getElem?_set_self hil] at hu
    injection hu with hu; subst hu; simpa using h2
  · rw [List.getElem?_set_ne (by omega)] at hu
    have h2 : w.rangeAt g i [u] := fun k x hx => by
      rcases k with _ | k
      · simp at hx; subst hx; have := h i _ hu; rwa [Nat.zero_add] at this
      · simp at hx
    have h3 := World.rangeAt_setCells_apart h2 g j [v] (by simp; omega) 0 u rfl
    simpa using h3
theorem wpList_sr (hg : o.guard = none) (y z : Operand) (ho : o.op = .store 2 y z) {n : Int} (hx : a.eval y = .pointer (some ⟨g, 2, none⟩)) (hy : a.eval z = .int .i64 n) (hv : VarO w g x)
    (h : ∀ w', VarO w' g { x with r := n } → Below g w w' → Oth g w w' → Hid (w'.heap.size = w.heap.size) → wpList Tryz.prog ops Q rest (a.put o.dst undef) w') : wpList Tryz.prog ops Q (o :: rest) a w :=
  wpList_st1 hg 2 y z ho 2 (.int .i64 n) hx hy rfl rfl size2 hv.2 (by omega) (h _ ⟨range_set (cs := enco x) hv.1 hv.2 (by rw [enco_len]; omega), there_set _ _ hv.2⟩ (setCells_oth g _ _ _).1 (setCells_oth g _ _ _).2 (hid (setCells_size _ _ _ _)))
/-! ### Results that lie in cells -/
theorem ldov (h : VarO w g x) : (loadVar 26 ⟨g, 0, none⟩).run Tryz.prog w = .ok (ov x) w := run_loadVar_mid w g 0 26 (enco x) _ h.1 Tryz.underlying26 rfl (by rw [size23]; rfl)
theorem results_101 {fn : Func} {p r s : Tmp} (h : fn.results = #[.tmp r, .cell p 26, .tmp s]) (tmps : Array Value) (hp : tmps.getD p undef = .pointer (some ⟨g, 0, none⟩)) (hx : VarO w g x) :
    (results fn tmps).run Tryz.prog w = .ok (.tuple #[tmps.getD r undef, ov x, tmps.getD s undef]) w := by
  have := ldov hx
  have hp' : tmps[p]?.getD undef = .pointer (some ⟨g, 0, none⟩) := by simpa using hp
  simp only [results, h]
  simp [Result.andThen, hp', this, asAddr]
end

/-! ### Slices of numbers -/
/-- A slice of n elements of one cell each, at A, holds the cells vs, and lies below block B. -/
def Row (w : World) (B : Nat) (A : Option Addr) (n : Nat) (vs : List Value) : Prop :=
  vs.length = n ∧ (0 < n → ∃ b o, A = some ⟨b, o, none⟩ ∧ b < B ∧ ∀ j u, vs[j]? = some u → w.cell? ⟨b, o + j, none⟩ = some u)
/-- A slice that was made by the call itself: from block 'base' on. -/
def Own (w : World) (base : Nat) (e : TypeId) (A : Option Addr) (n c : Nat) (vs : List Value) : Prop := w.ownsRow base e 1 (.slice A n c) n vs
def sv (l : List Int) : List Value := l.map fun x => .int .i64 x
theorem sv_len (l : List Int) : (sv l).length = l.length := by simp [sv]
theorem plain_add (b o j : Nat) : (⟨b, o, none⟩ : Addr).add j = ⟨b, o + j, none⟩ := by unfold Addr.add; split <;> simp_all
section
variable {w w' : World} {B B' n : Nat} {A : Option Addr} {vs : List Value}
theorem Row.nil (w : World) (B : Nat) (A : Option Addr) : Row w B A 0 [] := ⟨rfl, fun h => absurd h (by omega)⟩
theorem Row.keep (h : Row w B A n vs) (hk : ∀ p : Addr, p.block < B → w'.cell? p = w.cell? p) : Row w' B A n vs :=
  ⟨h.1, fun hn => by
    obtain ⟨b, o, e, hb, hc⟩ := h.2 hn
    exact ⟨b, o, e, hb, fun j u hu => (hk ⟨b, o + j, none⟩ hb).trans (hc j u hu)⟩⟩
theorem Row.below (h : Row w B A n vs) (hb : Below B w w') : Row w' B A n vs := h.keep fun _ hp => hb.cell hp
theorem Row.more (h : Row w B A n vs) (hB : B ≤ B') : Row w B' A n vs :=
  ⟨h.1, fun hn => by
    obtain ⟨b, o, e, hb, hc⟩ := h.2 hn
    exact ⟨b, o, e, by omega, hc⟩⟩
theorem Row.at_ (h : Row w B A n vs) {k : Nat} (hk : k < n) : ∃ b o u, A = some ⟨b, o, none⟩ ∧ b < B ∧ vs[k]? = some u ∧ w.cell? ⟨b, o + k, none⟩ = some u := by
  obtain ⟨b, o, e, hb, hc⟩ := h.2 (by omega)
  have hl : k < vs.length := by rw [h.1]; exact hk
  exact ⟨b, o, vs[k], e, hb, List.getElem?_eq_getElem hl, hc k _ (List.getElem?_eq_getElem hl)⟩
theorem Own.row {base : Nat} {e : TypeId} {c : Nat} (h : Own w base e A n c vs) : Row w w.heap.size A n vs := by
  refine ⟨by simpa using h.1, fun hn => ?_⟩
  rcases h.2 with ⟨_, h0⟩ | ⟨g, cap, cur, hv, hb, hg, _⟩
  · omega
  · have hA : A = some ⟨g, 0, none⟩ := by injection hv
    subst hA
    refine ⟨g, 0, rfl, (Array.getElem?_eq_some_iff.1 hg).1, fun j u hu => ?_⟩
    have := h.cells (g := g) rfl j u hu
    rwa [plain_add] at this
theorem Own.len {base : Nat} {e : TypeId} {c : Nat} (h : Own w base e A n c vs) : vs.length = n := by simpa using h.1
theorem Own.nil (w : World) (base : Nat) (e : TypeId) : Own w base e none 0 0 [] := World.ownsRow_nil w base e 1
theorem Own.below {base : Nat} {e : TypeId} {c : Nat} (h : Own w base e A n c vs) (hb : Below w.heap.size w w') : Own w' base e A n c vs := by
  refine ⟨h.1, ?_⟩
  rcases h.2 with h0 | ⟨g, cap, cur, hv, hg, hh, r⟩
  · exact .inl h0
  · exact .inr ⟨g, cap, cur, hv, hg, (hb.block g (Array.getElem?_eq_some_iff.1 hh).1).trans hh, r⟩
theorem Own.base_le {base base' : Nat} {e : TypeId} {c : Nat} (h : Own w base e A n c vs) (hb : base' ≤ base) : Own w base' e A n c vs := by
  refine ⟨h.1, ?_⟩
  rcases h.2 with h0 | ⟨g, cap, cur, hv, hg, hh, r⟩
  · exact .inl h0
  · exact .inr ⟨g, cap, cur, hv, by omega, hh, r⟩
theorem Own.other {base : Nat} {e : TypeId} {c : Nat} (h : Own w base e A n c vs) (ho : ∀ g, base ≤ g → w'.heap[g]? = w.heap[g]?) : Own w' base e A n c vs := by
  refine ⟨h.1, ?_⟩
  rcases h.2 with h0 | ⟨g, cap, cur, hv, hg, hh, r⟩
  · exact .inl h0
  · exact .inr ⟨g, cap, cur, hv, hg, (ho g hg).trans hh, r⟩
theorem Own.alloc {base : Nat} {e : TypeId} {c : Nat} (h : Own w base e A n c vs) (o : Obj) : Own (w.alloc o) base e A n c vs := World.ownsRow.alloc h o
theorem Row.laid (w : World) (t : TypeId) (cs : List Value) : Row (w.alloc (.cells cs.toArray t)) (w.heap.size + 1) (some ⟨w.heap.size, 0, none⟩) cs.length cs := by
  refine ⟨rfl, fun _ => ⟨w.heap.size, 0, rfl, by omega, fun j u hu => ?_⟩⟩
  rw [cell_of_row (w.alloc (.cells cs.toArray t)) w.heap.size (0 + j) cs.toArray t (0, 0) (heap_alloc_new w _)]
  simpa using hu
end
end Go.Proofs.YtlgedfljmgedfaaGreat.O6
namespace Go.Proofs.YtlgedfljmgedfaaGreat.O6
open Go Go.RowKit
def Ok (x : Oc) : Prop := 1 ≤ x.p ∧ x.p ≤ 1000000000 ∧ -1000000 ≤ x.d ∧ x.d ≤ 1000000 ∧ 0 ≤ x.r ∧ x.r < 1000000000
instance (x : Oc) : Decidable (Ok x) := by unfold Ok; infer_instance
def okE (x : Oc) : Int := if Ok x then 0 else 1

theorem check_ok (p d r : Int) (w : World) (h : Ok ⟨p, d, r⟩) : Calls Tryz.prog 55 #[ov ⟨p, d, r⟩] w fun e w' => e = .returned (.int .i64 0) ∧ Below w.heap.size w w' := by
  obtain ⟨h1, h2, h3, h4, h5, h6⟩ := h
  simp only at h1 h2 h3 h4 h5 h6
  go_enter Tryz.func55, Tryz.ntmps55
  go_wp2_with (first
    | (refine wpList_boxo (x := ⟨p, d, r⟩) rfl (.tmp 0) rfl rfl ?_; intro w1 v1 b1 s1; have c0 : w1.cell? ⟨w.heap.size, 0, none⟩ = some (.int .i64 p) := v1.c0; have c1 : w1.cell? ⟨w.heap.size, 1, none⟩ = some (.int .i64 d) := v1.c1; have c2 : w1.cell? ⟨w.heap.size, 2, none⟩ = some (.int .i64 r) := v1.c2))
  go_ret
  exact ⟨rfl, b1⟩
theorem check_bad (p d r : Int) (w : World) (h : ¬ Ok ⟨p, d, r⟩) : Calls Tryz.prog 55 #[ov ⟨p, d, r⟩] w fun e w' => e = .returned (.int .i64 1) ∧ Below w.heap.size w w' := by
  have H := hid h
  clear h
  go_enter Tryz.func55, Tryz.ntmps55
  go_wp2_with (first
    | (refine wpList_boxo (x := ⟨p, d, r⟩) rfl (.tmp 0) rfl rfl ?_; intro w1 v1 b1 s1; have c0 : w1.cell? ⟨w.heap.size, 0, none⟩ = some (.int .i64 p) := v1.c0; have c1 : w1.cell? ⟨w.heap.size, 1, none⟩ = some (.int .i64 d) := v1.c1; have c2 : w1.cell? ⟨w.heap.size, 2, none⟩ = some (.int .i64 r) := v1.c2))
  all_goals
    go_ret
    first
      | exact ⟨rfl, b1⟩
      | (exfalso; exact H.out ⟨by simp_all <;> omega, by simp_all <;> omega, by simp_all <;> omega, by simp_all <;> omega, by simp_all <;> omega, by simp_all <;> omega⟩)
theorem rate_range {p d : Int} (h1 : 1 ≤ p) (h2 : p ≤ 1000000000) (h3 : -1000000 ≤ d) (h4 : d ≤ 1000000) : 999000000 ≤ p * (1000000000 + d) ∧ p * (1000000000 + d) ≤ 1001000000000000000 := by
  have a1 : 1 * 999000000 ≤ p * (1000000000 + d) := Int.mul_le_mul h1 (by omega) (by omega) (by omega)
  have a2 : p * (1000000000 + d) ≤ 1000000000 * 1001000000 := Int.mul_le_mul h2 (by omega) (by omega) (by omega)
  omega
theorem rate_ok (p d r T : Int) (w : World) (h : Ok ⟨p, d, r⟩) (hT : p * (1000000000 + d) = T) : Calls Tryz.prog 133 #[ov ⟨p, d, r⟩] w fun e w' => e = .returned (.tuple #[.int .i64 T, .int .i64 0]) ∧ Below w.heap.size w w' := by
  have HK := hid h
  obtain ⟨h1, h2, h3, h4, h5, h6⟩ := h
  simp only at h1 h2 h3 h4 h5 h6
  have hr := rate_range h1 h2 h3 h4
  have HM := hid (fun w => mul_ok p (1000000000 + d) w (by omega) (by omega) (by omega) (by omega) (div_low _ _ (by
    have : ((p.natAbs * (1000000000 + d).natAbs : Nat) : Int) = p * (1000000000 + d) := by rw [Int.natCast_mul, show ((p.natAbs : Nat) : Int) = p by omega, show (((1000000000 + d).natAbs : Nat) : Int) = 1000000000 + d by omega]
    omega) (by omega) (by omega)) (by omega) (by omega))
  rw [hT] at HM
  clear hr hT
  go_enter Tryz.func133, Tryz.ntmps133
  go_wp2_with (first
    | (refine wpList_boxo (x := ⟨p, d, r⟩) rfl (.tmp 0) rfl rfl ?_; intro w1 v1 b1 s1)
    | (refine wpList_ldo rfl (.tmp 1) rfl rfl v1 ?_)
    | (go_at_call 55; refine (check_ok p d r w1 HK.out).mono ?_; rintro e w2 ⟨rfl, b2⟩; have v2 := v1.keep b2; have B2 : Hid (Below w.heap.size w w2) := hid (b1.trans (b2.mono b1.size)); have c0 : w2.cell? ⟨w.heap.size, 0, none⟩ = some (.int .i64 p) := v2.c0; have c1 : w2.cell? ⟨w.heap.size, 1, none⟩ = some (.int .i64 d) := v2.c1)
    | (go_at_call 158; refine (HM.out w2).mono ?_; rintro e w3 ⟨rfl, b3⟩; have B3 : Hid (Below w.heap.size w w3) := hid (B2.out.trans (b3.mono B2.out.size))))
  go_ret2
  exact ⟨rfl, B3.out⟩
end Go.Proofs.YtlgedfljmgedfaaGreat.O6
namespace Go.Proofs.YtlgedfljmgedfaaGreat.O6
open Go Go.RowKit
set_option maxRecDepth 100000 in
theorem run_walk (p d r T n W L : Int) (w : World) (h : Ok ⟨p, d, r⟩) (hT : p * (1000000000 + d) = T) (hn0 : 0 ≤ n) (hn1 : n ≤ 1099511627776)
    (hS : ∀ w : World, Calls Tryz.prog 134 #[.int .i64 n, .int .i64 T, .int .i64 1000000000] w fun e w' => e = .returned (.tuple #[.int .i64 W, .int .i64 L, .int .i64 0]) ∧ Below w.heap.size w w')
    (hW0 : 0 ≤ W) (hW1 : W ≤ 1152921504606846976) (hL0 : 0 ≤ L) (hL1 : L < 1000000000) (hQ : W + (L + r) / 1000000000 ≤ 1152921504606846976) :
    Calls Tryz.prog 91 #[ov ⟨p, d, r⟩, .int .i64 n] w fun e w' => e = .returned (.tuple #[.int .i64 (W + (L + r) / 1000000000), ov ⟨p, d, (L + r) % 1000000000⟩, .int .i64 0]) ∧ Below w.heap.size w w' := by
  have HK := hid h
  obtain ⟨h1, h2, h3, h4, h5, h6⟩ := h
  simp only at h1 h2 h3 h4 h5 h6
  have HT := hid hT
  have HS := hid hS
  have HA := hid (fun w => add_ok W ((L + r) / 1000000000) w (by omega) (by omega) (by omega) (by omega) (by omega) hQ)
  clear hT hS hQ
  go_enter Tryz.func91, Tryz.ntmps91
  go_wp2_with (first
    | (refine wpList_boxo (x := ⟨p, d, r⟩) rfl (.tmp 0) rfl rfl ?_; intro w1 v1 b1 s1)
    | (refine wpList_alo rfl rfl ?_; intro w2 r2 b2 s2; have v2 := v1.keep b2; have B2 : Hid (Below w.heap.size w w2) := hid (b1.trans (b2.mono b1.size)))
    | (refine wpList_ldo rfl (.tmp 2) rfl rfl v2 ?_)
    | (go_at_call 133; refine (rate_ok p d r T w2 HK.out HT.out).mono ?_; rintro e w3 ⟨rfl, b3⟩; have r3 := r2.keep b3; have v3 := v2.keep b3; have B3 : Hid (Below w.heap.size w w3) := hid (B2.out.trans (b3.mono B2.out.size)))
    | (go_at_call 134; refine (HS.out w3).mono ?_; rintro e w4 ⟨rfl, b4⟩; have r4 := r3.keep b4; have v4 := v3.keep b4; have B4 : Hid (Below w.heap.size w w4) := hid (B3.out.trans (b4.mono B3.out.size)); have c2 : w4.cell? ⟨w.heap.size, 2, none⟩ = some (.int .i64 r) := v4.c2)
    | (go_at_call 124; refine (HA.out w4).mono ?_; rintro e w5 ⟨rfl, b5⟩; have r5 := r4.keep b5; have v5 := v4.keep b5; have B5 : Hid (Below w.heap.size w w5) := hid (B4.out.trans (b5.mono B4.out.size)))
    | (refine wpList_sr rfl (.tmp 56) (.tmp 55) rfl rfl rfl v5 ?_; intro w6 v6 b6 o6 _; have r6 := r5.other o6 (by have := v1.lt; omega); have B6 : Hid (Below w.heap.size w w6) := hid (B5.out.trans b6)))
  obtain ⟨a0, a1, a2⟩ : w6.cell? ⟨w.heap.size, 0, none⟩ = some (.int .i64 p) ∧ w6.cell? ⟨w.heap.size, 1, none⟩ = some (.int .i64 d) ∧ w6.cell? ⟨w.heap.size, 2, none⟩ = some (.int .i64 ((L + r) % 1000000000)) := ⟨v6.c0, v6.c1, v6.c2⟩
  obtain ⟨⟨y0, k0⟩, ⟨y1, k1⟩, ⟨y2, k2⟩⟩ : (∃ u, w6.cell? ⟨w1.heap.size, 0, none⟩ = some u) ∧ (∃ u, w6.cell? ⟨w1.heap.size, 1, none⟩ = some u) ∧ (∃ u, w6.cell? ⟨w1.heap.size, 2, none⟩ = some u) := ⟨⟨_, r6.c0⟩, ⟨_, r6.c1⟩, ⟨_, r6.c2⟩⟩
  obtain ⟨q0, q1, q2⟩ : w6.frozen? ⟨w1.heap.size, 0, none⟩ = false ∧ w6.frozen? ⟨w1.heap.size, 1, none⟩ = false ∧ w6.frozen? ⟨w1.heap.size, 2, none⟩ = false := ⟨(r6.2 0 (by omega)).2, (r6.2 1 (by omega)).2, (r6.2 2 (by omega)).2⟩
  have R6 := hid r6
  have N1 : Hid (w.heap.size < w1.heap.size) := hid v1.lt
  clear v1 v2 v3 v4 v5 v6 r2 r3 r4 r5 r6 o6 c2 B2 B3 B4 B5 HA HS HT HK b1 b2 b3 b4 b5 b6 s1 s2
  generalize w1.heap.size = g2 at *
  generalize hG : w.heap.size = g1 at *
  have n1 : ¬ g1 = g2 := by have := N1.out; omega
  generalize hR : (L + r) % 1000000000 = R at *
  generalize hS : W + (L + r) / 1000000000 = S at *
  have HR := hid hR
  have HS := hid hS
  clear hR hS
  go_region
  go_wp2_with fail
  have r7 := varo_stored R6.out.2 ⟨p, d, R⟩
  have o7 := setCells_oth g2 (enco ⟨p, d, R⟩) 0 w6
  have b7 : Below g1 w (w6.setCells g2 0 (enco ⟨p, d, R⟩)) := B6.out.trans (o7.1.mono (by have := N1.out; omega))
  clear a0 a1 a2 k0 k1 k2 q0 q1 q2
  generalize hV : w6.setCells g2 0 (enco ⟨p, d, R⟩) = V at r7 b7
  simp only [World.setCells, enco, Nat.reduceAdd] at hV
  rw [hV]
  clear hV o7
  refine bodyPost_ret (w := V.drew) (results_101 Tryz.results91 _ rfl (show VarO V.drew _ _ from r7)) rfl ?_
  exact ⟨by rw [HS.out, HR.out]; rfl, (show Below _ _ V.drew from by rw [hG]; exact b7.drew)⟩
/-- How long ticks take, and what is left. -/
def tot (x : Oc) (n : Int) : Int := n * (x.p * (1000000000 + x.d)) + x.r
def psO (x : Oc) (n : Int) : Int := tot x n / 1000000000
def aft (x : Oc) (n : Int) : Oc := ⟨x.p, x.d, tot x n % 1000000000⟩
theorem split_tot (N r : Int) : N / 1000000000 + (N % 1000000000 + r) / 1000000000 = (N + r) / 1000000000 ∧ (N % 1000000000 + r) % 1000000000 = (N + r) % 1000000000 := by omega
/-- osc.Run, where ticks take a time. -/
theorem run_ok (x : Oc) (n : Int) (w : World) (h : Ok x) (hn0 : 0 ≤ n) (hn1 : n ≤ 1099511627776) (hq : psO x n ≤ 1152921504606846976) :
    Calls Tryz.prog 91 #[ov x, .int .i64 n] w fun e w' => e = .returned (.tuple #[.int .i64 (psO x n), ov (aft x n), .int .i64 0]) ∧ Below w.heap.size w w' := by
  obtain ⟨p, d, r⟩ := x
  have hr := rate_range h.1 h.2.1 h.2.2.1 h.2.2.2.1
  have h5 := h.2.2.2.2.1
  have h6 := h.2.2.2.2.2
  simp only [psO, aft, tot] at hq hr h5 h6 ⊢
  generalize hT : p * (1000000000 + d) = T at *
  have hN0 : 0 ≤ n * T := Int.mul_nonneg hn0 (by omega)
  have hs := scaled n T 1000000000
  generalize n * T = N at *
  have e := split_tot N r
  rw [← e.1] at hq ⊢
  rw [← e.2]
  exact run_walk p d r T n (N / 1000000000) (N % 1000000000) w h hT hn0 hn1 (fun w => hs w (by omega) (by omega) (by omega) (by omega) (by omega) (by omega) (by omega) (by omega)) (by omega) (by omega) (by omega) (by omega) hq
theorem aft_ok (x : Oc) (n : Int) (h : Ok x) : Ok (aft x n) := by
  obtain ⟨h1, h2, h3, h4, h5, h6⟩ := h
  exact ⟨h1, h2, h3, h4, by simp only [aft]; omega, by simp only [aft]; omega⟩
end Go.Proofs.YtlgedfljmgedfaaGreat.O6
namespace Go.Proofs.YtlgedfljmgedfaaGreat.O6
open Go Go.RowKit
set_option maxRecDepth 100000 in
theorem ticks_walk (p d r T n W L : Int) (w : World) (h : Ok ⟨p, d, r⟩) (hT : p * (1000000000 + d) = T) (hn0 : 0 ≤ n) (hn1 : n ≤ 1152921504606846976) (hT1 : 999000000 ≤ T) (hT2 : T ≤ 1001000000000000000)
    (hS : ∀ w : World, Calls Tryz.prog 134 #[.int .i64 n, .int .i64 1000000000, .int .i64 T] w fun e w' => e = .returned (.tuple #[.int .i64 W, .int .i64 L, .int .i64 0]) ∧ Below w.heap.size w w')
    (hW0 : 0 ≤ W) (hW1 : W ≤ 1152921504606846976) (hL0 : 0 ≤ L) (hL1 : L < T) :
    Calls Tryz.prog 93 #[ov ⟨p, d, r⟩, .int .i64 n] w fun e w' => e = .returned (.tuple #[.int .i64 (min (W + (L + (999999999 - r)) / T) 1099511627776), .int .i64 0]) ∧ Below w.heap.size w w' := by
  have HK := hid h
  obtain ⟨h1, h2, h3, h4, h5, h6⟩ := h
  simp only at h1 h2 h3 h4 h5 h6
  have HT := hid hT
  have HS := hid hS
  clear hT hS
  go_enter Tryz.func93, Tryz.ntmps93
  go_wp2_with (first
    | (refine wpList_boxo (x := ⟨p, d, r⟩) rfl (.tmp 0) rfl rfl ?_; intro w1 v1 b1 s1)
    | (refine wpList_ldo rfl (.tmp 2) rfl rfl v1 ?_)
    | (go_at_call 133; refine (rate_ok p d r T w1 HK.out HT.out).mono ?_; rintro e w3 ⟨rfl, b3⟩; have v3 := v1.keep b3; have B3 : Hid (Below w.heap.size w w3) := hid (b1.trans (b3.mono b1.size)))
    | (go_at_call 135; refine (may_1 _ _ n true (timeB_yes (by omega) (by omega)) _ (by simp)).mono ?_; rintro e w4 ⟨rfl, e4⟩; have b4 : Below w3.heap.size w3 w4 := (by rw [← e4]; exact (Below.refl _ _).alloc (Nat.le_refl _) _); clear e4; have v4 := v3.keep b4; have B4 : Hid (Below w.heap.size w w4) := hid (B3.out.trans (b4.mono B3.out.size)))
    | (go_at_call 134; refine (HS.out w4).mono ?_; rintro e w5 ⟨rfl, b5⟩; have v5 := v4.keep b5; have B5 : Hid (Below w.heap.size w w5) := hid (B4.out.trans (b5.mono B4.out.size)); have c2 : w5.cell? ⟨w.heap.size, 2, none⟩ = some (.int .i64 r) := v5.c2))
  go_ret2
  refine ⟨ret_two ?_ rfl, B5.out⟩
  have q0 : 0 ≤ (L + (999999999 - r)) / T := Int.ediv_nonneg (by omega) (by omega)
  have q1 : (L + (999999999 - r)) / T ≤ L + (999999999 - r) := Int.ediv_le_self _ (by omega)
  have e : wrap64 (W + (L + (999999999 - r)) / T) = W + (L + (999999999 - r)) / T := by
    unfold wrap64
    generalize (L + (999999999 - r)) / T = q at *
    omega
  rw [e]
set_option maxRecDepth 100000 in
theorem ticks_most (p d r T n : Int) (w : World) (h : Ok ⟨p, d, r⟩) (hT : p * (1000000000 + d) = T) (hn0 : 0 ≤ n) (hn1 : n ≤ 1152921504606846976)
    (hS : ∀ w : World, Calls Tryz.prog 134 #[.int .i64 n, .int .i64 1000000000, .int .i64 T] w fun e w' => e = .returned (.tuple #[.int .i64 0, .int .i64 0, .int .i64 2]) ∧ Below w.heap.size w w') :
    Calls Tryz.prog 93 #[ov ⟨p, d, r⟩, .int .i64 n] w fun e w' => e = .returned (.tuple #[.int .i64 1099511627776, .int .i64 0]) ∧ Below w.heap.size w w' := by
  have HK := hid h
  have HT := hid hT
  have HS := hid hS
  clear h hT hS
  go_enter Tryz.func93, Tryz.ntmps93
  go_wp2_with (first
    | (refine wpList_boxo (x := ⟨p, d, r⟩) rfl (.tmp 0) rfl rfl ?_; intro w1 v1 b1 s1)
    | (refine wpList_ldo rfl (.tmp 2) rfl rfl v1 ?_)
    | (go_at_call 133; refine (rate_ok p d r T w1 HK.out HT.out).mono ?_; rintro e w3 ⟨rfl, b3⟩; have v3 := v1.keep b3; have B3 : Hid (Below w.heap.size w w3) := hid (b1.trans (b3.mono b1.size)))
    | (go_at_call 135; refine (may_1 _ _ n true (timeB_yes (by omega) (by omega)) _ (by simp)).mono ?_; rintro e w4 ⟨rfl, e4⟩; have b4 : Below w3.heap.size w3 w4 := (by rw [← e4]; exact (Below.refl _ _).alloc (Nat.le_refl _) _); clear e4; have v4 := v3.keep b4; have B4 : Hid (Below w.heap.size w w4) := hid (B3.out.trans (b4.mono B3.out.size)))
    | (go_at_call 134; refine (HS.out w4).mono ?_; rintro e w5 ⟨rfl, b5⟩; have B5 : Hid (Below w.heap.size w w5) := hid (B4.out.trans (b5.mono B4.out.size))))
  go_ret2
  exact ⟨rfl, B5.out⟩
/-- How many ticks there are in a time. -/
def tkO (x : Oc) (n : Int) : Int := min ((n * 1000000000 + (999999999 - x.r)) / (x.p * (1000000000 + x.d))) 1099511627776
theorem split_div (N c T : Int) (hT : 0 < T) : N / T + (N % T + c) / T = (N + c) / T := by
  have e := Int.mul_ediv_add_emod N T
  have : N + c = (N % T + c) + T * (N / T) := by omega
  rw [this, Int.add_mul_ediv_left _ _ (by omega), Int.add_comm]
theorem ticks_ok (x : Oc) (n : Int) (w : World) (h : Ok x) (hn0 : 0 ≤ n) (hn1 : n ≤ 1152921504606846976) :
    Calls Tryz.prog 93 #[ov x, .int .i64 n] w fun e w' => e = .returned (.tuple #[.int .i64 (tkO x n), .int .i64 0]) ∧ Below w.heap.size w w' := by
  obtain ⟨p, d, r⟩ := x
  have hr := rate_range h.1 h.2.1 h.2.2.1 h.2.2.2.1
  have h5 := h.2.2.2.2.1
  have h6 := h.2.2.2.2.2
  simp only [tkO] at hr h5 h6 ⊢
  generalize hT : p * (1000000000 + d) = T at *
  have hs := scaled n 1000000000 T
  have ho := scaled_over n 1000000000 T
  have hN0 : 0 ≤ n * 1000000000 := by omega
  generalize n * 1000000000 = N at *
  have e := split_div N (999999999 - r) T (by omega)
  have w0 : 0 ≤ N / T := Int.ediv_nonneg hN0 (by omega)
  have m0 := Int.emod_nonneg N (show T ≠ 0 by omega)
  have m1 := Int.emod_lt_of_pos N (show 0 < T by omega)
  rw [← e]
  by_cases hc : 1152921504606846976 < N / T
  · have q0 : 0 ≤ (N % T + (999999999 - r)) / T := Int.ediv_nonneg (by omega) (by omega)
    rw [Int.min_eq_right (by omega)]
    exact ticks_most p d r T n w h hT hn0 hn1 (fun w => ho w (by omega) (by omega) (by omega) (by omega) (by omega) (by omega) (.inr hc))
  · exact ticks_walk p d r T n (N / T) (N % T) w h hT hn0 hn1 hr.1 hr.2 (fun w => hs w (by omega) (by omega) (by omega) (by omega) (by omega) (by omega) (by omega) (by omega)) w0 (by omega) m0 m1
end Go.Proofs.YtlgedfljmgedfaaGreat.O6
