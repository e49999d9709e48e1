/-
  Texts Mb of this seat, as far as they are used.
-/
import Derived.Test.YtlgedfljmgedfaaGreatJ5
import Derived.Laws.BitsAllLaws
import Derived.WalkKit
import Derived.WalkSpells
import Derived.WalkLawsBesides
import Derived.LoopTactic
import Derived.RegionTactic
import Derived.Deep.QuietTactic
import Derived.BigQuiet
import Derived.Deep.Light
import Derived.Below
import Derived.Maps.AppendAt
import Derived.OwnWalk
import Derived.Laws.OwnMore
import Derived.Deep.MidRow
import Derived.Deep.RegionHeld3
import Derived.Deep.DeepCutAuto
import Derived.Lib.QuietBelow
namespace Go.Proofs.YtlgedfljmgedfaaGreat.M10
open Go

/-- Bit k of m is 1; m with it; m without it; how many of the lowest n are 1. -/
def hs (m k : Nat) : Bool := decide (m / 2 ^ k % 2 = 1)
def addb (m k : Nat) : Nat := if hs m k then m else m + 2 ^ k
def subb (m k : Nat) : Nat := if hs m k then m - 2 ^ k else m
def cn (m : Nat) : Nat → Nat
  | 0 => 0
  | n + 1 => cn m n + m / 2 ^ n % 2

theorem hs_bit (m k : Nat) : hs m k = m.testBit k := (Nat.testBit_eq_decide_div_mod_eq ..).symm
theorem one_bit (m k : Nat) : m / 2 ^ k % 2 = if hs m k then 1 else 0 := by
  unfold hs
  by_cases h : m / 2 ^ k % 2 = 1
  · simp [h]
  · simp [h]; omega
theorem pow15 (k : Nat) (h : k ≤ 15) : 2 ^ k ≤ 32768 := by
  have := Nat.pow_le_pow_right (show 0 < 2 by omega) h; simpa using this
theorem and_pow (m k : Nat) : m &&& 2 ^ k = if hs m k then 2 ^ k else 0 := by
  rw [nat_bit, one_bit]; split <;> simp
theorem or_pow (m k : Nat) : m ||| 2 ^ k = addb m k := by
  unfold addb
  split
  · rename_i h
    rw [hs_bit] at h
    refine Nat.eq_of_testBit_eq fun j => ?_
    rw [Nat.testBit_or, Nat.testBit_two_pow]
    by_cases e : k = j
    · subst e; simp [h]
    · simp [e]
  · rename_i h
    have h0 : m / 2 ^ k % 2 = 0 := by rw [one_bit, if_neg h]
    have hp := Nat.two_pow_pos k
    have e1 : m = 2 ^ (k + 1) * (m / 2 ^ k / 2) + m % 2 ^ k := by
      have a1 := Nat.div_add_mod m (2 ^ k)
      have a2 := Nat.div_add_mod (m / 2 ^ k) 2
      rw [h0, Nat.add_zero] at a2
      rw [Nat.pow_succ, Nat.mul_assoc, a2, a1]
    have hb := Nat.mod_lt m hp
    generalize m % 2 ^ k = b at e1 hb
    generalize m / 2 ^ k / 2 = a at e1
    have hb2 : b < 2 ^ (k + 1) := by rw [Nat.pow_succ]; omega
    have hb3 : 2 ^ k + b < 2 ^ (k + 1) := by rw [Nat.pow_succ]; omega
    rw [e1, ← nat_join (k + 1) (2 ^ (k + 1) * a) b (by simp) hb2, Nat.or_assoc, Nat.or_comm b, nat_join k (2 ^ k) b (by simp) hb, nat_join (k + 1) _ _ (by simp) hb3]
    rw [nat_join (k + 1) (2 ^ (k + 1) * a) b (by simp) hb2]
    omega
theorem addb_bit (m k j : Nat) : (addb m k).testBit j = (m.testBit j || decide (k = j)) := by
  rw [← or_pow, Nat.testBit_or, Nat.testBit_two_pow]
theorem addb_lt (m k : Nat) (hm : m < 65536) (hk : k ≤ 15) : addb m k < 65536 := by
  rw [← or_pow]
  exact Nat.or_lt_two_pow (n := 16) hm (Nat.pow_lt_pow_right (by omega) (by omega))
theorem subb_add (m k : Nat) (h : hs m k = true) : addb (m - 2 ^ k) k = m := by
  have h1 : m / 2 ^ k % 2 = 1 := by rw [one_bit, if_pos h]
  have hp := Nat.two_pow_pos k
  have h2 : 2 ^ k ≤ m := by
    apply Nat.le_of_not_lt; intro hlt
    rw [Nat.div_eq_of_lt hlt] at h1; omega
  have h3 : (m - 2 ^ k) / 2 ^ k = m / 2 ^ k - 1 := by
    have := Nat.sub_mul_div m (2 ^ k) 1
    rwa [Nat.mul_one] at this
  have h4 : hs (m - 2 ^ k) k = false := by
    unfold hs; rw [h3, decide_eq_false_iff_not]; omega
  unfold addb; rw [if_neg (by rw [h4]; decide)]; omega
theorem subb_bit (m k j : Nat) : (subb m k).testBit j = (m.testBit j && !decide (k = j)) := by
  unfold subb
  split
  · rename_i h
    have h1 := subb_add m k h
    have hp := Nat.two_pow_pos k
    by_cases e : k = j
    · subst e
      have h3 : (m - 2 ^ k) / 2 ^ k = m / 2 ^ k - 1 := by
        have := Nat.sub_mul_div m (2 ^ k) 1
        rwa [Nat.mul_one] at this
      have h5 : m / 2 ^ k % 2 = 1 := by rw [one_bit, if_pos h]
      rw [← hs_bit]; unfold hs
      rw [h3]; simp; omega
    · have h2 := addb_bit (m - 2 ^ k) k j
      rw [h1] at h2
      rw [h2]; simp [e]
  · rename_i h
    by_cases e : k = j
    · subst e; rw [hs_bit] at h; simp at h; simp [h]
    · simp [e]
theorem subb_le (m k : Nat) : subb m k ≤ m := by
  unfold subb; split
  · exact Nat.sub_le ..
  · exact Nat.le_refl _
theorem andNot_pow (m k : Nat) (hm : m < 65536) (hk : k ≤ 15) : m &&& (65535 - 2 ^ k) = subb m k := by
  refine Nat.eq_of_testBit_eq fun j => ?_
  have hp := pow15 k hk
  rw [subb_bit, Nat.testBit_and, show 65535 - 2 ^ k = 2 ^ 16 - (2 ^ k + 1) by omega, Nat.testBit_two_pow_sub_succ (by omega), Nat.testBit_two_pow]
  by_cases hj : j < 16
  · simp [hj]
  · have : m.testBit j = false := Nat.testBit_lt_two_pow (Nat.lt_of_lt_of_le hm (by
      have := Nat.pow_le_pow_right (show 0 < 2 by omega) (show 16 ≤ j by omega); simpa using this))
    simp [this]
/-! What follows of members. -/
theorem hs_addb (m k j : Nat) : hs (addb m k) j = (hs m j || decide (k = j)) := by rw [hs_bit, hs_bit, addb_bit]
theorem hs_subb (m k j : Nat) : hs (subb m k) j = (hs m j && !decide (k = j)) := by rw [hs_bit, hs_bit, subb_bit]
theorem cn_le (m : Nat) : ∀ n, cn m n ≤ n
  | 0 => Nat.le_refl _
  | n + 1 => by have := cn_le m n; rw [cn]; omega
theorem cn_high (m : Nat) : ∀ n, cn m (8 + n) = cn m 8 + cn (m / 256) n
  | 0 => rfl
  | n + 1 => by
    show cn m (8 + n) + m / 2 ^ (8 + n) % 2 = cn m 8 + (cn (m / 256) n + m / 256 / 2 ^ n % 2)
    rw [cn_high m n, Nat.div_div_eq_div_mul, show (256 : Nat) * 2 ^ n = 2 ^ (8 + n) by rw [Nat.pow_add], Nat.add_assoc]
theorem cn_low (m : Nat) : ∀ n, n ≤ 8 → cn (m % 256) n = cn m n
  | 0, _ => rfl
  | n + 1, hn => by
    rw [cn, cn, cn_low m n (by omega), one_bit, one_bit, hs_bit, hs_bit, show (256 : Nat) = 2 ^ 8 by decide, Nat.testBit_mod_two_pow, decide_eq_true (show n < 8 by omega), Bool.true_and]
/-- By halves. -/
theorem cn_halves (m : Nat) : cn m 16 = cn (m / 256) 8 + cn (m % 256) 8 := by
  rw [cn_low m 8 (Nat.le_refl _), show (16 : Nat) = 8 + 8 by decide, cn_high, Nat.add_comm]
end Go.Proofs.YtlgedfljmgedfaaGreat.M10
namespace Go.Proofs.YtlgedfljmgedfaaGreat.M10
open Go Go.RowKit

/-- A frame: kind, from, slot, members. -/
structure Fr where
  k : Int
  f : Int
  s : Nat
  m : Nat
deriving DecidableEq
def fz : Fr := ⟨0, 0, 0, 0⟩
/-- It may be. -/
def OkF (x : Fr) : Prop := (x.k = 1 ∨ x.k = 2) ∧ 0 ≤ x.f ∧ x.f ≤ 15 ∧ x.s ≤ 4294967296
instance (x : Fr) : Decidable (OkF x) := by unfold OkF; infer_instance

/-- A frame's cells, its value. -/
def encf (x : Fr) : List Value := [.int .i64 x.k, .int .i64 x.f, .int .u64 (x.s : Int), .int .u16 (x.m : Int)]
def fv (x : Fr) : Value := .agg (encf x).toArray
theorem encf_len (x : Fr) : (encf x).length = 4 := rfl
theorem encf_one (x : Fr) : ∀ u ∈ encf x, u.oneCell' = true := by
  intro u hu; simp [encf] at hu; rcases hu with rfl | rfl | rfl | rfl <;> rfl
theorem size25 : (Tryz.prog.info? 54).map (·.size) = some 4 := by kernel_rfl
theorem zero25 (w : World) : (zeroValue 54).run Tryz.prog w = .ok (fv fz) w := by kernel_rfl

/-- Block g is a variable that holds the frame. -/
def VarF (w : World) (g : Nat) (x : Fr) : Prop := w.rangeAt g 0 (encf x) ∧ w.there g 0 4

section
variable {w w' : World} {g : Nat} {x : Fr}
theorem VarF.below (h : VarF w g x) {B : Nat} (hk : Below B w w') (hb : g < B) : VarF w' g x := ⟨range_keep h.1 hb hk, there_keep h.2 hb hk⟩
theorem VarF.other (h : VarF w g x) {b : Nat} (ho : Oth b w w') (hb : g ≠ b) : VarF w' g x := ⟨range_other h.1 hb ho, there_other h.2 hb ho⟩
theorem VarF.lt (h : VarF w g x) : g < w.heap.size := World.block_lt_of_cell? w _ (h.1 0 _ rfl)
theorem VarF.keep (h : VarF w g x) (hk : Below w.heap.size w w') : VarF w' g x := h.below hk h.lt
theorem VarF.c0 (h : VarF w g x) : w.cell? ⟨g, 0, none⟩ = some (.int .i64 x.k) := h.1 0 _ rfl
theorem VarF.c1 (h : VarF w g x) : w.cell? ⟨g, 1, none⟩ = some (.int .i64 x.f) := h.1 1 _ rfl
theorem VarF.c2 (h : VarF w g x) : w.cell? ⟨g, 2, none⟩ = some (.int .u64 (x.s : Int)) := h.1 2 _ rfl
theorem VarF.c3 (h : VarF w g x) : w.cell? ⟨g, 3, none⟩ = some (.int .u16 (x.m : Int)) := h.1 3 _ rfl
/-- A new variable. -/
theorem varf_new (w : World) (x : Fr) : VarF (w.alloc (.cells (encf x).toArray 54)) w.heap.size x := by
  have h1 : (w.alloc (.cells (encf x).toArray 54)).rangeAt w.heap.size 0 (encf x) := fun j v hv => by
    rw [Nat.zero_add, cell_of_row _ _ _ _ _ _ (heap_alloc_new w _)]
    simpa using hv
  refine ⟨h1, fun j hj => ⟨?_, frozen_of_row _ _ _ _ _ (heap_alloc_new w _)⟩⟩
  rw [h1 j _ (List.getElem?_eq_getElem (by rw [encf_len]; exact hj))]; rfl

theorem varf_stored (ht : w.there g 0 4) (x : Fr) : VarF (w.setCells g 0 (encf x)) g x := ⟨World.rangeAt_setCells_same w g 0 (encf x) ht, there_set _ _ ht⟩

/-! ### At the operation, for the walk -/
variable {ops : Array Oper} {rest : List Oper} {o : Oper} {a : Act} {Q : Exit → Act → World → Prop}
theorem wpList_boxf (hg : o.guard = none) (y : Operand) (ho : o.op = .box 54 y) (hx : a.eval y = fv x)
    (h : ∀ w', VarF w' w.heap.size x → Below w.heap.size w w' → Hid (w'.heap.size = w.heap.size + 1) → wpList Tryz.prog ops Q rest (a.put o.dst (.pointer (some ⟨w.heap.size, 0, none⟩))) w') : wpList Tryz.prog ops Q (o :: rest) a w := by
  refine wpList_plain hg fun K hK => ?_
  unfold Oper.wp execOp
  simp only [ho, hx, Sem.run_bind, Instr.box, newVar, newRow, run_newObj_alloc, Sem.run_pure, Result.andThen_ok]
  exact hK _ _ (h _ (varf_new w x) ((Below.refl _ _).alloc (Nat.le_refl _) _) (hid (by simp)))
theorem wpList_alf (hg : o.guard = none) (ho : o.op = .alloc 54)
    (h : ∀ w', VarF w' w.heap.size fz → Below w.heap.size w w' → Hid (w'.heap.size = w.heap.size + 1) → wpList Tryz.prog ops Q rest (a.put o.dst (.pointer (some ⟨w.heap.size, 0, none⟩))) w') : wpList Tryz.prog ops Q (o :: rest) a w := by
  refine wpList_plain hg fun K hK => ?_
  unfold Oper.wp execOp
  simp only [ho, Sem.run_bind, Instr.alloc, zero25, newVar, newRow, run_newObj_alloc, Sem.run_pure, Result.andThen_ok]
  exact hK _ _ (h _ (varf_new w fz) ((Below.refl _ _).alloc (Nat.le_refl _) _) (hid (by simp)))
theorem wpList_ldf (hw : Region.wanted o (yielded ops a.tmps) = true) (y : Operand) (ho : o.op = .load 54 y) (hx : a.eval y = .pointer (some ⟨g, 0, none⟩)) (hv : VarF w g x)
    (h : wpList Tryz.prog ops Q rest (a.put o.dst (fv x)) w) : wpList Tryz.prog ops Q (o :: rest) a w :=
  wpList_step fun _ hK => by rw [if_pos hw]; exact wp_load_mid 54 y ho g 0 hx (encf x) _ hv.1 Tryz.underlying54 rfl (by rw [size25]; rfl) (hK _ _ h)
theorem wpList_svf (hg : o.guard = none) (y z : Operand) (ho : o.op = .store 54 y z) {p : Fr} (hx : a.eval y = .pointer (some ⟨g, 0, none⟩)) (hy : a.eval z = fv x) (hv : VarF w g p)
    (h : ∀ w', VarF w' g x → Below g w w' → Oth g w w' → Hid (w'.heap.size = w.heap.size) → wpList Tryz.prog ops Q rest (a.put o.dst undef) w') : wpList Tryz.prog ops Q (o :: rest) a w :=
  wpList_store_mid hg 54 y z ho g 0 (encf x).toArray hx hy hv.2 (by rw [size25]; rfl) (all_oneCell_toArray (encf_one x)) (h _ (varf_stored hv.2 x) (setCells_oth g _ _ _).1 (setCells_oth g _ _ _).2 (hid (setCells_size _ _ _ _)))
/-! ### Results that lie in cells -/
theorem ldfv (h : VarF w g x) : (loadVar 54 ⟨g, 0, none⟩).run Tryz.prog w = .ok (fv x) w := run_loadVar_mid w g 0 54 (encf x) _ h.1 Tryz.underlying54 rfl (by rw [size25]; rfl)
end
end Go.Proofs.YtlgedfljmgedfaaGreat.M10
namespace Go.Proofs.YtlgedfljmgedfaaGreat.M10
open Go Go.RowKit

/-- No node. -/
def Out (q : Int) : Prop := q < 0 ∨ 15 < q
theorem isNode_in (k : Nat) (w : World) (hk : k ≤ 15) : Calls Tryz.prog 111 #[.int .i64 (k : Int)] w fun e w' => e = .returned (.bool true) ∧ w = w' := by
  go_enter Tryz.func111, Tryz.ntmps111
  go_wp2
  go_ret
  exact ⟨ret_bool (by simp; omega), rfl⟩
theorem isNode_out (q : Int) (w : World) (hq : Out q) : Calls Tryz.prog 111 #[.int .i64 q] w fun e w' => e = .returned (.bool false) ∧ w = w' := by
  unfold Out at hq
  by_cases h : 0 ≤ q
  · have hq2 : 15 < q := by omega
    clear hq
    go_enter Tryz.func111, Tryz.ntmps111
    go_wp2
    go_ret
    exact ⟨ret_bool (by simp; omega), rfl⟩
  · clear hq
    go_enter Tryz.func111, Tryz.ntmps111
    go_wp2
    go_ret
    exact ⟨ret_bool (by simp), rfl⟩
theorem wrap_pow (k : Nat) (hk : k ≤ 15) : IntKind.u16.wrap ((2 : Int) ^ k) = ((2 ^ k : Nat) : Int) := by
  have hp := pow15 k hk
  have e : (2 : Int) ^ k = ((2 ^ k : Nat) : Int) := by norm_cast
  rw [IntKind.wrap_u16, e]
  generalize 2 ^ k = p at hp
  omega
theorem bit_in (k : Nat) (w : World) (hk : k ≤ 15) : Calls Tryz.prog 67 #[.int .i64 (k : Int)] w fun e w' => e = .returned (.int .u16 ((2 ^ k : Nat) : Int)) ∧ w = w' := by
  have hp := pow15 k hk
  have HP := hid (wrap_pow k hk)
  have HK := hid hk
  go_enter Tryz.func67, Tryz.ntmps67
  go_wp2_with (go_at_call 111; refine (isNode_in k _ HK.out).mono ?_; rintro e w' ⟨rfl, rfl⟩)
  go_ret
  exact ⟨ret_int HP.out, rfl⟩
theorem ne_of_hs (m k : Nat) : (((m &&& 2 ^ k : Nat) : Int) != 0) = hs m k := by
  have hp := Nat.two_pow_pos k
  rw [and_pow]
  cases h : hs m k
  · rfl
  · rw [if_pos rfl, bne_iff_ne]; omega
theorem has_in (m k : Nat) (w : World) (hm : m < 65536) (hk : k ≤ 15) : Calls Tryz.prog 26 #[.int .u16 (m : Int), .int .i64 (k : Int)] w fun e w' => e = .returned (.bool (hs m k)) ∧ w = w' := by
  have hp := pow15 k hk
  have hb := u16_and_nat m (2 ^ k) hm (by omega)
  have HR := hid (ne_of_hs m k)
  have HBT := hid (fun w => bit_in k w hk)
  generalize m &&& 2 ^ k = y at hb HR
  generalize 2 ^ k = p at *
  go_enter Tryz.func26, Tryz.ntmps26
  go_wp2_with (go_at_call 67; refine (HBT.out _).mono ?_; rintro e w' ⟨rfl, rfl⟩)
  go_ret
  exact ⟨ret_bool HR.out, rfl⟩
theorem with_in (m k : Nat) (w : World) (hm : m < 65536) (hk : k ≤ 15) : Calls Tryz.prog 75 #[.int .u16 (m : Int), .int .i64 (k : Int)] w fun e w' => e = .returned (.int .u16 (addb m k : Nat)) ∧ w = w' := by
  have hp := pow15 k hk
  have hb := u16_or_nat m (2 ^ k) hm (by omega)
  rw [or_pow] at hb
  have HBT := hid (fun w => bit_in k w hk)
  generalize addb m k = y at hb ⊢
  generalize 2 ^ k = p at *
  go_enter Tryz.func75, Tryz.ntmps75
  go_wp2_with (go_at_call 67; refine (HBT.out _).mono ?_; rintro e w' ⟨rfl, rfl⟩)
  go_ret
  exact ⟨rfl, rfl⟩
theorem without_in (m k : Nat) (w : World) (hm : m < 65536) (hk : k ≤ 15) : Calls Tryz.prog 92 #[.int .u16 (m : Int), .int .i64 (k : Int)] w fun e w' => e = .returned (.int .u16 (subb m k : Nat)) ∧ w = w' := by
  have hp := pow15 k hk
  have hb := u16_andNot_nat m (2 ^ k) hm (by omega)
  rw [andNot_pow m k hm hk] at hb
  have HBT := hid (fun w => bit_in k w hk)
  generalize subb m k = y at hb ⊢
  generalize 2 ^ k = p at *
  go_enter Tryz.func92, Tryz.ntmps92
  go_wp2_with (go_at_call 67; refine (HBT.out _).mono ?_; rintro e w' ⟨rfl, rfl⟩)
  go_ret
  exact ⟨rfl, rfl⟩
end Go.Proofs.YtlgedfljmgedfaaGreat.M10
namespace Go.Proofs.YtlgedfljmgedfaaGreat.M10
open Go Go.RowKit
def okF (x : Fr) : Nat := if OkF x then 0 else 1
theorem okF_ok {x : Fr} (h : OkF x) : okF x = 0 := if_pos h
theorem okF_bad {x : Fr} (h : ¬ OkF x) : okF x = 1 := if_neg h
/-- Why a frame may not be. -/
theorem bad_why (k f : Int) (s m : Nat) (h : ¬ OkF ⟨k, f, s, m⟩) : (k ≠ 1 ∧ k ≠ 2) ∨ Out f ∨ 4294967296 < s := by
  unfold OkF at h; unfold Out; simp only at h; omega
theorem fcheck_ok1 (k : Int) (q1 : (k != 1) = false) (_q2 : (k != 2) = true) (f1 s m : Nat) (w : World) (h : f1 ≤ 15) (hs : s ≤ 4294967296) : Calls Tryz.prog 61 #[fv ⟨k, (f1 : Int), s, m⟩] w fun e w' => e = .returned (.int .i64 0) ∧ Below w.heap.size w w' := by
  have HF := hid h
  go_enter Tryz.func61, Tryz.ntmps61
  go_wp2_with (first
    | (go_at_call 111; refine (isNode_in f1 _ HF.out).mono ?_; rintro e w' ⟨rfl, rfl⟩)
    | (refine wpList_boxf (x := ⟨k, (f1 : Int), s, m⟩) rfl (.tmp 0) rfl rfl ?_; intro w1 v1 b1 s1; have c0 : w1.cell? ⟨w.heap.size, 0, none⟩ = some (.int .i64 k) := v1.c0; have c1 : w1.cell? ⟨w.heap.size, 1, none⟩ = some (.int .i64 (f1 : Int)) := v1.c1; have c2 : w1.cell? ⟨w.heap.size, 2, none⟩ = some (.int .u64 (s : Int)) := v1.c2))
  go_ret
  exact ⟨rfl, b1⟩
theorem fcheck_slot1 (k : Int) (q1 : (k != 1) = false) (_q2 : (k != 2) = true) (f1 s m : Nat) (w : World) (h : f1 ≤ 15) (hs : 4294967296 < s) : Calls Tryz.prog 61 #[fv ⟨k, (f1 : Int), s, m⟩] w fun e w' => e = .returned (.int .i64 1) ∧ Below w.heap.size w w' := by
  have HF := hid h
  go_enter Tryz.func61, Tryz.ntmps61
  go_wp2_with (first
    | (go_at_call 111; refine (isNode_in f1 _ HF.out).mono ?_; rintro e w' ⟨rfl, rfl⟩)
    | (refine wpList_boxf (x := ⟨k, (f1 : Int), s, m⟩) rfl (.tmp 0) rfl rfl ?_; intro w1 v1 b1 s1; have c0 : w1.cell? ⟨w.heap.size, 0, none⟩ = some (.int .i64 k) := v1.c0; have c1 : w1.cell? ⟨w.heap.size, 1, none⟩ = some (.int .i64 (f1 : Int)) := v1.c1; have c2 : w1.cell? ⟨w.heap.size, 2, none⟩ = some (.int .u64 (s : Int)) := v1.c2))
  go_ret
  exact ⟨rfl, b1⟩
theorem fcheck_from1lo (k : Int) (q1 : (k != 1) = false) (_q2 : (k != 2) = true) (f : Int) (s m : Nat) (w : World) (h : f < 0) : Calls Tryz.prog 61 #[fv ⟨k, f, s, m⟩] w fun e w' => e = .returned (.int .i64 1) ∧ Below w.heap.size w w' := by
  have HF : Hid (Out f) := hid (by unfold Out; omega)
  go_enter Tryz.func61, Tryz.ntmps61
  go_wp2_with (first
    | (go_at_call 111; refine (isNode_out f _ HF.out).mono ?_; rintro e w' ⟨rfl, rfl⟩)
    | (refine wpList_boxf (x := ⟨k, f, s, m⟩) rfl (.tmp 0) rfl rfl ?_; intro w1 v1 b1 s1; have c0 : w1.cell? ⟨w.heap.size, 0, none⟩ = some (.int .i64 k) := v1.c0; have c1 : w1.cell? ⟨w.heap.size, 1, none⟩ = some (.int .i64 f) := v1.c1; have c2 : w1.cell? ⟨w.heap.size, 2, none⟩ = some (.int .u64 (s : Int)) := v1.c2))
  go_ret
  exact ⟨rfl, b1⟩
theorem fcheck_from1hi (k : Int) (q1 : (k != 1) = false) (_q2 : (k != 2) = true) (f : Int) (s m : Nat) (w : World) (h : 15 < f) : Calls Tryz.prog 61 #[fv ⟨k, f, s, m⟩] w fun e w' => e = .returned (.int .i64 1) ∧ Below w.heap.size w w' := by
  have HF : Hid (Out f) := hid (by unfold Out; omega)
  go_enter Tryz.func61, Tryz.ntmps61
  go_wp2_with (first
    | (go_at_call 111; refine (isNode_out f _ HF.out).mono ?_; rintro e w' ⟨rfl, rfl⟩)
    | (refine wpList_boxf (x := ⟨k, f, s, m⟩) rfl (.tmp 0) rfl rfl ?_; intro w1 v1 b1 s1; have c0 : w1.cell? ⟨w.heap.size, 0, none⟩ = some (.int .i64 k) := v1.c0; have c1 : w1.cell? ⟨w.heap.size, 1, none⟩ = some (.int .i64 f) := v1.c1; have c2 : w1.cell? ⟨w.heap.size, 2, none⟩ = some (.int .u64 (s : Int)) := v1.c2))
  go_ret
  exact ⟨rfl, b1⟩
theorem fcheck_ok2 (k : Int) (q1 : (k != 1) = true) (q2 : (k != 2) = false) (f1 s m : Nat) (w : World) (h : f1 ≤ 15) (hs : s ≤ 4294967296) : Calls Tryz.prog 61 #[fv ⟨k, (f1 : Int), s, m⟩] w fun e w' => e = .returned (.int .i64 0) ∧ Below w.heap.size w w' := by
  have HF := hid h
  go_enter Tryz.func61, Tryz.ntmps61
  go_wp2_with (first
    | (go_at_call 111; refine (isNode_in f1 _ HF.out).mono ?_; rintro e w' ⟨rfl, rfl⟩)
    | (refine wpList_boxf (x := ⟨k, (f1 : Int), s, m⟩) rfl (.tmp 0) rfl rfl ?_; intro w1 v1 b1 s1; have c0 : w1.cell? ⟨w.heap.size, 0, none⟩ = some (.int .i64 k) := v1.c0; have c1 : w1.cell? ⟨w.heap.size, 1, none⟩ = some (.int .i64 (f1 : Int)) := v1.c1; have c2 : w1.cell? ⟨w.heap.size, 2, none⟩ = some (.int .u64 (s : Int)) := v1.c2))
  go_ret
  exact ⟨rfl, b1⟩
theorem fcheck_slot2 (k : Int) (q1 : (k != 1) = true) (q2 : (k != 2) = false) (f1 s m : Nat) (w : World) (h : f1 ≤ 15) (hs : 4294967296 < s) : Calls Tryz.prog 61 #[fv ⟨k, (f1 : Int), s, m⟩] w fun e w' => e = .returned (.int .i64 1) ∧ Below w.heap.size w w' := by
  have HF := hid h
  go_enter Tryz.func61, Tryz.ntmps61
  go_wp2_with (first
    | (go_at_call 111; refine (isNode_in f1 _ HF.out).mono ?_; rintro e w' ⟨rfl, rfl⟩)
    | (refine wpList_boxf (x := ⟨k, (f1 : Int), s, m⟩) rfl (.tmp 0) rfl rfl ?_; intro w1 v1 b1 s1; have c0 : w1.cell? ⟨w.heap.size, 0, none⟩ = some (.int .i64 k) := v1.c0; have c1 : w1.cell? ⟨w.heap.size, 1, none⟩ = some (.int .i64 (f1 : Int)) := v1.c1; have c2 : w1.cell? ⟨w.heap.size, 2, none⟩ = some (.int .u64 (s : Int)) := v1.c2))
  go_ret
  exact ⟨rfl, b1⟩
theorem fcheck_from2lo (k : Int) (q1 : (k != 1) = true) (q2 : (k != 2) = false) (f : Int) (s m : Nat) (w : World) (h : f < 0) : Calls Tryz.prog 61 #[fv ⟨k, f, s, m⟩] w fun e w' => e = .returned (.int .i64 1) ∧ Below w.heap.size w w' := by
  have HF : Hid (Out f) := hid (by unfold Out; omega)
  go_enter Tryz.func61, Tryz.ntmps61
  go_wp2_with (first
    | (go_at_call 111; refine (isNode_out f _ HF.out).mono ?_; rintro e w' ⟨rfl, rfl⟩)
    | (refine wpList_boxf (x := ⟨k, f, s, m⟩) rfl (.tmp 0) rfl rfl ?_; intro w1 v1 b1 s1; have c0 : w1.cell? ⟨w.heap.size, 0, none⟩ = some (.int .i64 k) := v1.c0; have c1 : w1.cell? ⟨w.heap.size, 1, none⟩ = some (.int .i64 f) := v1.c1; have c2 : w1.cell? ⟨w.heap.size, 2, none⟩ = some (.int .u64 (s : Int)) := v1.c2))
  go_ret
  exact ⟨rfl, b1⟩
theorem fcheck_from2hi (k : Int) (q1 : (k != 1) = true) (q2 : (k != 2) = false) (f : Int) (s m : Nat) (w : World) (h : 15 < f) : Calls Tryz.prog 61 #[fv ⟨k, f, s, m⟩] w fun e w' => e = .returned (.int .i64 1) ∧ Below w.heap.size w w' := by
  have HF : Hid (Out f) := hid (by unfold Out; omega)
  go_enter Tryz.func61, Tryz.ntmps61
  go_wp2_with (first
    | (go_at_call 111; refine (isNode_out f _ HF.out).mono ?_; rintro e w' ⟨rfl, rfl⟩)
    | (refine wpList_boxf (x := ⟨k, f, s, m⟩) rfl (.tmp 0) rfl rfl ?_; intro w1 v1 b1 s1; have c0 : w1.cell? ⟨w.heap.size, 0, none⟩ = some (.int .i64 k) := v1.c0; have c1 : w1.cell? ⟨w.heap.size, 1, none⟩ = some (.int .i64 f) := v1.c1; have c2 : w1.cell? ⟨w.heap.size, 2, none⟩ = some (.int .u64 (s : Int)) := v1.c2))
  go_ret
  exact ⟨rfl, b1⟩
theorem fcheck_kind (k f : Int) (s m : Nat) (w : World) (h1 : k ≠ 1) (h2 : k ≠ 2) : Calls Tryz.prog 61 #[fv ⟨k, f, s, m⟩] w fun e w' => e = .returned (.int .i64 1) ∧ Below w.heap.size w w' := by
  have q1 : (k != 1) = true := by rw [bne_iff_ne]; exact h1
  have q2 : (k != 2) = true := by rw [bne_iff_ne]; exact h2
  go_enter Tryz.func61, Tryz.ntmps61
  go_wp2_with (first
    | (refine wpList_boxf (x := ⟨k, f, s, m⟩) rfl (.tmp 0) rfl rfl ?_; intro w1 v1 b1 s1; have c0 : w1.cell? ⟨w.heap.size, 0, none⟩ = some (.int .i64 k) := v1.c0; have c1 : w1.cell? ⟨w.heap.size, 1, none⟩ = some (.int .i64 f) := v1.c1; have c2 : w1.cell? ⟨w.heap.size, 2, none⟩ = some (.int .u64 (s : Int)) := v1.c2))
  go_ret
  exact ⟨rfl, b1⟩
theorem fcheck_any (x : Fr) (w : World) : Calls Tryz.prog 61 #[fv x] w fun e w' => e = .returned (.int .i64 (okF x : Nat)) ∧ Below w.heap.size w w' := by
  obtain ⟨k, f, s, m⟩ := x
  by_cases h : OkF ⟨k, f, s, m⟩
  · rw [okF_ok h]
    obtain ⟨h1, h2, h3, h4⟩ := h
    simp only at h1 h2 h3 h4
    obtain ⟨g, rfl⟩ : ∃ g : Nat, f = g := ⟨f.toNat, by omega⟩
    rcases h1 with rfl | rfl
    · exact fcheck_ok1 1 rfl rfl g s m w (by omega) h4
    · exact fcheck_ok2 2 rfl rfl g s m w (by omega) h4
  · rw [okF_bad h]
    by_cases hk : k ≠ 1 ∧ k ≠ 2
    · exact fcheck_kind k f s m w hk.1 hk.2
    · by_cases hf : f < 0
      · by_cases h1 : k = 1
        · subst h1; exact fcheck_from1lo 1 rfl rfl f s m w hf
        · obtain rfl : k = 2 := by omega
          exact fcheck_from2lo 2 rfl rfl f s m w hf
      · by_cases hf2 : 15 < f
        · by_cases h1 : k = 1
          · subst h1; exact fcheck_from1hi 1 rfl rfl f s m w hf2
          · obtain rfl : k = 2 := by omega
            exact fcheck_from2hi 2 rfl rfl f s m w hf2
        · obtain ⟨g, rfl⟩ : ∃ g : Nat, f = g := ⟨f.toNat, by omega⟩
          have hs : 4294967296 < s := by
            rcases bad_why _ _ _ _ h with c | c | c
            · exact absurd c hk
            · unfold Out at c; omega
            · exact c
          by_cases h1 : k = 1
          · subst h1; exact fcheck_slot1 1 rfl rfl g s m w (by omega) hs
          · obtain rfl : k = 2 := by omega
            exact fcheck_slot2 2 rfl rfl g s m w (by omega) hs
end Go.Proofs.YtlgedfljmgedfaaGreat.M10
namespace Go.Proofs.YtlgedfljmgedfaaGreat.M10
open Go Go.RowKit

/-- A tally: good, bad. -/
structure Ty where
  g : Int
  b : Int
deriving DecidableEq
def tz : Ty := ⟨0, 0⟩
/-- A tally's cells, its value. -/
def enct (x : Ty) : List Value := [.int .i64 x.g, .int .i64 x.b]
def tv (x : Ty) : Value := .agg (enct x).toArray
theorem enct_len (x : Ty) : (enct x).length = 2 := rfl
theorem enct_one (x : Ty) : ∀ u ∈ enct x, u.oneCell' = true := by
  intro u hu; simp [enct] at hu; rcases hu with rfl | rfl <;> rfl
theorem size29 : (Tryz.prog.info? 29).map (·.size) = some 2 := by kernel_rfl
theorem zero29 (w : World) : (zeroValue 29).run Tryz.prog w = .ok (tv tz) w := by kernel_rfl

/-- Block g is a variable that holds the tally. -/
def VarT (w : World) (g : Nat) (x : Ty) : Prop := w.rangeAt g 0 (enct x) ∧ w.there g 0 2

section
variable {w w' : World} {g : Nat} {x : Ty}
theorem VarT.below (h : VarT w g x) {B : Nat} (hk : Below B w w') (hb : g < B) : VarT w' g x := ⟨range_keep h.1 hb hk, there_keep h.2 hb hk⟩
theorem VarT.other (h : VarT w g x) {b : Nat} (ho : Oth b w w') (hb : g ≠ b) : VarT w' g x := ⟨range_other h.1 hb ho, there_other h.2 hb ho⟩
theorem VarT.lt (h : VarT w g x) : g < w.heap.size := World.block_lt_of_cell? w _ (h.1 0 _ rfl)
theorem VarT.keep (h : VarT w g x) (hk : Below w.heap.size w w') : VarT w' g x := h.below hk h.lt
theorem VarT.c0 (h : VarT w g x) : w.cell? ⟨g, 0, none⟩ = some (.int .i64 x.g) := h.1 0 _ rfl
theorem VarT.c1 (h : VarT w g x) : w.cell? ⟨g, 1, none⟩ = some (.int .i64 x.b) := h.1 1 _ rfl
/-- A new variable. -/
theorem vart_new (w : World) (x : Ty) : VarT (w.alloc (.cells (enct x).toArray 29)) w.heap.size x := by
  have h1 : (w.alloc (.cells (enct x).toArray 29)).rangeAt w.heap.size 0 (enct x) := fun j v hv => by
    rw [Nat.zero_add, cell_of_row _ _ _ _ _ _ (heap_alloc_new w _)]
    simpa using hv
  refine ⟨h1, fun j hj => ⟨?_, frozen_of_row _ _ _ _ _ (heap_alloc_new w _)⟩⟩
  rw [h1 j _ (List.getElem?_eq_getElem (by rw [enct_len]; exact hj))]; rfl

theorem vart_stored (ht : w.there g 0 2) (x : Ty) : VarT (w.setCells g 0 (enct x)) g x := ⟨World.rangeAt_setCells_same w g 0 (enct x) ht, there_set _ _ ht⟩

/-! ### At the operation, for the walk -/
variable {ops : Array Oper} {rest : List Oper} {o : Oper} {a : Act} {Q : Exit → Act → World → Prop}
theorem wpList_boxt (hg : o.guard = none) (y : Operand) (ho : o.op = .box 29 y) (hx : a.eval y = tv x)
    (h : ∀ w', VarT w' w.heap.size x → Below w.heap.size w w' → Hid (w'.heap.size = w.heap.size + 1) → wpList Tryz.prog ops Q rest (a.put o.dst (.pointer (some ⟨w.heap.size, 0, none⟩))) w') : wpList Tryz.prog ops Q (o :: rest) a w := by
  refine wpList_plain hg fun K hK => ?_
  unfold Oper.wp execOp
  simp only [ho, hx, Sem.run_bind, Instr.box, newVar, newRow, run_newObj_alloc, Sem.run_pure, Result.andThen_ok]
  exact hK _ _ (h _ (vart_new w x) ((Below.refl _ _).alloc (Nat.le_refl _) _) (hid (by simp)))
theorem wpList_alt (hg : o.guard = none) (ho : o.op = .alloc 29)
    (h : ∀ w', VarT w' w.heap.size tz → Below w.heap.size w w' → Hid (w'.heap.size = w.heap.size + 1) → wpList Tryz.prog ops Q rest (a.put o.dst (.pointer (some ⟨w.heap.size, 0, none⟩))) w') : wpList Tryz.prog ops Q (o :: rest) a w := by
  refine wpList_plain hg fun K hK => ?_
  unfold Oper.wp execOp
  simp only [ho, Sem.run_bind, Instr.alloc, zero29, newVar, newRow, run_newObj_alloc, Sem.run_pure, Result.andThen_ok]
  exact hK _ _ (h _ (vart_new w tz) ((Below.refl _ _).alloc (Nat.le_refl _) _) (hid (by simp)))
theorem wpList_ldt (hw : Region.wanted o (yielded ops a.tmps) = true) (y : Operand) (ho : o.op = .load 29 y) (hx : a.eval y = .pointer (some ⟨g, 0, none⟩)) (hv : VarT w g x)
    (h : wpList Tryz.prog ops Q rest (a.put o.dst (tv x)) w) : wpList Tryz.prog ops Q (o :: rest) a w :=
  wpList_step fun _ hK => by rw [if_pos hw]; exact wp_load_mid 29 y ho g 0 hx (enct x) _ hv.1 Tryz.underlying29 rfl (by rw [size29]; rfl) (hK _ _ h)
theorem wpList_svt (hg : o.guard = none) (y z : Operand) (ho : o.op = .store 29 y z) {p : Ty} (hx : a.eval y = .pointer (some ⟨g, 0, none⟩)) (hy : a.eval z = tv x) (hv : VarT w g p)
    (h : ∀ w', VarT w' g x → Below g w w' → Oth g w w' → Hid (w'.heap.size = w.heap.size) → wpList Tryz.prog ops Q rest (a.put o.dst undef) w') : wpList Tryz.prog ops Q (o :: rest) a w :=
  wpList_store_mid hg 29 y z ho g 0 (enct x).toArray hx hy hv.2 (by rw [size29]; rfl) (all_oneCell_toArray (enct_one x)) (h _ (vart_stored hv.2 x) (setCells_oth g _ _ _).1 (setCells_oth g _ _ _).2 (hid (setCells_size _ _ _ _)))
/-- One cell stored. -/
theorem wpList_st1 (hg : o.guard = none) (ty : TypeId) (y z : Operand) (ho : o.op = .store ty y z) (j : Nat) (v : Value) (hx : a.eval y = .pointer (some ⟨g, j, none⟩)) (hy : a.eval z = v) (hc : v.cells = #[v]) (h1 : v.oneCell' = true) (hs : (Tryz.prog.info? ty).map (·.size) = some 1)
    (hv : w.there g 0 2) (hj : j < 2) (h : wpList Tryz.prog ops Q rest (a.put o.dst undef) (w.setCells g j [v])) : wpList Tryz.prog ops Q (o :: rest) a w := by
  refine wpList_plain hg fun K hK => ?_
  have ht : w.there g j 1 := fun i hi => by have := hv (j + i) (by omega); rwa [Nat.zero_add] at this
  have := run_storeCells_cells (P := Tryz.prog) g j [v] 0 w (fun i hi => by simpa using (ht i (by simpa using hi)).1) (fun i hi => by simpa using (ht i (by simpa using hi)).2) (fun u hu => by simp at hu; rw [hu]; exact h1)
  unfold Oper.wp execOp
  cases hq : Tryz.prog.info? ty with
  | none => simp [hq] at hs
  | some i =>
    have hz : i.size = 1 := by simpa [hq] using hs
    simp only [Nat.add_zero] at this
    have hsv : (storeVar ty ⟨g, j, none⟩ v).run Tryz.prog w = .ok () (w.setCells g j [v]) := by
      simp [storeVar, sizeOf, typeInfo, hq, hc, hz, this]
    simp only [ho, hx, hy, Instr.storeAt, Instr.sureAddr, Sem.run_bind, Sem.run_pure, Result.andThen_ok, hsv]
    exact hK _ _ h
theorem range_set {cs : List Value} {j : Nat} {v : Value} (h : w.rangeAt g 0 cs) (ht : w.there g 0 cs.length) (hj : j < cs.length) : (w.setCells g j [v]).rangeAt g 0 (cs.set j v) := by
  intro i u hu
  rw [Nat.zero_add]
  have hil : i < cs.length := by have := (List.getElem?_eq_some_iff.1 hu).1; simpa using this
  by_cases e : i = j
  · subst e
    have h2 := World.rangeAt_setCells_same w g i [v] (fun k hk => by have := ht (i + k) (by simp at hk; omega); rwa [Nat.zero_add] at this) 0 v rfl
    rw [List.getElem?_set_self hil] at hu
    injection hu with hu; subst hu; simpa using h2
  · rw [List.getElem?_set_ne (by omega)] at hu
    have h2 : w.rangeAt g i [u] := fun k x hx => by
      rcases k with _ | k
      · simp at hx; subst hx; have := h i _ hu; rwa [Nat.zero_add] at this
      · simp at hx
    have h3 := World.rangeAt_setCells_apart h2 g j [v] (by simp; omega) 0 u rfl
    simpa using h3
theorem size3 : (Tryz.prog.info? 3).map (·.size) = some 1 := by kernel_rfl
theorem wpList_sg (hg : o.guard = none) (y z : Operand) (ho : o.op = .store 3 y z) {n : Int} (hx : a.eval y = .pointer (some ⟨g, 0, none⟩)) (hy : a.eval z = .int .i64 n) (hv : VarT w g x)
    (h : ∀ w', VarT w' g { x with g := n } → Below g w w' → Oth g w w' → Hid (w'.heap.size = w.heap.size) → wpList Tryz.prog ops Q rest (a.put o.dst undef) w') : wpList Tryz.prog ops Q (o :: rest) a w :=
  wpList_st1 hg 3 y z ho 0 (.int .i64 n) hx hy rfl rfl size3 hv.2 (by omega) (h _ ⟨range_set (cs := enct x) hv.1 hv.2 (by rw [enct_len]; omega), there_set _ _ hv.2⟩ (setCells_oth g _ _ _).1 (setCells_oth g _ _ _).2 (hid (setCells_size _ _ _ _)))
theorem wpList_sb (hg : o.guard = none) (y z : Operand) (ho : o.op = .store 3 y z) {n : Int} (hx : a.eval y = .pointer (some ⟨g, 1, none⟩)) (hy : a.eval z = .int .i64 n) (hv : VarT w g x)
    (h : ∀ w', VarT w' g { x with b := n } → Below g w w' → Oth g w w' → Hid (w'.heap.size = w.heap.size) → wpList Tryz.prog ops Q rest (a.put o.dst undef) w') : wpList Tryz.prog ops Q (o :: rest) a w :=
  wpList_st1 hg 3 y z ho 1 (.int .i64 n) hx hy rfl rfl size3 hv.2 (by omega) (h _ ⟨range_set (cs := enct x) hv.1 hv.2 (by rw [enct_len]; omega), there_set _ _ hv.2⟩ (setCells_oth g _ _ _).1 (setCells_oth g _ _ _).2 (hid (setCells_size _ _ _ _)))
/-! ### Results that lie in cells -/
theorem ldtv (h : VarT w g x) : (loadVar 29 ⟨g, 0, none⟩).run Tryz.prog w = .ok (tv x) w := run_loadVar_mid w g 0 29 (enct x) _ h.1 Tryz.underlying29 rfl (by rw [size29]; rfl)
theorem results_t {fn : Func} {p : Tmp} (h : fn.results = #[.cell p 29]) (tmps : Array Value) (hp : tmps.getD p undef = .pointer (some ⟨g, 0, none⟩)) (hx : VarT w g x) :
    (results fn tmps).run Tryz.prog w = .ok (tv x) w := by
  have := ldtv hx
  have hp' : tmps[p]?.getD undef = .pointer (some ⟨g, 0, none⟩) := by simpa using hp
  simp only [results, h]
  simp [hp', this, asAddr]
end
end Go.Proofs.YtlgedfljmgedfaaGreat.M10
