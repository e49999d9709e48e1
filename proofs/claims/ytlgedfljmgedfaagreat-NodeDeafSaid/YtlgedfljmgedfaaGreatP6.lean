/-
  Texts Fe, Ff of this seat, as far as they are used.
-/
import Derived.Test.YtlgedfljmgedfaaGreatP5
import Derived.WalkKit
import Derived.WalkSpells
import Derived.WalkLawsBesides
import Derived.LoopTactic
import Derived.RegionTactic
import Derived.Deep.QuietTactic
import Derived.BigQuiet
import Derived.Deep.Light
import Derived.Below
import Derived.Maps.AppendAt
import Derived.OwnWalk
import Derived.Laws.OwnMore
import Derived.Deep.MidRow
import Derived.Deep.RegionHeld3
import Derived.Deep.DeepCutAuto
import Derived.Lib.QuietBelow
namespace Go.Proofs.YtlgedfljmgedfaaGreat.F8
open Go Go.RowKit

theorem ret_two {k1 k2 : IntKind} {a b c d : Int} (h : a = b) (h' : c = d) : Ending.returned (.tuple #[.int k1 a, .int k2 c]) = .returned (.tuple #[.int k1 b, .int k2 d]) := by rw [h, h']
theorem ret_three {k1 k2 k3 : IntKind} {a b c d e f : Int} (h : a = b) (h' : c = d) (h'' : e = f) : Ending.returned (.tuple #[.int k1 a, .int k2 c, .int k3 e]) = .returned (.tuple #[.int k1 b, .int k2 d, .int k3 f]) := by rw [h, h', h'']

/-- A frame's cells, its value. -/
def encf (x : Fr) : List Value := [.int .i64 x.k, .int .i64 x.f, .int .u64 (x.s : Int), .int .u16 (x.m : Int)]
def fv (x : Fr) : Value := .agg (encf x).toArray
theorem encf_len (x : Fr) : (encf x).length = 4 := rfl
theorem encf_one (x : Fr) : ∀ u ∈ encf x, u.oneCell' = true := by
  intro u hu; simp [encf] at hu; rcases hu with rfl | rfl | rfl | rfl <;> rfl
theorem size25 : (Tryz.prog.info? 54).map (·.size) = some 4 := by kernel_rfl
theorem zero25 (w : World) : (zeroValue 54).run Tryz.prog w = .ok (fv fz) w := by kernel_rfl

/-- Block g is a variable that holds the frame. -/
def VarF (w : World) (g : Nat) (x : Fr) : Prop := w.rangeAt g 0 (encf x) ∧ w.there g 0 4
/-- Only block g is another one. -/
def Oth (g : Nat) (w w' : World) : Prop := ∀ k, k ≠ g → w'.heap[k]? = w.heap[k]?
theorem range_keep {w w' : World} {b o : Nat} {cs : List Value} (h : w.rangeAt b o cs) {B : Nat} (hb : b < B) (hk : Below B w w') : w'.rangeAt b o cs := fun j v hv => (hk.cell (p := ⟨b, o + j, none⟩) hb).trans (h j v hv)
theorem there_keep {w w' : World} {b o n : Nat} (h : w.there b o n) {B : Nat} (hb : b < B) (hk : Below B w w') : w'.there b o n := fun j hj =>
  ⟨by rw [hk.cell (p := ⟨b, o + j, none⟩) hb]; exact (h j hj).1, by rw [hk.frozen (p := ⟨b, o + j, none⟩) hb]; exact (h j hj).2⟩
theorem range_other {w w' : World} {b o g : Nat} {cs : List Value} (h : w.rangeAt b o cs) (hb : b ≠ g) (ho : Oth g w w') : w'.rangeAt b o cs := fun j v hv => (World.cell?_of_block (a := ⟨b, o + j, none⟩) (ho b hb)).trans (h j v hv)
theorem there_other {w w' : World} {b o n g : Nat} (h : w.there b o n) (hb : b ≠ g) (ho : Oth g w w') : w'.there b o n := fun j hj =>
  ⟨by rw [World.cell?_of_block (a := ⟨b, o + j, none⟩) (ho b hb)]; exact (h j hj).1, by rw [World.frozen?_of_block (a := ⟨b, o + j, none⟩) (ho b hb)]; exact (h j hj).2⟩
section
variable {w w' : World} {g : Nat} {x : Fr}
theorem VarF.below (h : VarF w g x) {B : Nat} (hk : Below B w w') (hb : g < B) : VarF w' g x := ⟨range_keep h.1 hb hk, there_keep h.2 hb hk⟩
theorem VarF.other (h : VarF w g x) {b : Nat} (ho : Oth b w w') (hb : g ≠ b) : VarF w' g x := ⟨range_other h.1 hb ho, there_other h.2 hb ho⟩
theorem VarF.lt (h : VarF w g x) : g < w.heap.size := World.block_lt_of_cell? w _ (h.1 0 _ rfl)
theorem VarF.keep (h : VarF w g x) (hk : Below w.heap.size w w') : VarF w' g x := h.below hk h.lt
theorem VarF.c0 (h : VarF w g x) : w.cell? ⟨g, 0, none⟩ = some (.int .i64 x.k) := h.1 0 _ rfl
theorem VarF.c1 (h : VarF w g x) : w.cell? ⟨g, 1, none⟩ = some (.int .i64 x.f) := h.1 1 _ rfl
theorem VarF.c2 (h : VarF w g x) : w.cell? ⟨g, 2, none⟩ = some (.int .u64 (x.s : Int)) := h.1 2 _ rfl
theorem VarF.c3 (h : VarF w g x) : w.cell? ⟨g, 3, none⟩ = some (.int .u16 (x.m : Int)) := h.1 3 _ rfl
/-- A new variable. -/
theorem varf_new (w : World) (x : Fr) : VarF (w.alloc (.cells (encf x).toArray 54)) w.heap.size x := by
  have h1 : (w.alloc (.cells (encf x).toArray 54)).rangeAt w.heap.size 0 (encf x) := fun j v hv => by
    rw [Nat.zero_add, cell_of_row _ _ _ _ _ _ (heap_alloc_new w _)]
    simpa using hv
  refine ⟨h1, fun j hj => ⟨?_, frozen_of_row _ _ _ _ _ (heap_alloc_new w _)⟩⟩
  rw [h1 j _ (List.getElem?_eq_getElem (by rw [encf_len]; exact hj))]; rfl
/-- Cells of a block set: no other one is touched. -/
theorem setCells_oth (g : Nat) : ∀ (vs : List Value) (o : Nat) (w : World), Below g w (w.setCells g o vs) ∧ Oth g w (w.setCells g o vs) := by
  intro vs
  induction vs with
  | nil => exact fun o w => ⟨Below.refl _ _, fun _ _ => rfl⟩
  | cons v r ih => exact fun o w => ⟨((Below.refl _ _).setCell (p := ⟨g, o, none⟩) (Nat.le_refl _) v).trans (ih (o + 1) _).1, fun k hk => ((ih (o + 1) _).2 k hk).trans (Below.heap_setCell w ⟨g, o, none⟩ v k hk)⟩
theorem setCells_size (g : Nat) : ∀ (vs : List Value) (o : Nat) (w : World), (w.setCells g o vs).heap.size = w.heap.size := by
  intro vs
  induction vs with
  | nil => exact fun o w => rfl
  | cons v r ih => exact fun o w => (ih (o + 1) _).trans (by simp)
theorem there_set {n : Nat} (vs : List Value) (o : Nat) (h : w.there g 0 n) : (w.setCells g o vs).there g 0 n := World.there_setCells h g o vs
theorem varf_stored (ht : w.there g 0 4) (x : Fr) : VarF (w.setCells g 0 (encf x)) g x := ⟨World.rangeAt_setCells_same w g 0 (encf x) ht, there_set _ _ ht⟩

/-! ### At the operation, for the walk -/
variable {ops : Array Oper} {rest : List Oper} {o : Oper} {a : Act} {Q : Exit → Act → World → Prop}
theorem wpList_boxf (hg : o.guard = none) (y : Operand) (ho : o.op = .box 54 y) (hx : a.eval y = fv x)
    (h : ∀ w', VarF w' w.heap.size x → Below w.heap.size w w' → Hid (w'.heap.size = w.heap.size + 1) → wpList Tryz.prog ops Q rest (a.put o.dst (.pointer (some ⟨w.heap.size, 0, none⟩))) w') : wpList Tryz.prog ops Q (o :: rest) a w := by
  refine wpList_plain hg fun K hK => ?_
  unfold Oper.wp execOp
  simp only [ho, hx, Sem.run_bind, Instr.box, newVar, newRow, run_newObj_alloc, Sem.run_pure, Result.andThen_ok]
  exact hK _ _ (h _ (varf_new w x) ((Below.refl _ _).alloc (Nat.le_refl _) _) (hid (by simp)))
theorem wpList_alf (hg : o.guard = none) (ho : o.op = .alloc 54)
    (h : ∀ w', VarF w' w.heap.size fz → Below w.heap.size w w' → Hid (w'.heap.size = w.heap.size + 1) → wpList Tryz.prog ops Q rest (a.put o.dst (.pointer (some ⟨w.heap.size, 0, none⟩))) w') : wpList Tryz.prog ops Q (o :: rest) a w := by
  refine wpList_plain hg fun K hK => ?_
  unfold Oper.wp execOp
  simp only [ho, Sem.run_bind, Instr.alloc, zero25, newVar, newRow, run_newObj_alloc, Sem.run_pure, Result.andThen_ok]
  exact hK _ _ (h _ (varf_new w fz) ((Below.refl _ _).alloc (Nat.le_refl _) _) (hid (by simp)))
theorem wpList_ldf (hw : Region.wanted o (yielded ops a.tmps) = true) (y : Operand) (ho : o.op = .load 54 y) (hx : a.eval y = .pointer (some ⟨g, 0, none⟩)) (hv : VarF w g x)
    (h : wpList Tryz.prog ops Q rest (a.put o.dst (fv x)) w) : wpList Tryz.prog ops Q (o :: rest) a w :=
  wpList_step fun _ hK => by rw [if_pos hw]; exact wp_load_mid 54 y ho g 0 hx (encf x) _ hv.1 Tryz.underlying54 rfl (by rw [size25]; rfl) (hK _ _ h)
theorem wpList_svf (hg : o.guard = none) (y z : Operand) (ho : o.op = .store 54 y z) {p : Fr} (hx : a.eval y = .pointer (some ⟨g, 0, none⟩)) (hy : a.eval z = fv x) (hv : VarF w g p)
    (h : ∀ w', VarF w' g x → Below g w w' → Oth g w w' → Hid (w'.heap.size = w.heap.size) → wpList Tryz.prog ops Q rest (a.put o.dst undef) w') : wpList Tryz.prog ops Q (o :: rest) a w :=
  wpList_store_mid hg 54 y z ho g 0 (encf x).toArray hx hy hv.2 (by rw [size25]; rfl) (all_oneCell_toArray (encf_one x)) (h _ (varf_stored hv.2 x) (setCells_oth g _ _ _).1 (setCells_oth g _ _ _).2 (hid (setCells_size _ _ _ _)))
/-! ### Results that lie in cells -/
theorem ldfv (h : VarF w g x) : (loadVar 54 ⟨g, 0, none⟩).run Tryz.prog w = .ok (fv x) w := run_loadVar_mid w g 0 54 (encf x) _ h.1 Tryz.underlying54 rfl (by rw [size25]; rfl)
end
end Go.Proofs.YtlgedfljmgedfaaGreat.F8
namespace Go.Proofs.YtlgedfljmgedfaaGreat.F8
open Go Go.RowKit

/-- No node. -/
def Out (q : Int) : Prop := q < 0 ∨ 15 < q
theorem isNode_in (k : Nat) (w : World) (hk : k ≤ 15) : Calls Tryz.prog 111 #[.int .i64 (k : Int)] w fun e w' => e = .returned (.bool true) ∧ w = w' := by
  go_enter Tryz.func111, Tryz.ntmps111
  go_wp2
  go_ret
  exact ⟨ret_bool (by simp; omega), rfl⟩
theorem isNode_out (q : Int) (w : World) (hq : Out q) : Calls Tryz.prog 111 #[.int .i64 q] w fun e w' => e = .returned (.bool false) ∧ w = w' := by
  unfold Out at hq
  by_cases h : 0 ≤ q
  · have hq2 : 15 < q := by omega
    clear hq
    go_enter Tryz.func111, Tryz.ntmps111
    go_wp2
    go_ret
    exact ⟨ret_bool (by simp; omega), rfl⟩
  · clear hq
    go_enter Tryz.func111, Tryz.ntmps111
    go_wp2
    go_ret
    exact ⟨ret_bool (by simp), rfl⟩
theorem wrap_pow (k : Nat) (hk : k ≤ 15) : IntKind.u16.wrap ((2 : Int) ^ k) = ((2 ^ k : Nat) : Int) := by
  have hp := pow15 k hk
  have e : (2 : Int) ^ k = ((2 ^ k : Nat) : Int) := by norm_cast
  rw [IntKind.wrap_u16, e]
  generalize 2 ^ k = p at hp
  omega
theorem bit_in (k : Nat) (w : World) (hk : k ≤ 15) : Calls Tryz.prog 67 #[.int .i64 (k : Int)] w fun e w' => e = .returned (.int .u16 ((2 ^ k : Nat) : Int)) ∧ w = w' := by
  have hp := pow15 k hk
  have HP := hid (wrap_pow k hk)
  have HK := hid hk
  go_enter Tryz.func67, Tryz.ntmps67
  go_wp2_with (go_at_call 111; refine (isNode_in k _ HK.out).mono ?_; rintro e w' ⟨rfl, rfl⟩)
  go_ret
  exact ⟨ret_int HP.out, rfl⟩
theorem ne_of_hs (m k : Nat) : (((m &&& 2 ^ k : Nat) : Int) != 0) = hs m k := by
  have hp := Nat.two_pow_pos k
  rw [and_pow]
  cases h : hs m k
  · rfl
  · rw [if_pos rfl, bne_iff_ne]; omega
theorem has_in (m k : Nat) (w : World) (hm : m < 65536) (hk : k ≤ 15) : Calls Tryz.prog 26 #[.int .u16 (m : Int), .int .i64 (k : Int)] w fun e w' => e = .returned (.bool (hs m k)) ∧ w = w' := by
  have hp := pow15 k hk
  have hb := u16_and_nat m (2 ^ k) hm (by omega)
  have HR := hid (ne_of_hs m k)
  have HBT := hid (fun w => bit_in k w hk)
  generalize m &&& 2 ^ k = y at hb HR
  generalize 2 ^ k = p at *
  go_enter Tryz.func26, Tryz.ntmps26
  go_wp2_with (go_at_call 67; refine (HBT.out _).mono ?_; rintro e w' ⟨rfl, rfl⟩)
  go_ret
  exact ⟨ret_bool HR.out, rfl⟩
theorem with_in (m k : Nat) (w : World) (hm : m < 65536) (hk : k ≤ 15) : Calls Tryz.prog 75 #[.int .u16 (m : Int), .int .i64 (k : Int)] w fun e w' => e = .returned (.int .u16 (addb m k : Nat)) ∧ w = w' := by
  have hp := pow15 k hk
  have hb := u16_or_nat m (2 ^ k) hm (by omega)
  rw [or_pow] at hb
  have HBT := hid (fun w => bit_in k w hk)
  generalize addb m k = y at hb ⊢
  generalize 2 ^ k = p at *
  go_enter Tryz.func75, Tryz.ntmps75
  go_wp2_with (go_at_call 67; refine (HBT.out _).mono ?_; rintro e w' ⟨rfl, rfl⟩)
  go_ret
  exact ⟨rfl, rfl⟩
theorem without_in (m k : Nat) (w : World) (hm : m < 65536) (hk : k ≤ 15) : Calls Tryz.prog 92 #[.int .u16 (m : Int), .int .i64 (k : Int)] w fun e w' => e = .returned (.int .u16 (subb m k : Nat)) ∧ w = w' := by
  have hp := pow15 k hk
  have hb := u16_andNot_nat m (2 ^ k) hm (by omega)
  rw [andNot_pow m k hm hk] at hb
  have HBT := hid (fun w => bit_in k w hk)
  generalize subb m k = y at hb ⊢
  generalize 2 ^ k = p at *
  go_enter Tryz.func92, Tryz.ntmps92
  go_wp2_with (go_at_call 67; refine (HBT.out _).mono ?_; rintro e w' ⟨rfl, rfl⟩)
  go_ret
  exact ⟨rfl, rfl⟩
theorem bel_drewN {B : Nat} {a w : World} (h : Below B a w) (n : Nat) : Below B a (w.drewN n) := by
  induction n with
  | zero => exact h
  | succ n ih => exact ih.drew
/-- How many bits of a byte are 1, as the library's table has it. -/
@[reducible] def pop8 : ByteArray := ⟨(((([0, 1, 1, 2, 1, 2, 2, 3, 1, 2, 2, 3, 2, 3, 3, 4, 1, 2, 2, 3, 2, 3, 3, 4, 2, 3, 3, 4, 3, 4, 4, 5, 1, 2, 2, 3, 2, 3, 3, 4, 2, 3, 3, 4, 3, 4, 4, 5, 2, 3, 3, 4, 3, 4, 4, 5, 3, 4, 4, 5, 4, 5, 5, 6] : List UInt8).append [1, 2, 2, 3, 2, 3, 3, 4, 2, 3, 3, 4, 3, 4, 4, 5, 2, 3, 3, 4, 3, 4, 4, 5, 3, 4, 4, 5, 4, 5, 5, 6, 2, 3, 3, 4, 3, 4, 4, 5, 3, 4, 4, 5, 4, 5, 5, 6, 3, 4, 4, 5, 4, 5, 5, 6, 4, 5, 5, 6, 5, 6, 6, 7]).append ([1, 2, 2, 3, 2, 3, 3, 4, 2, 3, 3, 4, 3, 4, 4, 5, 2, 3, 3, 4, 3, 4, 4, 5, 3, 4, 4, 5, 4, 5, 5, 6, 2, 3, 3, 4, 3, 4, 4, 5, 3, 4, 4, 5, 4, 5, 5, 6, 3, 4, 4, 5, 4, 5, 5, 6, 4, 5, 5, 6, 5, 6, 6, 7].append [2, 3, 3, 4, 3, 4, 4, 5, 3, 4, 4, 5, 4, 5, 5, 6, 3, 4, 4, 5, 4, 5, 5, 6, 4, 5, 5, 6, 5, 6, 6, 7, 3, 4, 4, 5, 4, 5, 5, 6, 4, 5, 5, 6, 5, 6, 6, 7, 4, 5, 5, 6, 5, 6, 6, 7, 5, 6, 6, 7, 6, 7, 7, 8]))).toArray⟩
theorem pop8_size : pop8.size = 256 := by decide +kernel
theorem pop8_all : ∀ a : Fin 256, (pop8[a.val]'(by rw [pop8_size]; exact a.isLt)).toNat = cn a.val 8 := by decide +kernel
theorem idx8 (a : Nat) (h : a < 256) (w : World) : (Instr.index 9 (.string pop8) (.int .u16 (a : Int))).run Tryz.prog w = .ok (.int .u8 ((cn a 8 : Nat) : Int)) w := by
  have h2 : 0 ≤ (a : Int) ∧ (a : Int) < (pop8.size : Int) := by rw [pop8_size]; omega
  rw [run_index_string w 9 pop8 .u16 (a : Int) Tryz.underlying9, dif_pos h2]
  have := pop8_all ⟨a, h⟩
  simp only [Int.toNat_natCast]
  rw [this]
set_option maxRecDepth 100000 in
theorem ones_any (m : Nat) (w : World) (hm : m < 65536) : Calls Tryz.prog 123 #[.int .u16 (m : Int)] w fun e w' => e = .returned (.int .i64 (cn m 16 : Nat)) ∧ Below w.heap.size w w' := by
  have e1 : bits .and .u16 (m : Int) 255 = ((m % 256 : Nat) : Int) := by
    have := u16_and_nat m 255 hm (by omega)
    rw [nat_mask8] at this; exact this
  have e2 : (m : Int) / 256 = ((m / 256 : Nat) : Int) := by omega
  have i1 := idx8 (m / 256) (by omega)
  have i2 := idx8 (m % 256) (by omega)
  have c1 := cn_le (m / 256) 8
  have c2 := cn_le (m % 256) 8
  have HC := hid (cn_halves m)
  generalize cn (m / 256) 8 = x at *
  generalize cn (m % 256) 8 = y at *
  generalize cn m 16 = z at *
  generalize m / 256 = p at *
  generalize m % 256 = q at *
  obtain ⟨S, hS⟩ : ∃ S, S = pop8 := ⟨_, rfl⟩
  rw [← hS] at i1 i2
  unfold pop8 at hS
  go_enter Tryz.func123, Tryz.ntmps123
  rw [← hS]
  clear hS
  go_wp2
  go_quiet (fail)
  go_wp2
  go_ret
  exact ⟨by rw [HC.out]; simp, bel_drewN (Below.refl _ _) _⟩
theorem count_any (m : Nat) (w : World) (hm : m < 65536) : Calls Tryz.prog 77 #[.int .u16 (m : Int)] w fun e w' => e = .returned (.int .i64 (cn m 16 : Nat)) ∧ Below w.heap.size w w' := by
  go_enter Tryz.func77, Tryz.ntmps77
  go_wp2_with (go_at_call 123; refine (ones_any m _ hm).mono ?_; rintro e w1 ⟨rfl, b1⟩)
  go_ret
  exact ⟨rfl, b1⟩
end Go.Proofs.YtlgedfljmgedfaaGreat.F8
namespace Go.Proofs.YtlgedfljmgedfaaGreat.F8
open Go Go.RowKit
def okE (x : Fr) : Nat := if OkF x then 0 else 1
theorem okE_ok {x : Fr} (h : OkF x) : okE x = 0 := if_pos h
theorem okE_bad {x : Fr} (h : ¬ OkF x) : okE x = 1 := if_neg h
/-- Why a frame may not be. -/
theorem bad_why (k f : Int) (s m : Nat) (h : ¬ OkF ⟨k, f, s, m⟩) : (k ≠ 1 ∧ k ≠ 2) ∨ Out f ∨ 4294967296 < s := by
  unfold OkF at h; unfold Out; simp only at h; omega
theorem check_ok1 (k : Int) (q1 : (k != 1) = false) (_q2 : (k != 2) = true) (f1 s m : Nat) (w : World) (h : f1 ≤ 15) (hs : s ≤ 4294967296) : Calls Tryz.prog 61 #[fv ⟨k, (f1 : Int), s, m⟩] w fun e w' => e = .returned (.int .i64 0) ∧ Below w.heap.size w w' := by
  have HF := hid h
  go_enter Tryz.func61, Tryz.ntmps61
  go_wp2_with (first
    | (go_at_call 111; refine (isNode_in f1 _ HF.out).mono ?_; rintro e w' ⟨rfl, rfl⟩)
    | (refine wpList_boxf (x := ⟨k, (f1 : Int), s, m⟩) rfl (.tmp 0) rfl rfl ?_; intro w1 v1 b1 s1; have c0 : w1.cell? ⟨w.heap.size, 0, none⟩ = some (.int .i64 k) := v1.c0; have c1 : w1.cell? ⟨w.heap.size, 1, none⟩ = some (.int .i64 (f1 : Int)) := v1.c1; have c2 : w1.cell? ⟨w.heap.size, 2, none⟩ = some (.int .u64 (s : Int)) := v1.c2))
  go_ret
  exact ⟨rfl, b1⟩
theorem check_slot1 (k : Int) (q1 : (k != 1) = false) (_q2 : (k != 2) = true) (f1 s m : Nat) (w : World) (h : f1 ≤ 15) (hs : 4294967296 < s) : Calls Tryz.prog 61 #[fv ⟨k, (f1 : Int), s, m⟩] w fun e w' => e = .returned (.int .i64 1) ∧ Below w.heap.size w w' := by
  have HF := hid h
  go_enter Tryz.func61, Tryz.ntmps61
  go_wp2_with (first
    | (go_at_call 111; refine (isNode_in f1 _ HF.out).mono ?_; rintro e w' ⟨rfl, rfl⟩)
    | (refine wpList_boxf (x := ⟨k, (f1 : Int), s, m⟩) rfl (.tmp 0) rfl rfl ?_; intro w1 v1 b1 s1; have c0 : w1.cell? ⟨w.heap.size, 0, none⟩ = some (.int .i64 k) := v1.c0; have c1 : w1.cell? ⟨w.heap.size, 1, none⟩ = some (.int .i64 (f1 : Int)) := v1.c1; have c2 : w1.cell? ⟨w.heap.size, 2, none⟩ = some (.int .u64 (s : Int)) := v1.c2))
  go_ret
  exact ⟨rfl, b1⟩
theorem check_from1lo (k : Int) (q1 : (k != 1) = false) (_q2 : (k != 2) = true) (f : Int) (s m : Nat) (w : World) (h : f < 0) : Calls Tryz.prog 61 #[fv ⟨k, f, s, m⟩] w fun e w' => e = .returned (.int .i64 1) ∧ Below w.heap.size w w' := by
  have HF : Hid (Out f) := hid (by unfold Out; omega)
  go_enter Tryz.func61, Tryz.ntmps61
  go_wp2_with (first
    | (go_at_call 111; refine (isNode_out f _ HF.out).mono ?_; rintro e w' ⟨rfl, rfl⟩)
    | (refine wpList_boxf (x := ⟨k, f, s, m⟩) rfl (.tmp 0) rfl rfl ?_; intro w1 v1 b1 s1; have c0 : w1.cell? ⟨w.heap.size, 0, none⟩ = some (.int .i64 k) := v1.c0; have c1 : w1.cell? ⟨w.heap.size, 1, none⟩ = some (.int .i64 f) := v1.c1; have c2 : w1.cell? ⟨w.heap.size, 2, none⟩ = some (.int .u64 (s : Int)) := v1.c2))
  go_ret
  exact ⟨rfl, b1⟩
theorem check_from1hi (k : Int) (q1 : (k != 1) = false) (_q2 : (k != 2) = true) (f : Int) (s m : Nat) (w : World) (h : 15 < f) : Calls Tryz.prog 61 #[fv ⟨k, f, s, m⟩] w fun e w' => e = .returned (.int .i64 1) ∧ Below w.heap.size w w' := by
  have HF : Hid (Out f) := hid (by unfold Out; omega)
  go_enter Tryz.func61, Tryz.ntmps61
  go_wp2_with (first
    | (go_at_call 111; refine (isNode_out f _ HF.out).mono ?_; rintro e w' ⟨rfl, rfl⟩)
    | (refine wpList_boxf (x := ⟨k, f, s, m⟩) rfl (.tmp 0) rfl rfl ?_; intro w1 v1 b1 s1; have c0 : w1.cell? ⟨w.heap.size, 0, none⟩ = some (.int .i64 k) := v1.c0; have c1 : w1.cell? ⟨w.heap.size, 1, none⟩ = some (.int .i64 f) := v1.c1; have c2 : w1.cell? ⟨w.heap.size, 2, none⟩ = some (.int .u64 (s : Int)) := v1.c2))
  go_ret
  exact ⟨rfl, b1⟩
theorem check_ok2 (k : Int) (q1 : (k != 1) = true) (q2 : (k != 2) = false) (f1 s m : Nat) (w : World) (h : f1 ≤ 15) (hs : s ≤ 4294967296) : Calls Tryz.prog 61 #[fv ⟨k, (f1 : Int), s, m⟩] w fun e w' => e = .returned (.int .i64 0) ∧ Below w.heap.size w w' := by
  have HF := hid h
  go_enter Tryz.func61, Tryz.ntmps61
  go_wp2_with (first
    | (go_at_call 111; refine (isNode_in f1 _ HF.out).mono ?_; rintro e w' ⟨rfl, rfl⟩)
    | (refine wpList_boxf (x := ⟨k, (f1 : Int), s, m⟩) rfl (.tmp 0) rfl rfl ?_; intro w1 v1 b1 s1; have c0 : w1.cell? ⟨w.heap.size, 0, none⟩ = some (.int .i64 k) := v1.c0; have c1 : w1.cell? ⟨w.heap.size, 1, none⟩ = some (.int .i64 (f1 : Int)) := v1.c1; have c2 : w1.cell? ⟨w.heap.size, 2, none⟩ = some (.int .u64 (s : Int)) := v1.c2))
  go_ret
  exact ⟨rfl, b1⟩
theorem check_slot2 (k : Int) (q1 : (k != 1) = true) (q2 : (k != 2) = false) (f1 s m : Nat) (w : World) (h : f1 ≤ 15) (hs : 4294967296 < s) : Calls Tryz.prog 61 #[fv ⟨k, (f1 : Int), s, m⟩] w fun e w' => e = .returned (.int .i64 1) ∧ Below w.heap.size w w' := by
  have HF := hid h
  go_enter Tryz.func61, Tryz.ntmps61
  go_wp2_with (first
    | (go_at_call 111; refine (isNode_in f1 _ HF.out).mono ?_; rintro e w' ⟨rfl, rfl⟩)
    | (refine wpList_boxf (x := ⟨k, (f1 : Int), s, m⟩) rfl (.tmp 0) rfl rfl ?_; intro w1 v1 b1 s1; have c0 : w1.cell? ⟨w.heap.size, 0, none⟩ = some (.int .i64 k) := v1.c0; have c1 : w1.cell? ⟨w.heap.size, 1, none⟩ = some (.int .i64 (f1 : Int)) := v1.c1; have c2 : w1.cell? ⟨w.heap.size, 2, none⟩ = some (.int .u64 (s : Int)) := v1.c2))
  go_ret
  exact ⟨rfl, b1⟩
theorem check_from2lo (k : Int) (q1 : (k != 1) = true) (q2 : (k != 2) = false) (f : Int) (s m : Nat) (w : World) (h : f < 0) : Calls Tryz.prog 61 #[fv ⟨k, f, s, m⟩] w fun e w' => e = .returned (.int .i64 1) ∧ Below w.heap.size w w' := by
  have HF : Hid (Out f) := hid (by unfold Out; omega)
  go_enter Tryz.func61, Tryz.ntmps61
  go_wp2_with (first
    | (go_at_call 111; refine (isNode_out f _ HF.out).mono ?_; rintro e w' ⟨rfl, rfl⟩)
    | (refine wpList_boxf (x := ⟨k, f, s, m⟩) rfl (.tmp 0) rfl rfl ?_; intro w1 v1 b1 s1; have c0 : w1.cell? ⟨w.heap.size, 0, none⟩ = some (.int .i64 k) := v1.c0; have c1 : w1.cell? ⟨w.heap.size, 1, none⟩ = some (.int .i64 f) := v1.c1; have c2 : w1.cell? ⟨w.heap.size, 2, none⟩ = some (.int .u64 (s : Int)) := v1.c2))
  go_ret
  exact ⟨rfl, b1⟩
theorem check_from2hi (k : Int) (q1 : (k != 1) = true) (q2 : (k != 2) = false) (f : Int) (s m : Nat) (w : World) (h : 15 < f) : Calls Tryz.prog 61 #[fv ⟨k, f, s, m⟩] w fun e w' => e = .returned (.int .i64 1) ∧ Below w.heap.size w w' := by
  have HF : Hid (Out f) := hid (by unfold Out; omega)
  go_enter Tryz.func61, Tryz.ntmps61
  go_wp2_with (first
    | (go_at_call 111; refine (isNode_out f _ HF.out).mono ?_; rintro e w' ⟨rfl, rfl⟩)
    | (refine wpList_boxf (x := ⟨k, f, s, m⟩) rfl (.tmp 0) rfl rfl ?_; intro w1 v1 b1 s1; have c0 : w1.cell? ⟨w.heap.size, 0, none⟩ = some (.int .i64 k) := v1.c0; have c1 : w1.cell? ⟨w.heap.size, 1, none⟩ = some (.int .i64 f) := v1.c1; have c2 : w1.cell? ⟨w.heap.size, 2, none⟩ = some (.int .u64 (s : Int)) := v1.c2))
  go_ret
  exact ⟨rfl, b1⟩
theorem check_kind (k f : Int) (s m : Nat) (w : World) (h1 : k ≠ 1) (h2 : k ≠ 2) : Calls Tryz.prog 61 #[fv ⟨k, f, s, m⟩] w fun e w' => e = .returned (.int .i64 1) ∧ Below w.heap.size w w' := by
  have q1 : (k != 1) = true := by rw [bne_iff_ne]; exact h1
  have q2 : (k != 2) = true := by rw [bne_iff_ne]; exact h2
  go_enter Tryz.func61, Tryz.ntmps61
  go_wp2_with (first
    | (refine wpList_boxf (x := ⟨k, f, s, m⟩) rfl (.tmp 0) rfl rfl ?_; intro w1 v1 b1 s1; have c0 : w1.cell? ⟨w.heap.size, 0, none⟩ = some (.int .i64 k) := v1.c0; have c1 : w1.cell? ⟨w.heap.size, 1, none⟩ = some (.int .i64 f) := v1.c1; have c2 : w1.cell? ⟨w.heap.size, 2, none⟩ = some (.int .u64 (s : Int)) := v1.c2))
  go_ret
  exact ⟨rfl, b1⟩
theorem check_any (x : Fr) (w : World) : Calls Tryz.prog 61 #[fv x] w fun e w' => e = .returned (.int .i64 (okE x : Nat)) ∧ Below w.heap.size w w' := by
  obtain ⟨k, f, s, m⟩ := x
  by_cases h : OkF ⟨k, f, s, m⟩
  · rw [okE_ok h]
    obtain ⟨h1, h2, h3, h4⟩ := h
    simp only at h1 h2 h3 h4
    obtain ⟨g, rfl⟩ : ∃ g : Nat, f = g := ⟨f.toNat, by omega⟩
    rcases h1 with rfl | rfl
    · exact check_ok1 1 rfl rfl g s m w (by omega) h4
    · exact check_ok2 2 rfl rfl g s m w (by omega) h4
  · rw [okE_bad h]
    by_cases hk : k ≠ 1 ∧ k ≠ 2
    · exact check_kind k f s m w hk.1 hk.2
    · by_cases hf : f < 0
      · by_cases h1 : k = 1
        · subst h1; exact check_from1lo 1 rfl rfl f s m w hf
        · obtain rfl : k = 2 := by omega
          exact check_from2lo 2 rfl rfl f s m w hf
      · by_cases hf2 : 15 < f
        · by_cases h1 : k = 1
          · subst h1; exact check_from1hi 1 rfl rfl f s m w hf2
          · obtain rfl : k = 2 := by omega
            exact check_from2hi 2 rfl rfl f s m w hf2
        · obtain ⟨g, rfl⟩ : ∃ g : Nat, f = g := ⟨f.toNat, by omega⟩
          have hs : 4294967296 < s := by
            rcases bad_why _ _ _ _ h with c | c | c
            · exact absurd c hk
            · unfold Out at c; omega
            · exact c
          by_cases h1 : k = 1
          · subst h1; exact check_slot1 1 rfl rfl g s m w (by omega) hs
          · obtain rfl : k = 2 := by omega
            exact check_slot2 2 rfl rfl g s m w (by omega) hs
end Go.Proofs.YtlgedfljmgedfaaGreat.F8
namespace Go.Proofs.YtlgedfljmgedfaaGreat.F8
open Go Go.RowKit

end Go.Proofs.YtlgedfljmgedfaaGreat.F8
namespace Go.Proofs.YtlgedfljmgedfaaGreat.F8
open Go Go.RowKit

set_option maxRecDepth 100000 in
theorem takeFixed_short (A : Option Addr) (n c k0 wd : Nat) (w : World) (_hn : n ≤ 1000000000) (hw1 : 1 ≤ wd) (hw2 : wd ≤ 8) (hk2 : k0 ≤ n) (hk : n < k0 + wd) :
    Calls Tryz.prog 151 #[.slice A n c, .int .i64 (k0 : Int), .int .i64 (wd : Int)] w fun r w' => r = .returned (.tuple #[.int .u64 0, .int .i64 0, .int .i64 3]) ∧ w = w' := by
  have HW : Hid (widB wd = true) := hid (by simp [widB]; omega)
  have h1 : decide ((n : Int) - (k0 : Int) < (wd : Int)) = true := by rw [decide_eq_true_eq]; omega
  go_enter Tryz.func151, Tryz.ntmps151
  go_wp2_with (go_at_call 114; refine (isWidth_any _ _).mono ?_; rintro e w' ⟨rfl, rfl⟩; have hwb := HW.out)
  go_ret3
  exact ⟨rfl, rfl⟩
theorem takeFixed_any (A : Option Addr) (n c B k0 wd : Nat) (bs : List Nat) (w : World) (hr : Row w B A n (bv bs)) (ho : Oct bs) (hn : n ≤ c) (hn2 : n ≤ 1000000000) (hw1 : 1 ≤ wd) (hw2 : wd ≤ 8) (hk : k0 ≤ n) :
    Calls Tryz.prog 151 #[.slice A n c, .int .i64 (k0 : Int), .int .i64 (wd : Int)] w fun r w' => r = tri .u64 (tf bs k0 wd) ∧ w = w' := by
  have hl : bs.length = n := by rw [← bv_len]; exact hr.1
  unfold tf
  by_cases h : k0 + wd ≤ n
  · rw [if_pos (by omega)]
    refine (takeFixed_ok A n c B k0 wd bs w hr ho hn hn2 hw1 hw2 h).mono ?_
    rintro e w' ⟨rfl, rfl⟩
    exact ⟨by simp [tri], rfl⟩
  · rw [if_neg (by omega)]
    exact takeFixed_short A n c k0 wd w hn2 hw1 hw2 hk (by omega)

theorem fixed1_any (A : Option Addr) (n c B k0 wd g : Nat) (bs : List Nat) (w : World) (hg : w.cell? ⟨g, 0, none⟩ = some (.int .i64 (wd : Int))) (hr : Row w B A n (bv bs)) (ho : Oct bs) (hn : n ≤ c) (hn2 : n ≤ 1000000000) (hw1 : 1 ≤ wd) (hw2 : wd ≤ 8) (hk : k0 ≤ n) :
    Calls Tryz.prog 150 #[.slice A n c, .int .i64 (k0 : Int), .pointer (some ⟨g, 0, none⟩)] w fun r w' => r = tri .u64 (tf bs k0 wd) ∧ w = w' := by
  have HT := hid (takeFixed_any A n c B k0 wd bs w hr ho hn hn2 hw1 hw2 hk)
  clear hr ho hn hn2 hk hw1 hw2
  obtain ⟨⟨x, p, e⟩, hx⟩ : ∃ r, r = tf bs k0 wd := ⟨_, rfl⟩
  rw [← hx] at HT ⊢
  unfold tri at HT ⊢
  clear hx
  go_enter Tryz.func150, Tryz.ntmps150
  go_wp2_with (go_at_call 151; refine (HT.out).mono ?_; rintro r w' ⟨rfl, rfl⟩)
  go_ret3
  exact ⟨rfl, rfl⟩
theorem fixedr_any (wd : Nat) (w : World) : Calls Tryz.prog 119 #[.int .i64 (wd : Int)] w fun r w' => r = .returned (.func (.func 150) #[] #[.pointer (some ⟨w.heap.size, 0, none⟩)]) ∧ w'.cell? ⟨w.heap.size, 0, none⟩ = some (.int .i64 (wd : Int)) ∧ Below w.heap.size w w' := by
  go_enter Tryz.func119, Tryz.ntmps119
  go_wp2
  go_ret
  refine ⟨rfl, ?_, (Below.refl _ _).alloc (Nat.le_refl _) _⟩
  rw [cell_of_row _ _ _ _ _ (0, 0) (heap_alloc_new w _)]; rfl

/-- What the reading of a frame's fields holds on to: the text, the place, whether all was there, and the answer's variable, still empty. -/
structure Fs (w0 w : World) (gt g2 ga gw : Nat) (A : Option Addr) (n c k : Nat) (wh : Bool) : Prop where
  bel : Below w0.heap.size w0 w
  t : w.cell? ⟨gt, 0, none⟩ = some (.slice A n c)
  a : w.cell? ⟨ga, 0, none⟩ = some (.int .i64 (k : Int))
  h : w.cell? ⟨gw, 0, none⟩ = some (.bool wh)
  fa : w.frozen? ⟨ga, 0, none⟩ = false
  fh : w.frozen? ⟨gw, 0, none⟩ = false
  v : VarF w g2 fz
  o0 : w0.heap.size ≤ gt
  o1 : gt < g2
  o2 : g2 < ga
  o3 : ga < gw
  lt : gw < w.heap.size
section
variable {w0 w w' : World} {gt g2 ga gw : Nat} {A : Option Addr} {n c k : Nat} {wh : Bool}
theorem Fs.keep (H : Fs w0 w gt g2 ga gw A n c k wh) (hb : Below w.heap.size w w') : Fs w0 w' gt g2 ga gw A n c k wh := by
  have h0 := H.o0; have h1 := H.o1; have h2 := H.o2; have h3 := H.o3; have h4 := H.lt
  exact ⟨H.bel.trans (hb.mono (by omega)), (hb.cell (p := ⟨gt, 0, none⟩) (by show gt < _; omega)).trans H.t, (hb.cell (p := ⟨ga, 0, none⟩) (by show ga < _; omega)).trans H.a, (hb.cell (p := ⟨gw, 0, none⟩) (by show gw < _; omega)).trans H.h,
    (hb.frozen (p := ⟨ga, 0, none⟩) (by show ga < _; omega)).trans H.fa, (hb.frozen (p := ⟨gw, 0, none⟩) (by show gw < _; omega)).trans H.fh, H.v.keep hb, h0, h1, h2, h3, Nat.lt_of_lt_of_le h4 hb.size⟩
theorem Fs.set (H : Fs w0 w gt g2 ga gw A n c k wh) (p : Nat) (b : Bool) : Fs w0 ((w.setCell ⟨ga, 0, none⟩ (.int .i64 (p : Int))).setCell ⟨gw, 0, none⟩ (.bool b)) gt g2 ga gw A n c p b := by
  have h0 := H.o0; have h1 := H.o1; have h2 := H.o2; have h3 := H.o3; have h4 := H.lt
  have hB : Below ga w ((w.setCell ⟨ga, 0, none⟩ (.int .i64 (p : Int))).setCell ⟨gw, 0, none⟩ (.bool b)) := ((Below.refl _ _).setCell (p := ⟨ga, 0, none⟩) (Nat.le_refl _) _).setCell (p := ⟨gw, 0, none⟩) (by show ga ≤ gw; omega) _
  have n1 : (⟨gw, 0, none⟩ : Addr) ≠ ⟨ga, 0, none⟩ := fun e => by injection e with e; omega
  have n2 : (⟨ga, 0, none⟩ : Addr) ≠ ⟨gw, 0, none⟩ := fun e => by injection e with e; omega
  have c1 : (w.setCell ⟨ga, 0, none⟩ (.int .i64 (p : Int))).cell? ⟨gw, 0, none⟩ = some (.bool wh) := (World.cell?_setCell_other (h := n2) ..).trans H.h
  refine ⟨H.bel.trans (hB.mono (by omega)), (hB.cell (p := ⟨gt, 0, none⟩) (by show gt < _; omega)).trans H.t, (World.cell?_setCell_other (h := n1) ..).trans (World.cell?_setCell_same (h := H.a) ..), World.cell?_setCell_same (h := c1) .., ?_, ?_, H.v.below hB (by omega), h0, h1, h2, h3, by simpa using h4⟩
  · simpa using H.fa
  · simpa using H.fh
end
set_option maxRecDepth 100000 in
theorem take53 (w0 w : World) (gt g2 ga gw gp n c k x p e : Nat) (A : Option Addr) (wh : Bool) (H : Fs w0 w gt g2 ga gw A n c k wh)
    (R : Calls Tryz.prog 150 #[.slice A n c, .int .i64 (k : Int), .pointer (some ⟨gp, 0, none⟩)] w fun r w' => r = tri .u64 (x, p, e) ∧ w = w') :
    Calls Tryz.prog 118 #[.func (.func 150) #[] #[.pointer (some ⟨gp, 0, none⟩)], .pointer (some ⟨gt, 0, none⟩), .pointer (some ⟨ga, 0, none⟩), .pointer (some ⟨gw, 0, none⟩)] w fun r w' => r = .returned (.int .u64 (x : Int)) ∧ Fs w0 w' gt g2 ga gw A n c p (wh && decide (e = 0)) := by
  have HR := hid R
  unfold tri at HR
  have ht := H.t
  have ha := H.a
  have hh := H.h
  have ffa := H.fa
  have ffh := H.fh
  have HS := hid (H.set p (wh && decide (e = 0)))
  have hne : ¬ ga = gw := by have := H.o3; omega
  have HE : Hid (((e : Int) == 0) = decide (e = 0)) := hid (by rw [Bool.eq_iff_iff, beq_iff_eq, decide_eq_true_eq]; omega)
  clear H R
  obtain ⟨z, hz⟩ : ∃ z, z = decide (e = 0) := ⟨_, rfl⟩
  rw [← hz] at HE HS ⊢
  have hze := HE.out
  clear hz HE
  cases wh with
  | true =>
    go_enter Tryz.func118, Tryz.ntmps118
    go_wp2_with (go_at_call 150; refine (HR.out).mono ?_; rintro r w' ⟨rfl, rfl⟩)
    go_ret
    exact ⟨rfl, HS.out⟩
  | false =>
    go_enter Tryz.func118, Tryz.ntmps118
    go_wp2_with (go_at_call 150; refine (HR.out).mono ?_; rintro r w' ⟨rfl, rfl⟩)
    go_ret
    exact ⟨rfl, HS.out⟩
set_option maxRecDepth 100000 in
theorem take48 (w0 w : World) (gt g2 ga gw n c k x p e : Nat) (A : Option Addr) (wh : Bool) (H : Fs w0 w gt g2 ga gw A n c k wh)
    (R : Calls Tryz.prog 120 #[.slice A n c, .int .i64 (k : Int)] w fun r w' => r = tri .u64 (x, p, e) ∧ w = w') :
    Calls Tryz.prog 118 #[.func (.func 120) #[] #[], .pointer (some ⟨gt, 0, none⟩), .pointer (some ⟨ga, 0, none⟩), .pointer (some ⟨gw, 0, none⟩)] w fun r w' => r = .returned (.int .u64 (x : Int)) ∧ Fs w0 w' gt g2 ga gw A n c p (wh && decide (e = 0)) := by
  have HR := hid R
  unfold tri at HR
  have ht := H.t
  have ha := H.a
  have hh := H.h
  have ffa := H.fa
  have ffh := H.fh
  have HS := hid (H.set p (wh && decide (e = 0)))
  have hne : ¬ ga = gw := by have := H.o3; omega
  have HE : Hid (((e : Int) == 0) = decide (e = 0)) := hid (by rw [Bool.eq_iff_iff, beq_iff_eq, decide_eq_true_eq]; omega)
  clear H R
  obtain ⟨z, hz⟩ : ∃ z, z = decide (e = 0) := ⟨_, rfl⟩
  rw [← hz] at HE HS ⊢
  have hze := HE.out
  clear hz HE
  cases wh with
  | true =>
    go_enter Tryz.func118, Tryz.ntmps118
    go_wp2_with (go_at_call 120; refine (HR.out).mono ?_; rintro r w' ⟨rfl, rfl⟩)
    go_ret
    exact ⟨rfl, HS.out⟩
  | false =>
    go_enter Tryz.func118, Tryz.ntmps118
    go_wp2_with (go_at_call 120; refine (HR.out).mono ?_; rintro r w' ⟨rfl, rfl⟩)
    go_ret
    exact ⟨rfl, HS.out⟩
end Go.Proofs.YtlgedfljmgedfaaGreat.F8
namespace Go.Proofs.YtlgedfljmgedfaaGreat.F8
open Go Go.RowKit
theorem tf_place (l : List Nat) (k wd x p e : Nat) (ho : Oct l) (h : tf l k wd = (x, p, e)) : x < 256 ^ wd ∧ p ≤ l.length := by
  unfold tf at h
  split at h
  · rename_i hh
    obtain ⟨rfl, h2⟩ := Prod.mk.inj h
    obtain ⟨rfl, rfl⟩ := Prod.mk.inj h2
    refine ⟨Nat.lt_of_lt_of_le (fxv_lt _ ((ho.drop k).take wd)) (Nat.pow_le_pow_right (by omega) (by rw [List.length_take]; omega)), hh⟩
  · obtain ⟨rfl, h2⟩ := Prod.mk.inj h
    obtain ⟨rfl, rfl⟩ := Prod.mk.inj h2
    exact ⟨Nat.pow_pos (by omega), Nat.zero_le _⟩
theorem tv_shape : ∀ (l : List Nat) (f : Bool) (acc k : Nat), (tv f acc k l).2.2 = 0 ∨ ((tv f acc k l).1 = 0 ∧ (tv f acc k l).2.1 = 0)
  | [], f, acc, k => .inr ⟨rfl, rfl⟩
  | x :: r, f, acc, k => by
    rw [tv]
    split
    · exact .inr ⟨rfl, rfl⟩
    · split
      · exact .inl rfl
      · exact tv_shape r false _ _
theorem tv_place (l : List Nat) (k x p e : Nat) (ho : Oct l) (hk : k ≤ l.length) (h : tv true 0 k (l.drop k) = (x, p, e)) : x < 18446744073709551616 ∧ p ≤ l.length := by
  have hs := tv_shape (l.drop k) true 0 k
  rw [h] at hs
  rcases hs with hs | ⟨h1, h2⟩
  · simp only at hs
    subst hs
    obtain ⟨t1, t2, t3, _⟩ := tv_back (l.drop k) k x p (ho.drop k) h
    rw [List.length_drop] at t3
    exact ⟨t1, by omega⟩
  · simp only at h1 h2
    subst h1 h2
    exact ⟨by omega, Nat.zero_le _⟩
theorem fixedr_1 (w : World) : Calls Tryz.prog 119 #[.int .i64 1] w fun r w' => r = .returned (.func (.func 150) #[] #[.pointer (some ⟨w.heap.size, 0, none⟩)]) ∧ w'.cell? ⟨w.heap.size, 0, none⟩ = some (.int .i64 ((1 : Nat) : Int)) ∧ Below w.heap.size w w' := fixedr_any 1 w
theorem fixedr_2 (w : World) : Calls Tryz.prog 119 #[.int .i64 2] w fun r w' => r = .returned (.func (.func 150) #[] #[.pointer (some ⟨w.heap.size, 0, none⟩)]) ∧ w'.cell? ⟨w.heap.size, 0, none⟩ = some (.int .i64 ((2 : Nat) : Int)) ∧ Below w.heap.size w w' := fixedr_any 2 w
theorem results_f1 {w : World} {g : Nat} {x : Fr} {fn : Func} {p r : Tmp} (h : fn.results = #[.cell p 54, .tmp r]) (tmps : Array Value) (hp : tmps.getD p undef = .pointer (some ⟨g, 0, none⟩)) (hx : VarF w g x) :
    (results fn tmps).run Tryz.prog w = .ok (.tuple #[fv x, tmps.getD r undef]) w := by
  have := ldfv hx
  have hp' : tmps[p]?.getD undef = .pointer (some ⟨g, 0, none⟩) := by simpa using hp
  simp only [results, h]
  simp [Result.andThen, hp', this, asAddr]
/-- How the reading begins. -/
theorem Fs.start (w w2 : World) (A : Option Addr) (n c : Nat) (v2 : VarF w2 (w.alloc (Obj.cells #[.slice A n c] 33)).heap.size fz) (b2 : Below (w.alloc (Obj.cells #[.slice A n c] 33)).heap.size (w.alloc (Obj.cells #[.slice A n c] 33)) w2) (s2 : w2.heap.size = (w.alloc (Obj.cells #[.slice A n c] 33)).heap.size + 1) :
    Fs w ((w2.alloc (Obj.cells #[.int .i64 0] 3)).alloc (Obj.cells #[.bool true] 4)) w.heap.size (w.heap.size + 1) w2.heap.size (w2.heap.size + 1) A n c 0 true := by
  have z1 : (w.alloc (Obj.cells #[.slice A n c] 33)).heap.size = w.heap.size + 1 := by simp
  rw [z1] at v2 b2 s2
  have k2 : Below w2.heap.size w2 ((w2.alloc (Obj.cells #[.int .i64 0] 3)).alloc (Obj.cells #[.bool true] 4)) := ((Below.refl _ _).alloc (Nat.le_refl _) _).alloc (by simp) _
  have t1 : (w.alloc (Obj.cells #[.slice A n c] 33)).cell? ⟨w.heap.size, 0, none⟩ = some (.slice A n c) := by
    rw [cell_of_row _ _ _ _ _ (0, 0) (heap_alloc_new w _)]; rfl
  have a1 : (w2.alloc (Obj.cells #[.int .i64 0] 3)).heap[w2.heap.size]? = some (.cells #[.int .i64 0] 3) := heap_alloc_new w2 _
  have a2 : ((w2.alloc (Obj.cells #[.int .i64 0] 3)).alloc (Obj.cells #[.bool true] 4)).heap[w2.heap.size]? = some (.cells #[.int .i64 0] 3) := by
    rw [← a1]; exact (((Below.refl (w2.heap.size + 1) (w2.alloc (Obj.cells #[.int .i64 0] 3))).alloc (by simp) (Obj.cells #[.bool true] 4)).block w2.heap.size (by omega))
  have h1 : ((w2.alloc (Obj.cells #[.int .i64 0] 3)).alloc (Obj.cells #[.bool true] 4)).heap[w2.heap.size + 1]? = some (.cells #[.bool true] 4) := heap_alloc_new' _ _ (by simp)
  exact ⟨(((Below.refl _ w).alloc (Nat.le_refl _) _).trans (b2.mono (by omega))).trans (k2.mono (by omega)),
    (k2.cell (p := ⟨w.heap.size, 0, none⟩) (by show w.heap.size < _; omega)).trans ((b2.cell (p := ⟨w.heap.size, 0, none⟩) (by show w.heap.size < _; omega)).trans t1),
    by rw [cell_of_row _ _ _ _ _ (0, 0) a2]; rfl, by rw [cell_of_row _ _ _ _ _ (0, 0) h1]; rfl, frozen_of_row _ _ _ _ _ a2, frozen_of_row _ _ _ _ _ h1, v2.keep k2, Nat.le_refl _, by omega, by omega, by omega, by simp⟩
set_option maxRecDepth 100000 in
set_option maxHeartbeats 2000000 in
theorem fields_any (A : Option Addr) (n c B : Nat) (l : List Nat) (w : World) (hr : Row w B A n (bv l)) (hB : B ≤ w.heap.size) (ho : Oct l) (hnc : n ≤ c) (hn : n ≤ 1048576) :
    Calls Tryz.prog 69 #[.slice A n c] w fun e w' => e = .returned (.tuple #[fv (frOf (flds l).1), .bool (flds l).2]) ∧ Below w.heap.size w w' := by
  have hl : l.length = n := by rw [← bv_len]; exact hr.1
  obtain ⟨x0, p0, e0, h0⟩ : ∃ x p e, tf l 0 1 = (x, p, e) := ⟨_, _, _, rfl⟩
  obtain ⟨x1, p1, e1, h1⟩ : ∃ x p e, tf l p0 1 = (x, p, e) := ⟨_, _, _, rfl⟩
  obtain ⟨x2, p2, e2, h2⟩ : ∃ x p e, tf l p1 1 = (x, p, e) := ⟨_, _, _, rfl⟩
  obtain ⟨x3, p3, e3, h3⟩ : ∃ x p e, tv true 0 p2 (l.drop p2) = (x, p, e) := ⟨_, _, _, rfl⟩
  obtain ⟨x4, p4, e4, h4⟩ : ∃ x p e, tf l p3 2 = (x, p, e) := ⟨_, _, _, rfl⟩
  obtain ⟨y0, q0⟩ := tf_place l 0 1 x0 p0 e0 ho h0
  obtain ⟨y1, q1⟩ := tf_place l p0 1 x1 p1 e1 ho h1
  obtain ⟨y2, q2⟩ := tf_place l p1 1 x2 p2 e2 ho h2
  obtain ⟨y3, q3⟩ := tv_place l p2 x3 p3 e3 ho q2 h3
  obtain ⟨y4, q4⟩ := tf_place l p3 2 x4 p4 e4 ho h4
  have HF : Hid (flds l = ((x1, x2, x3, x4), decide (x0 = 161 ∧ e0 = 0 ∧ e1 = 0 ∧ e2 = 0 ∧ e3 = 0 ∧ e4 = 0 ∧ p4 = n))) := hid (by
    unfold flds; simp only [h0, h1, h2, h3, h4, hl])
  have R0 := hid (fun (w' : World) g hg (hb : Below w.heap.size w w') => fixed1_any A n c B 0 1 g l w' hg (hr.below (hb.mono hB)) ho hnc (by omega) (by omega) (by omega) (by omega))
  have R1 := hid (fun (w' : World) g hg (hb : Below w.heap.size w w') => fixed1_any A n c B p0 1 g l w' hg (hr.below (hb.mono hB)) ho hnc (by omega) (by omega) (by omega) (by omega))
  have R2 := hid (fun (w' : World) g hg (hb : Below w.heap.size w w') => fixed1_any A n c B p1 1 g l w' hg (hr.below (hb.mono hB)) ho hnc (by omega) (by omega) (by omega) (by omega))
  have R3 := hid (fun (w' : World) (hb : Below w.heap.size w w') => takeVary_any A n c B p2 l w' (hr.below (hb.mono hB)) ho (by omega))
  have R4 := hid (fun (w' : World) g hg (hb : Below w.heap.size w w') => fixed1_any A n c B p3 2 g l w' hg (hr.below (hb.mono hB)) ho hnc (by omega) (by omega) (by omega) (by omega))
  rw [h0] at R0
  rw [h1] at R1
  rw [h2] at R2
  rw [h3] at R3
  rw [h4] at R4
  have HL := hid hl
  clear h0 h1 h2 h3 h4 q0 q1 q2 q3 q4 hr ho hl
  go_enter Tryz.func69, Tryz.ntmps69
  go_wp2_with (first
    | (refine wpList_alf rfl rfl ?_; intro w2 v2 b2 s2))
  have F0 := Fs.start w w2 A n c v2 b2 s2.out
  clear v2 b2 s2
  generalize ((w2.alloc (Obj.cells #[.int .i64 0] 3)).alloc (Obj.cells #[.bool true] 4)) = W0 at *
  generalize w2.heap.size + 1 = gw at *
  generalize w2.heap.size = ga at *
  generalize w.heap.size + 1 = g2 at *
  obtain ⟨gt, hgt⟩ : ∃ gt, gt = w.heap.size := ⟨_, rfl⟩
  rw [← hgt] at F0
  rw [← hgt]
  clear hgt
  simp only [Nat.pow_one] at y0 y1 y2
  have y4' : x4 < 65536 := by simpa using y4
  clear y4
  go_wp2_with (first
    | (go_at_call 118; (with_reducible refine (take53 w W8 gt g2 ga gw _ n c p3 x4 p4 e4 A ((((true && decide (e0 = 0)) && decide (e1 = 0)) && decide (e2 = 0)) && decide (e3 = 0)) F8 (R4.out W8 _ G8 F8.bel)).mono ?_); rintro e W9 ⟨rfl, F9⟩; clear F8 G8)
    | (go_at_call 119; (with_reducible refine (fixedr_2 W7).mono ?_); rintro e W8 ⟨rfl, G8, b8⟩; have F8 := F7.keep b8; clear b8 F7)
    | (go_at_call 118; (with_reducible refine (take48 w W6 gt g2 ga gw n c p2 x3 p3 e3 A (((true && decide (e0 = 0)) && decide (e1 = 0)) && decide (e2 = 0)) F6 (R3.out W6 F6.bel)).mono ?_); rintro e W7 ⟨rfl, F7⟩; clear F6)
    | (go_at_call 118; (with_reducible refine (take53 w W5 gt g2 ga gw _ n c p1 x2 p2 e2 A ((true && decide (e0 = 0)) && decide (e1 = 0)) F5 (R2.out W5 _ G5 F5.bel)).mono ?_); rintro e W6 ⟨rfl, F6⟩; clear F5 G5)
    | (go_at_call 119; (with_reducible refine (fixedr_1 W4).mono ?_); rintro e W5 ⟨rfl, G5, b5⟩; have F5 := F4.keep b5; clear b5 F4)
    | (go_at_call 118; (with_reducible refine (take53 w W3 gt g2 ga gw _ n c p0 x1 p1 e1 A (true && decide (e0 = 0)) F3 (R1.out W3 _ G3 F3.bel)).mono ?_); rintro e W4 ⟨rfl, F4⟩; clear F3 G3)
    | (go_at_call 119; (with_reducible refine (fixedr_1 W2).mono ?_); rintro e W3 ⟨rfl, G3, b3⟩; have F3 := F2.keep b3; clear b3 F2)
    | (go_at_call 118; (with_reducible refine (take53 w W1 gt g2 ga gw _ n c 0 x0 p0 e0 A true F1 (R0.out W1 _ G1 F1.bel)).mono ?_); rintro e W2 ⟨rfl, F2⟩; clear F1 G1)
    | (go_at_call 119; (with_reducible refine (fixedr_1 W0).mono ?_); rintro e W1 ⟨rfl, G1, b1⟩; have F1 := F0.keep b1; clear b1 F0))
  have F10 := F9.keep ((Below.refl _ _).alloc (Nat.le_refl _) (Obj.cells (encf ⟨(x1 : Int), (x2 : Int), x3, x4⟩).toArray 54))
  have V10 := varf_new W9 ⟨(x1 : Int), (x2 : Int), x3, x4⟩
  have hgs : gw < W9.heap.size := F9.lt
  clear F9 R0 R1 R2 R3 R4
  change Fs w (W9.alloc (Obj.cells #[.int .i64 (x1 : Int), .int .i64 (x2 : Int), .int .u64 (x3 : Int), .int .u16 (x4 : Int)] 54)) gt g2 ga gw A n c p4 _ at F10
  change VarF (W9.alloc (Obj.cells #[.int .i64 (x1 : Int), .int .i64 (x2 : Int), .int .u64 (x3 : Int), .int .u16 (x4 : Int)] 54)) W9.heap.size _ at V10
  generalize (W9.alloc (Obj.cells #[.int .i64 (x1 : Int), .int .i64 (x2 : Int), .int .u64 (x3 : Int), .int .u16 (x4 : Int)] 54)) = W10 at *
  generalize W9.heap.size = gs at *
  have ct := F10.t
  have ca := F10.a
  have ch := F10.h
  have s0 := V10.c0
  have s1 := V10.c1
  have s2 := V10.c2
  have s3 := V10.c3
  have d0 := F10.v.c0
  have d1 := F10.v.c1
  have d2 := F10.v.c2
  have d3 := F10.v.c3
  have f0 : W10.frozen? ⟨g2, 0, none⟩ = false := (F10.v.2 0 (by omega)).2
  have f1 : W10.frozen? ⟨g2, 1, none⟩ = false := (F10.v.2 1 (by omega)).2
  have f2 : W10.frozen? ⟨g2, 2, none⟩ = false := (F10.v.2 2 (by omega)).2
  have f3 : W10.frozen? ⟨g2, 3, none⟩ = false := (F10.v.2 3 (by omega)).2
  have FF := hid F10
  have n1 : ¬ g2 = gt := by have := F10.o1; omega
  have n2 : ¬ g2 = ga := by have := F10.o2; omega
  have n3 : ¬ g2 = gw := by have := F10.o2; have := F10.o3; omega
  have n4 : ¬ g2 = gs := by have := F10.o2; have := F10.o3; omega
  clear F10 V10 hgs
  have HW := hid (show decide (x0 = 161 ∧ e0 = 0 ∧ e1 = 0 ∧ e2 = 0 ∧ e3 = 0 ∧ e4 = 0 ∧ p4 = n) = (((x0 : Int) == 161) && (true && decide (e0 = 0) && decide (e1 = 0) && decide (e2 = 0) && decide (e3 = 0) && decide (e4 = 0)) && ((p4 : Int) == (n : Int))) by
    rw [Bool.eq_iff_iff]; simp; omega)
  generalize (true && decide (e0 = 0) && decide (e1 = 0) && decide (e2 = 0) && decide (e3 = 0) && decide (e4 = 0)) = wh at *
  generalize ((x0 : Int) == 161) = mk at *
  generalize hpn : ((p4 : Int) == (n : Int)) = pn at *
  have VF : Hid (VarF ((((W10.setCell ⟨g2, 0, none⟩ (.int .i64 (x1 : Int))).setCell ⟨g2, 1, none⟩ (.int .i64 (x2 : Int))).setCell ⟨g2, 2, none⟩ (.int .u64 (x3 : Int))).setCell ⟨g2, 3, none⟩ (.int .u16 (x4 : Int))).drew g2 ⟨(x1 : Int), (x2 : Int), x3, x4⟩ ∧
      Below w.heap.size w ((((W10.setCell ⟨g2, 0, none⟩ (.int .i64 (x1 : Int))).setCell ⟨g2, 1, none⟩ (.int .i64 (x2 : Int))).setCell ⟨g2, 2, none⟩ (.int .u64 (x3 : Int))).setCell ⟨g2, 3, none⟩ (.int .u16 (x4 : Int))).drew) := hid (by
    have hv := varf_stored FF.out.v.2 ⟨(x1 : Int), (x2 : Int), x3, x4⟩
    have hb := (setCells_oth g2 (encf ⟨(x1 : Int), (x2 : Int), x3, x4⟩) 0 W10).1
    exact ⟨hv.keep (Below.refl _ _).drew, (FF.out.bel.trans (hb.mono (by have := FF.out.o0; have := FF.out.o1; omega))).drew⟩)
  clear FF
  cases mk with
  | false =>
    go_region
    go_wp2
    exact bodyPost_ret (results_f1 Tryz.results69 _ rfl VF.out.1) rfl ⟨by rw [HF.out, HW.out]; simp [frOf], VF.out.2⟩
  | true =>
    cases wh with
    | false =>
      go_region
      go_wp2
      exact bodyPost_ret (results_f1 Tryz.results69 _ rfl VF.out.1) rfl ⟨by rw [HF.out, HW.out]; simp [frOf], VF.out.2⟩
    | true =>
      go_region
      go_wp2
      exact bodyPost_ret (results_f1 Tryz.results69 _ rfl VF.out.1) rfl ⟨by rw [HF.out, HW.out]; simp [frOf], VF.out.2⟩
end Go.Proofs.YtlgedfljmgedfaaGreat.F8
namespace Go.Proofs.YtlgedfljmgedfaaGreat.F8
open Go Go.RowKit
set_option maxRecDepth 100000 in
theorem read_none (A : Option Addr) (n c er : Nat) (w : World) (he : ((er : Int) != 0) = true) (HO : ∀ w' : World, Below w.heap.size w w' → Calls Tryz.prog 68 #[.slice A n c] w' (RetE w'.heap.size [] er w')) :
    Calls Tryz.prog 27 #[.slice A n c] w fun e w' => e = .returned (.tuple #[fv fz, .int .i64 (er : Int)]) ∧ Below w.heap.size w w' := by
  have H := hid HO
  clear HO
  go_enter Tryz.func27, Tryz.ntmps27
  go_wp2_with (first
    | (refine wpList_svf (x := fz) rfl (.tmp 2) (.tmp 15) rfl rfl rfl v2 ?_; intro w3 v3 b3 o3 _; have B3 : Hid (Below w.heap.size w w3) := hid (B2.out.trans b3))
    | (go_at_call 68; (with_reducible refine (H.out w1 b1).mono ?_); rintro e w2 ⟨A2, n2, c2, rfl, own2, b2⟩; have v2 := v1.keep b2; have B2 : Hid (Below w.heap.size w w2) := hid (b1.trans (b2.mono b1.size)); clear v1 b2)
    | (refine wpList_alf rfl rfl ?_; intro w1 v1 b1 s1))
  exact bodyPost_ret (results_f1 Tryz.results27 _ rfl v3) rfl ⟨rfl, B3.out⟩
set_option maxRecDepth 100000 in
set_option maxHeartbeats 1000000 in
theorem read_some (A : Option Addr) (n c : Nat) (l : List Nat) (x : Fr) (is : Bool) (w : World) (HO : ∀ w' : World, Below w.heap.size w w' → Calls Tryz.prog 68 #[.slice A n c] w' (RetE w'.heap.size (bv l) 0 w')) (ho : Oct l) (hl : l.length ≤ 1048576) (hf : (frOf (flds l).1, (flds l).2) = (x, is)) :
    Calls Tryz.prog 27 #[.slice A n c] w fun e w' => e = .returned (if is = true ∧ OkF x then .tuple #[fv x, .int .i64 0] else .tuple #[fv fz, .int .i64 4]) ∧ Below w.heap.size w w' := by
  have H := hid HO
  have HF : Hid (∀ (A : Option Addr) (n c : Nat) (w : World), Row w w.heap.size A n (bv l) → n ≤ c → Calls Tryz.prog 69 #[.slice A n c] w fun e w' => e = .returned (.tuple #[fv x, .bool is]) ∧ Below w.heap.size w w') := hid (fun A n c w hr hnc => by
    have := fields_any A n c w.heap.size l w hr (Nat.le_refl _) ho hnc (by have := hr.1; rw [bv_len] at this; omega)
    rw [(Prod.mk.inj hf).1, (Prod.mk.inj hf).2] at this
    exact this)
  have HC := hid (fun w => check_any x w)
  clear HO ho hl hf
  cases is with
  | false =>
    rw [if_neg (fun e => by cases e.1)]
    go_enter Tryz.func27, Tryz.ntmps27
    go_wp2_with (first
      | (refine wpList_svf (x := fz) rfl (.tmp 2) (.tmp 29) rfl rfl rfl v5 ?_; intro w6 v6 b6 o6 _; have B6 : Hid (Below w.heap.size w w6) := hid (B5.out.trans b6))
      | (refine wpList_svf (x := x) rfl (.tmp 6) (.tmp 20) rfl rfl rfl u4 ?_; intro w5 u5 b5 o5 _; have v5 := v4.other o5 (by have := v3.lt; omega); have B5 : Hid (Below w.heap.size w w5) := hid (B4.out.trans (b5.mono B3.out.size)))
      | (refine wpList_alf rfl rfl ?_; intro w4 u4 b4 s4; have v4 := v3.keep b4; have B4 : Hid (Below w.heap.size w w4) := hid (B3.out.trans (b4.mono B3.out.size)))
      | (go_at_call 69; (with_reducible refine (HF.out A2 n2 c2 w2 own2.row own2.cap).mono ?_); rintro e w3 ⟨rfl, b3⟩; have v3 := v2.keep b3; have B3 : Hid (Below w.heap.size w w3) := hid (B2.out.trans (b3.mono B2.out.size)); clear v2 b3)
      | (go_at_call 68; (with_reducible refine (H.out w1 b1).mono ?_); rintro e w2 ⟨A2, n2, c2, rfl, own2, b2⟩; have v2 := v1.keep b2; have B2 : Hid (Below w.heap.size w w2) := hid (b1.trans (b2.mono b1.size)); clear v1 b2)
      | (refine wpList_alf rfl rfl ?_; intro w1 v1 b1 s1))
    exact bodyPost_ret (results_f1 Tryz.results27 _ rfl v6) rfl ⟨rfl, B6.out⟩
  | true =>
    by_cases hok : OkF x
    · rw [okE_ok hok] at HC
      rw [if_pos ⟨rfl, hok⟩]
      clear hok
      go_enter Tryz.func27, Tryz.ntmps27
      go_wp2_with (first
        | (refine wpList_svf (x := x) rfl (.tmp 2) (.tmp 30) rfl rfl rfl v6 ?_; intro w7 v7 b7 o7 _; have B7 : Hid (Below w.heap.size w w7) := hid (B6.out.trans b7))
        | (refine wpList_ldf rfl (.tmp 6) rfl rfl u6 ?_)
        | (go_at_call 61; (with_reducible refine (HC.out w5).mono ?_); rintro e w6 ⟨rfl, b6⟩; have v6 := v5.keep b6; have u6 := u5.keep b6; have B6 : Hid (Below w.heap.size w w6) := hid (B5.out.trans (b6.mono B5.out.size)))
        | (refine wpList_ldf rfl (.tmp 6) rfl rfl u5 ?_)
        | (refine wpList_svf (x := x) rfl (.tmp 6) (.tmp 20) rfl rfl rfl u4 ?_; intro w5 u5 b5 o5 _; have v5 := v4.other o5 (by have := v3.lt; omega); have B5 : Hid (Below w.heap.size w w5) := hid (B4.out.trans (b5.mono B3.out.size)))
        | (refine wpList_alf rfl rfl ?_; intro w4 u4 b4 s4; have v4 := v3.keep b4; have B4 : Hid (Below w.heap.size w w4) := hid (B3.out.trans (b4.mono B3.out.size)))
        | (go_at_call 69; (with_reducible refine (HF.out A2 n2 c2 w2 own2.row own2.cap).mono ?_); rintro e w3 ⟨rfl, b3⟩; have v3 := v2.keep b3; have B3 : Hid (Below w.heap.size w w3) := hid (B2.out.trans (b3.mono B2.out.size)); clear v2 b3)
        | (go_at_call 68; (with_reducible refine (H.out w1 b1).mono ?_); rintro e w2 ⟨A2, n2, c2, rfl, own2, b2⟩; have v2 := v1.keep b2; have B2 : Hid (Below w.heap.size w w2) := hid (b1.trans (b2.mono b1.size)); clear v1 b2)
        | (refine wpList_alf rfl rfl ?_; intro w1 v1 b1 s1))
      exact bodyPost_ret (results_f1 Tryz.results27 _ rfl v7) rfl ⟨rfl, B7.out⟩
    · rw [okE_bad hok] at HC
      rw [if_neg (fun e => hok e.2)]
      clear hok
      go_enter Tryz.func27, Tryz.ntmps27
      go_wp2_with (first
        | (refine wpList_svf (x := fz) rfl (.tmp 2) (.tmp 29) rfl rfl rfl v6 ?_; intro w7 v7 b7 o7 _; have B7 : Hid (Below w.heap.size w w7) := hid (B6.out.trans b7))
        | (go_at_call 61; (with_reducible refine (HC.out w5).mono ?_); rintro e w6 ⟨rfl, b6⟩; have v6 := v5.keep b6; have B6 : Hid (Below w.heap.size w w6) := hid (B5.out.trans (b6.mono B5.out.size)))
        | (refine wpList_ldf rfl (.tmp 6) rfl rfl u5 ?_)
        | (refine wpList_svf (x := x) rfl (.tmp 6) (.tmp 20) rfl rfl rfl u4 ?_; intro w5 u5 b5 o5 _; have v5 := v4.other o5 (by have := v3.lt; omega); have B5 : Hid (Below w.heap.size w w5) := hid (B4.out.trans (b5.mono B3.out.size)))
        | (refine wpList_alf rfl rfl ?_; intro w4 u4 b4 s4; have v4 := v3.keep b4; have B4 : Hid (Below w.heap.size w w4) := hid (B3.out.trans (b4.mono B3.out.size)))
        | (go_at_call 69; (with_reducible refine (HF.out A2 n2 c2 w2 own2.row own2.cap).mono ?_); rintro e w3 ⟨rfl, b3⟩; have v3 := v2.keep b3; have B3 : Hid (Below w.heap.size w w3) := hid (B2.out.trans (b3.mono B2.out.size)); clear v2 b3)
        | (go_at_call 68; (with_reducible refine (H.out w1 b1).mono ?_); rintro e w2 ⟨A2, n2, c2, rfl, own2, b2⟩; have v2 := v1.keep b2; have B2 : Hid (Below w.heap.size w w2) := hid (b1.trans (b2.mono b1.size)); clear v1 b2)
        | (refine wpList_alf rfl rfl ?_; intro w1 v1 b1 s1))
      exact bodyPost_ret (results_f1 Tryz.results27 _ rfl v7) rfl ⟨rfl, B7.out⟩
theorem read_any (A : Option Addr) (n c B : Nat) (bs : List Nat) (w : World) (ha : Row w B A n (bv bs)) (hB : B ≤ w.heap.size) (ho : Oct bs) (hnc : n ≤ c) (hn : n ≤ 1048579) :
    Calls Tryz.prog 27 #[.slice A n c] w fun e w' => e = .returned (.tuple #[fv (rd bs).1, .int .i64 ((rd bs).2 : Nat)]) ∧ Below w.heap.size w w' := by
  have hl : bs.length = n := by rw [← bv_len]; exact ha.1
  unfold rd
  rw [hl]
  by_cases h3 : n < 3
  · rw [if_pos h3]
    exact read_none A n c 3 w rfl (fun w' _ => open24_short A n c w' h3)
  · rw [if_neg h3, if_neg (by omega)]
    by_cases ht : tail24 (bs.take (n - 3)) = bs.drop (n - 3)
    · rw [if_pos ht]
      refine (read_some A n c (bs.take (n - 3)) _ _ w (fun w' hb => open24_ok A n c B bs w' (ha.below (hb.mono hB)) (Nat.le_trans hB hb.size) ho (by omega) (by omega) hnc ht) (ho.take _) (by rw [List.length_take]; omega) rfl).mono ?_
      rintro e w' ⟨rfl, b⟩
      refine ⟨?_, b⟩
      split <;> rfl
    · rw [if_neg ht]
      exact read_none A n c 5 w rfl (fun w' hb => open24_bad A n c B bs w' (ha.below (hb.mono hB)) (Nat.le_trans hB hb.size) ho (by omega) (by omega) hnc ht)
end Go.Proofs.YtlgedfljmgedfaaGreat.F8
