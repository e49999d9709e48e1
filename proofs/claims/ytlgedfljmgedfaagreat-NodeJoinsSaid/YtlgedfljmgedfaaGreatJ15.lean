/-
  Texts Fe of this seat, as far as they are used.
-/
import Derived.Test.YtlgedfljmgedfaaGreatJ11
import Derived.Test.YtlgedfljmgedfaaGreatJ12
import Derived.Test.YtlgedfljmgedfaaGreatJ14
import Derived.WalkKit
import Derived.WalkSpells
import Derived.WalkLawsBesides
import Derived.LoopTactic
import Derived.RegionTactic
import Derived.Deep.QuietTactic
import Derived.BigQuiet
import Derived.Deep.Light
import Derived.Below
import Derived.Maps.AppendAt
import Derived.OwnWalk
import Derived.Laws.OwnMore
import Derived.Deep.MidRow
import Derived.Deep.RegionHeld3
import Derived.Deep.DeepCutAuto
import Derived.Lib.QuietBelow
namespace Go.Proofs.YtlgedfljmgedfaaGreat.F8
open Go Go.RowKit

theorem ret_two {k1 k2 : IntKind} {a b c d : Int} (h : a = b) (h' : c = d) : Ending.returned (.tuple #[.int k1 a, .int k2 c]) = .returned (.tuple #[.int k1 b, .int k2 d]) := by rw [h, h']
theorem ret_three {k1 k2 k3 : IntKind} {a b c d e f : Int} (h : a = b) (h' : c = d) (h'' : e = f) : Ending.returned (.tuple #[.int k1 a, .int k2 c, .int k3 e]) = .returned (.tuple #[.int k1 b, .int k2 d, .int k3 f]) := by rw [h, h', h'']

/-- A frame's cells, its value. -/
def encf (x : Fr) : List Value := [.int .i64 x.k, .int .i64 x.f, .int .u64 (x.s : Int), .int .u16 (x.m : Int)]
def fv (x : Fr) : Value := .agg (encf x).toArray
theorem encf_len (x : Fr) : (encf x).length = 4 := rfl
theorem encf_one (x : Fr) : ∀ u ∈ encf x, u.oneCell' = true := by
  intro u hu; simp [encf] at hu; rcases hu with rfl | rfl | rfl | rfl <;> rfl
theorem size25 : (Tryz.prog.info? 54).map (·.size) = some 4 := by kernel_rfl
theorem zero25 (w : World) : (zeroValue 54).run Tryz.prog w = .ok (fv fz) w := by kernel_rfl

/-- Block g is a variable that holds the frame. -/
def VarF (w : World) (g : Nat) (x : Fr) : Prop := w.rangeAt g 0 (encf x) ∧ w.there g 0 4
/-- Only block g is another one. -/
def Oth (g : Nat) (w w' : World) : Prop := ∀ k, k ≠ g → w'.heap[k]? = w.heap[k]?
theorem range_keep {w w' : World} {b o : Nat} {cs : List Value} (h : w.rangeAt b o cs) {B : Nat} (hb : b < B) (hk : Below B w w') : w'.rangeAt b o cs := fun j v hv => (hk.cell (p := ⟨b, o + j, none⟩) hb).trans (h j v hv)
theorem there_keep {w w' : World} {b o n : Nat} (h : w.there b o n) {B : Nat} (hb : b < B) (hk : Below B w w') : w'.there b o n := fun j hj =>
  ⟨by rw [hk.cell (p := ⟨b, o + j, none⟩) hb]; exact (h j hj).1, by rw [hk.frozen (p := ⟨b, o + j, none⟩) hb]; exact (h j hj).2⟩
theorem range_other {w w' : World} {b o g : Nat} {cs : List Value} (h : w.rangeAt b o cs) (hb : b ≠ g) (ho : Oth g w w') : w'.rangeAt b o cs := fun j v hv => (World.cell?_of_block (a := ⟨b, o + j, none⟩) (ho b hb)).trans (h j v hv)
theorem there_other {w w' : World} {b o n g : Nat} (h : w.there b o n) (hb : b ≠ g) (ho : Oth g w w') : w'.there b o n := fun j hj =>
  ⟨by rw [World.cell?_of_block (a := ⟨b, o + j, none⟩) (ho b hb)]; exact (h j hj).1, by rw [World.frozen?_of_block (a := ⟨b, o + j, none⟩) (ho b hb)]; exact (h j hj).2⟩
section
variable {w w' : World} {g : Nat} {x : Fr}
theorem VarF.below (h : VarF w g x) {B : Nat} (hk : Below B w w') (hb : g < B) : VarF w' g x := ⟨range_keep h.1 hb hk, there_keep h.2 hb hk⟩
theorem VarF.other (h : VarF w g x) {b : Nat} (ho : Oth b w w') (hb : g ≠ b) : VarF w' g x := ⟨range_other h.1 hb ho, there_other h.2 hb ho⟩
theorem VarF.lt (h : VarF w g x) : g < w.heap.size := World.block_lt_of_cell? w _ (h.1 0 _ rfl)
theorem VarF.keep (h : VarF w g x) (hk : Below w.heap.size w w') : VarF w' g x := h.below hk h.lt
theorem VarF.c0 (h : VarF w g x) : w.cell? ⟨g, 0, none⟩ = some (.int .i64 x.k) := h.1 0 _ rfl
theorem VarF.c1 (h : VarF w g x) : w.cell? ⟨g, 1, none⟩ = some (.int .i64 x.f) := h.1 1 _ rfl
theorem VarF.c2 (h : VarF w g x) : w.cell? ⟨g, 2, none⟩ = some (.int .u64 (x.s : Int)) := h.1 2 _ rfl
theorem VarF.c3 (h : VarF w g x) : w.cell? ⟨g, 3, none⟩ = some (.int .u16 (x.m : Int)) := h.1 3 _ rfl
/-- A new variable. -/
theorem varf_new (w : World) (x : Fr) : VarF (w.alloc (.cells (encf x).toArray 54)) w.heap.size x := by
  have h1 : (w.alloc (.cells (encf x).toArray 54)).rangeAt w.heap.size 0 (encf x) := fun j v hv => by
    rw [Nat.zero_add, cell_of_row _ _ _ _ _ _ (heap_alloc_new w _)]
    simpa using hv
  refine ⟨h1, fun j hj => ⟨?_, frozen_of_row _ _ _ _ _ (heap_alloc_new w _)⟩⟩
  rw [h1 j _ (List.getElem?_eq_getElem (by rw [encf_len]; exact hj))]; rfl
/-- Cells of a block set: no other one is touched. -/
theorem setCells_oth (g : Nat) : ∀ (vs : List Value) (o : Nat) (w : World), Below g w (w.setCells g o vs) ∧ Oth g w (w.setCells g o vs) := by
  intro vs
  induction vs with
  | nil => exact fun o w => ⟨Below.refl _ _, fun _ _ => rfl⟩
  | cons v r ih => exact fun o w => ⟨((Below.refl _ _).setCell (p := ⟨g, o, none⟩) (Nat.le_refl _) v).trans (ih (o + 1) _).1, fun k hk => ((ih (o + 1) _).2 k hk).trans (Below.heap_setCell w ⟨g, o, none⟩ v k hk)⟩
theorem setCells_size (g : Nat) : ∀ (vs : List Value) (o : Nat) (w : World), (w.setCells g o vs).heap.size = w.heap.size := by
  intro vs
  induction vs with
  | nil => exact fun o w => rfl
  | cons v r ih => exact fun o w => (ih (o + 1) _).trans (by simp)
theorem there_set {n : Nat} (vs : List Value) (o : Nat) (h : w.there g 0 n) : (w.setCells g o vs).there g 0 n := World.there_setCells h g o vs
theorem varf_stored (ht : w.there g 0 4) (x : Fr) : VarF (w.setCells g 0 (encf x)) g x := ⟨World.rangeAt_setCells_same w g 0 (encf x) ht, there_set _ _ ht⟩

/-! ### At the operation, for the walk -/
variable {ops : Array Oper} {rest : List Oper} {o : Oper} {a : Act} {Q : Exit → Act → World → Prop}
theorem wpList_boxf (hg : o.guard = none) (y : Operand) (ho : o.op = .box 54 y) (hx : a.eval y = fv x)
    (h : ∀ w', VarF w' w.heap.size x → Below w.heap.size w w' → Hid (w'.heap.size = w.heap.size + 1) → wpList Tryz.prog ops Q rest (a.put o.dst (.pointer (some ⟨w.heap.size, 0, none⟩))) w') : wpList Tryz.prog ops Q (o :: rest) a w := by
  refine wpList_plain hg fun K hK => ?_
  unfold Oper.wp execOp
  simp only [ho, hx, Sem.run_bind, Instr.box, newVar, newRow, run_newObj_alloc, Sem.run_pure, Result.andThen_ok]
  exact hK _ _ (h _ (varf_new w x) ((Below.refl _ _).alloc (Nat.le_refl _) _) (hid (by simp)))
theorem wpList_alf (hg : o.guard = none) (ho : o.op = .alloc 54)
    (h : ∀ w', VarF w' w.heap.size fz → Below w.heap.size w w' → Hid (w'.heap.size = w.heap.size + 1) → wpList Tryz.prog ops Q rest (a.put o.dst (.pointer (some ⟨w.heap.size, 0, none⟩))) w') : wpList Tryz.prog ops Q (o :: rest) a w := by
  refine wpList_plain hg fun K hK => ?_
  unfold Oper.wp execOp
  simp only [ho, Sem.run_bind, Instr.alloc, zero25, newVar, newRow, run_newObj_alloc, Sem.run_pure, Result.andThen_ok]
  exact hK _ _ (h _ (varf_new w fz) ((Below.refl _ _).alloc (Nat.le_refl _) _) (hid (by simp)))
theorem wpList_ldf (hw : Region.wanted o (yielded ops a.tmps) = true) (y : Operand) (ho : o.op = .load 54 y) (hx : a.eval y = .pointer (some ⟨g, 0, none⟩)) (hv : VarF w g x)
    (h : wpList Tryz.prog ops Q rest (a.put o.dst (fv x)) w) : wpList Tryz.prog ops Q (o :: rest) a w :=
  wpList_step fun _ hK => by rw [if_pos hw]; exact wp_load_mid 54 y ho g 0 hx (encf x) _ hv.1 Tryz.underlying54 rfl (by rw [size25]; rfl) (hK _ _ h)
theorem wpList_svf (hg : o.guard = none) (y z : Operand) (ho : o.op = .store 54 y z) {p : Fr} (hx : a.eval y = .pointer (some ⟨g, 0, none⟩)) (hy : a.eval z = fv x) (hv : VarF w g p)
    (h : ∀ w', VarF w' g x → Below g w w' → Oth g w w' → Hid (w'.heap.size = w.heap.size) → wpList Tryz.prog ops Q rest (a.put o.dst undef) w') : wpList Tryz.prog ops Q (o :: rest) a w :=
  wpList_store_mid hg 54 y z ho g 0 (encf x).toArray hx hy hv.2 (by rw [size25]; rfl) (all_oneCell_toArray (encf_one x)) (h _ (varf_stored hv.2 x) (setCells_oth g _ _ _).1 (setCells_oth g _ _ _).2 (hid (setCells_size _ _ _ _)))
/-! ### Results that lie in cells -/
theorem ldfv (h : VarF w g x) : (loadVar 54 ⟨g, 0, none⟩).run Tryz.prog w = .ok (fv x) w := run_loadVar_mid w g 0 54 (encf x) _ h.1 Tryz.underlying54 rfl (by rw [size25]; rfl)
end
end Go.Proofs.YtlgedfljmgedfaaGreat.F8
namespace Go.Proofs.YtlgedfljmgedfaaGreat.F8
open Go Go.RowKit

/-- No node. -/
def Out (q : Int) : Prop := q < 0 ∨ 15 < q
theorem isNode_in (k : Nat) (w : World) (hk : k ≤ 15) : Calls Tryz.prog 111 #[.int .i64 (k : Int)] w fun e w' => e = .returned (.bool true) ∧ w = w' := by
  go_enter Tryz.func111, Tryz.ntmps111
  go_wp2
  go_ret
  exact ⟨ret_bool (by simp; omega), rfl⟩
theorem isNode_out (q : Int) (w : World) (hq : Out q) : Calls Tryz.prog 111 #[.int .i64 q] w fun e w' => e = .returned (.bool false) ∧ w = w' := by
  unfold Out at hq
  by_cases h : 0 ≤ q
  · have hq2 : 15 < q := by omega
    clear hq
    go_enter Tryz.func111, Tryz.ntmps111
    go_wp2
    go_ret
    exact ⟨ret_bool (by simp; omega), rfl⟩
  · clear hq
    go_enter Tryz.func111, Tryz.ntmps111
    go_wp2
    go_ret
    exact ⟨ret_bool (by simp), rfl⟩
theorem wrap_pow (k : Nat) (hk : k ≤ 15) : IntKind.u16.wrap ((2 : Int) ^ k) = ((2 ^ k : Nat) : Int) := by
  have hp := pow15 k hk
  have e : (2 : Int) ^ k = ((2 ^ k : Nat) : Int) := by norm_cast
  rw [IntKind.wrap_u16, e]
  generalize 2 ^ k = p at hp
  omega
theorem bit_in (k : Nat) (w : World) (hk : k ≤ 15) : Calls Tryz.prog 67 #[.int .i64 (k : Int)] w fun e w' => e = .returned (.int .u16 ((2 ^ k : Nat) : Int)) ∧ w = w' := by
  have hp := pow15 k hk
  have HP := hid (wrap_pow k hk)
  have HK := hid hk
  go_enter Tryz.func67, Tryz.ntmps67
  go_wp2_with (go_at_call 111; refine (isNode_in k _ HK.out).mono ?_; rintro e w' ⟨rfl, rfl⟩)
  go_ret
  exact ⟨ret_int HP.out, rfl⟩
theorem ne_of_hs (m k : Nat) : (((m &&& 2 ^ k : Nat) : Int) != 0) = hs m k := by
  have hp := Nat.two_pow_pos k
  rw [and_pow]
  cases h : hs m k
  · rfl
  · rw [if_pos rfl, bne_iff_ne]; omega
theorem has_in (m k : Nat) (w : World) (hm : m < 65536) (hk : k ≤ 15) : Calls Tryz.prog 26 #[.int .u16 (m : Int), .int .i64 (k : Int)] w fun e w' => e = .returned (.bool (hs m k)) ∧ w = w' := by
  have hp := pow15 k hk
  have hb := u16_and_nat m (2 ^ k) hm (by omega)
  have HR := hid (ne_of_hs m k)
  have HBT := hid (fun w => bit_in k w hk)
  generalize m &&& 2 ^ k = y at hb HR
  generalize 2 ^ k = p at *
  go_enter Tryz.func26, Tryz.ntmps26
  go_wp2_with (go_at_call 67; refine (HBT.out _).mono ?_; rintro e w' ⟨rfl, rfl⟩)
  go_ret
  exact ⟨ret_bool HR.out, rfl⟩
theorem with_in (m k : Nat) (w : World) (hm : m < 65536) (hk : k ≤ 15) : Calls Tryz.prog 75 #[.int .u16 (m : Int), .int .i64 (k : Int)] w fun e w' => e = .returned (.int .u16 (addb m k : Nat)) ∧ w = w' := by
  have hp := pow15 k hk
  have hb := u16_or_nat m (2 ^ k) hm (by omega)
  rw [or_pow] at hb
  have HBT := hid (fun w => bit_in k w hk)
  generalize addb m k = y at hb ⊢
  generalize 2 ^ k = p at *
  go_enter Tryz.func75, Tryz.ntmps75
  go_wp2_with (go_at_call 67; refine (HBT.out _).mono ?_; rintro e w' ⟨rfl, rfl⟩)
  go_ret
  exact ⟨rfl, rfl⟩
theorem without_in (m k : Nat) (w : World) (hm : m < 65536) (hk : k ≤ 15) : Calls Tryz.prog 92 #[.int .u16 (m : Int), .int .i64 (k : Int)] w fun e w' => e = .returned (.int .u16 (subb m k : Nat)) ∧ w = w' := by
  have hp := pow15 k hk
  have hb := u16_andNot_nat m (2 ^ k) hm (by omega)
  rw [andNot_pow m k hm hk] at hb
  have HBT := hid (fun w => bit_in k w hk)
  generalize subb m k = y at hb ⊢
  generalize 2 ^ k = p at *
  go_enter Tryz.func92, Tryz.ntmps92
  go_wp2_with (go_at_call 67; refine (HBT.out _).mono ?_; rintro e w' ⟨rfl, rfl⟩)
  go_ret
  exact ⟨rfl, rfl⟩
theorem bel_drewN {B : Nat} {a w : World} (h : Below B a w) (n : Nat) : Below B a (w.drewN n) := by
  induction n with
  | zero => exact h
  | succ n ih => exact ih.drew
/-- How many bits of a byte are 1, as the library's table has it. -/
@[reducible] def pop8 : ByteArray := ⟨(((([0, 1, 1, 2, 1, 2, 2, 3, 1, 2, 2, 3, 2, 3, 3, 4, 1, 2, 2, 3, 2, 3, 3, 4, 2, 3, 3, 4, 3, 4, 4, 5, 1, 2, 2, 3, 2, 3, 3, 4, 2, 3, 3, 4, 3, 4, 4, 5, 2, 3, 3, 4, 3, 4, 4, 5, 3, 4, 4, 5, 4, 5, 5, 6] : List UInt8).append [1, 2, 2, 3, 2, 3, 3, 4, 2, 3, 3, 4, 3, 4, 4, 5, 2, 3, 3, 4, 3, 4, 4, 5, 3, 4, 4, 5, 4, 5, 5, 6, 2, 3, 3, 4, 3, 4, 4, 5, 3, 4, 4, 5, 4, 5, 5, 6, 3, 4, 4, 5, 4, 5, 5, 6, 4, 5, 5, 6, 5, 6, 6, 7]).append ([1, 2, 2, 3, 2, 3, 3, 4, 2, 3, 3, 4, 3, 4, 4, 5, 2, 3, 3, 4, 3, 4, 4, 5, 3, 4, 4, 5, 4, 5, 5, 6, 2, 3, 3, 4, 3, 4, 4, 5, 3, 4, 4, 5, 4, 5, 5, 6, 3, 4, 4, 5, 4, 5, 5, 6, 4, 5, 5, 6, 5, 6, 6, 7].append [2, 3, 3, 4, 3, 4, 4, 5, 3, 4, 4, 5, 4, 5, 5, 6, 3, 4, 4, 5, 4, 5, 5, 6, 4, 5, 5, 6, 5, 6, 6, 7, 3, 4, 4, 5, 4, 5, 5, 6, 4, 5, 5, 6, 5, 6, 6, 7, 4, 5, 5, 6, 5, 6, 6, 7, 5, 6, 6, 7, 6, 7, 7, 8]))).toArray⟩
theorem pop8_size : pop8.size = 256 := by decide +kernel
theorem pop8_all : ∀ a : Fin 256, (pop8[a.val]'(by rw [pop8_size]; exact a.isLt)).toNat = cn a.val 8 := by decide +kernel
theorem idx8 (a : Nat) (h : a < 256) (w : World) : (Instr.index 9 (.string pop8) (.int .u16 (a : Int))).run Tryz.prog w = .ok (.int .u8 ((cn a 8 : Nat) : Int)) w := by
  have h2 : 0 ≤ (a : Int) ∧ (a : Int) < (pop8.size : Int) := by rw [pop8_size]; omega
  rw [run_index_string w 9 pop8 .u16 (a : Int) Tryz.underlying9, dif_pos h2]
  have := pop8_all ⟨a, h⟩
  simp only [Int.toNat_natCast]
  rw [this]
set_option maxRecDepth 100000 in
theorem ones_any (m : Nat) (w : World) (hm : m < 65536) : Calls Tryz.prog 123 #[.int .u16 (m : Int)] w fun e w' => e = .returned (.int .i64 (cn m 16 : Nat)) ∧ Below w.heap.size w w' := by
  have e1 : bits .and .u16 (m : Int) 255 = ((m % 256 : Nat) : Int) := by
    have := u16_and_nat m 255 hm (by omega)
    rw [nat_mask8] at this; exact this
  have e2 : (m : Int) / 256 = ((m / 256 : Nat) : Int) := by omega
  have i1 := idx8 (m / 256) (by omega)
  have i2 := idx8 (m % 256) (by omega)
  have c1 := cn_le (m / 256) 8
  have c2 := cn_le (m % 256) 8
  have HC := hid (cn_halves m)
  generalize cn (m / 256) 8 = x at *
  generalize cn (m % 256) 8 = y at *
  generalize cn m 16 = z at *
  generalize m / 256 = p at *
  generalize m % 256 = q at *
  obtain ⟨S, hS⟩ : ∃ S, S = pop8 := ⟨_, rfl⟩
  rw [← hS] at i1 i2
  unfold pop8 at hS
  go_enter Tryz.func123, Tryz.ntmps123
  rw [← hS]
  clear hS
  go_wp2
  go_quiet (fail)
  go_wp2
  go_ret
  exact ⟨by rw [HC.out]; simp, bel_drewN (Below.refl _ _) _⟩
theorem count_any (m : Nat) (w : World) (hm : m < 65536) : Calls Tryz.prog 77 #[.int .u16 (m : Int)] w fun e w' => e = .returned (.int .i64 (cn m 16 : Nat)) ∧ Below w.heap.size w w' := by
  go_enter Tryz.func77, Tryz.ntmps77
  go_wp2_with (go_at_call 123; refine (ones_any m _ hm).mono ?_; rintro e w1 ⟨rfl, b1⟩)
  go_ret
  exact ⟨rfl, b1⟩
end Go.Proofs.YtlgedfljmgedfaaGreat.F8
namespace Go.Proofs.YtlgedfljmgedfaaGreat.F8
open Go Go.RowKit
def okE (x : Fr) : Nat := if OkF x then 0 else 1
theorem okE_ok {x : Fr} (h : OkF x) : okE x = 0 := if_pos h
theorem okE_bad {x : Fr} (h : ¬ OkF x) : okE x = 1 := if_neg h
/-- Why a frame may not be. -/
theorem bad_why (k f : Int) (s m : Nat) (h : ¬ OkF ⟨k, f, s, m⟩) : (k ≠ 1 ∧ k ≠ 2) ∨ Out f ∨ 4294967296 < s := by
  unfold OkF at h; unfold Out; simp only at h; omega
theorem check_ok1 (k : Int) (q1 : (k != 1) = false) (_q2 : (k != 2) = true) (f1 s m : Nat) (w : World) (h : f1 ≤ 15) (hs : s ≤ 4294967296) : Calls Tryz.prog 61 #[fv ⟨k, (f1 : Int), s, m⟩] w fun e w' => e = .returned (.int .i64 0) ∧ Below w.heap.size w w' := by
  have HF := hid h
  go_enter Tryz.func61, Tryz.ntmps61
  go_wp2_with (first
    | (go_at_call 111; refine (isNode_in f1 _ HF.out).mono ?_; rintro e w' ⟨rfl, rfl⟩)
    | (refine wpList_boxf (x := ⟨k, (f1 : Int), s, m⟩) rfl (.tmp 0) rfl rfl ?_; intro w1 v1 b1 s1; have c0 : w1.cell? ⟨w.heap.size, 0, none⟩ = some (.int .i64 k) := v1.c0; have c1 : w1.cell? ⟨w.heap.size, 1, none⟩ = some (.int .i64 (f1 : Int)) := v1.c1; have c2 : w1.cell? ⟨w.heap.size, 2, none⟩ = some (.int .u64 (s : Int)) := v1.c2))
  go_ret
  exact ⟨rfl, b1⟩
theorem check_slot1 (k : Int) (q1 : (k != 1) = false) (_q2 : (k != 2) = true) (f1 s m : Nat) (w : World) (h : f1 ≤ 15) (hs : 4294967296 < s) : Calls Tryz.prog 61 #[fv ⟨k, (f1 : Int), s, m⟩] w fun e w' => e = .returned (.int .i64 1) ∧ Below w.heap.size w w' := by
  have HF := hid h
  go_enter Tryz.func61, Tryz.ntmps61
  go_wp2_with (first
    | (go_at_call 111; refine (isNode_in f1 _ HF.out).mono ?_; rintro e w' ⟨rfl, rfl⟩)
    | (refine wpList_boxf (x := ⟨k, (f1 : Int), s, m⟩) rfl (.tmp 0) rfl rfl ?_; intro w1 v1 b1 s1; have c0 : w1.cell? ⟨w.heap.size, 0, none⟩ = some (.int .i64 k) := v1.c0; have c1 : w1.cell? ⟨w.heap.size, 1, none⟩ = some (.int .i64 (f1 : Int)) := v1.c1; have c2 : w1.cell? ⟨w.heap.size, 2, none⟩ = some (.int .u64 (s : Int)) := v1.c2))
  go_ret
  exact ⟨rfl, b1⟩
theorem check_from1lo (k : Int) (q1 : (k != 1) = false) (_q2 : (k != 2) = true) (f : Int) (s m : Nat) (w : World) (h : f < 0) : Calls Tryz.prog 61 #[fv ⟨k, f, s, m⟩] w fun e w' => e = .returned (.int .i64 1) ∧ Below w.heap.size w w' := by
  have HF : Hid (Out f) := hid (by unfold Out; omega)
  go_enter Tryz.func61, Tryz.ntmps61
  go_wp2_with (first
    | (go_at_call 111; refine (isNode_out f _ HF.out).mono ?_; rintro e w' ⟨rfl, rfl⟩)
    | (refine wpList_boxf (x := ⟨k, f, s, m⟩) rfl (.tmp 0) rfl rfl ?_; intro w1 v1 b1 s1; have c0 : w1.cell? ⟨w.heap.size, 0, none⟩ = some (.int .i64 k) := v1.c0; have c1 : w1.cell? ⟨w.heap.size, 1, none⟩ = some (.int .i64 f) := v1.c1; have c2 : w1.cell? ⟨w.heap.size, 2, none⟩ = some (.int .u64 (s : Int)) := v1.c2))
  go_ret
  exact ⟨rfl, b1⟩
theorem check_from1hi (k : Int) (q1 : (k != 1) = false) (_q2 : (k != 2) = true) (f : Int) (s m : Nat) (w : World) (h : 15 < f) : Calls Tryz.prog 61 #[fv ⟨k, f, s, m⟩] w fun e w' => e = .returned (.int .i64 1) ∧ Below w.heap.size w w' := by
  have HF : Hid (Out f) := hid (by unfold Out; omega)
  go_enter Tryz.func61, Tryz.ntmps61
  go_wp2_with (first
    | (go_at_call 111; refine (isNode_out f _ HF.out).mono ?_; rintro e w' ⟨rfl, rfl⟩)
    | (refine wpList_boxf (x := ⟨k, f, s, m⟩) rfl (.tmp 0) rfl rfl ?_; intro w1 v1 b1 s1; have c0 : w1.cell? ⟨w.heap.size, 0, none⟩ = some (.int .i64 k) := v1.c0; have c1 : w1.cell? ⟨w.heap.size, 1, none⟩ = some (.int .i64 f) := v1.c1; have c2 : w1.cell? ⟨w.heap.size, 2, none⟩ = some (.int .u64 (s : Int)) := v1.c2))
  go_ret
  exact ⟨rfl, b1⟩
theorem check_ok2 (k : Int) (q1 : (k != 1) = true) (q2 : (k != 2) = false) (f1 s m : Nat) (w : World) (h : f1 ≤ 15) (hs : s ≤ 4294967296) : Calls Tryz.prog 61 #[fv ⟨k, (f1 : Int), s, m⟩] w fun e w' => e = .returned (.int .i64 0) ∧ Below w.heap.size w w' := by
  have HF := hid h
  go_enter Tryz.func61, Tryz.ntmps61
  go_wp2_with (first
    | (go_at_call 111; refine (isNode_in f1 _ HF.out).mono ?_; rintro e w' ⟨rfl, rfl⟩)
    | (refine wpList_boxf (x := ⟨k, (f1 : Int), s, m⟩) rfl (.tmp 0) rfl rfl ?_; intro w1 v1 b1 s1; have c0 : w1.cell? ⟨w.heap.size, 0, none⟩ = some (.int .i64 k) := v1.c0; have c1 : w1.cell? ⟨w.heap.size, 1, none⟩ = some (.int .i64 (f1 : Int)) := v1.c1; have c2 : w1.cell? ⟨w.heap.size, 2, none⟩ = some (.int .u64 (s : Int)) := v1.c2))
  go_ret
  exact ⟨rfl, b1⟩
theorem check_slot2 (k : Int) (q1 : (k != 1) = true) (q2 : (k != 2) = false) (f1 s m : Nat) (w : World) (h : f1 ≤ 15) (hs : 4294967296 < s) : Calls Tryz.prog 61 #[fv ⟨k, (f1 : Int), s, m⟩] w fun e w' => e = .returned (.int .i64 1) ∧ Below w.heap.size w w' := by
  have HF := hid h
  go_enter Tryz.func61, Tryz.ntmps61
  go_wp2_with (first
    | (go_at_call 111; refine (isNode_in f1 _ HF.out).mono ?_; rintro e w' ⟨rfl, rfl⟩)
    | (refine wpList_boxf (x := ⟨k, (f1 : Int), s, m⟩) rfl (.tmp 0) rfl rfl ?_; intro w1 v1 b1 s1; have c0 : w1.cell? ⟨w.heap.size, 0, none⟩ = some (.int .i64 k) := v1.c0; have c1 : w1.cell? ⟨w.heap.size, 1, none⟩ = some (.int .i64 (f1 : Int)) := v1.c1; have c2 : w1.cell? ⟨w.heap.size, 2, none⟩ = some (.int .u64 (s : Int)) := v1.c2))
  go_ret
  exact ⟨rfl, b1⟩
theorem check_from2lo (k : Int) (q1 : (k != 1) = true) (q2 : (k != 2) = false) (f : Int) (s m : Nat) (w : World) (h : f < 0) : Calls Tryz.prog 61 #[fv ⟨k, f, s, m⟩] w fun e w' => e = .returned (.int .i64 1) ∧ Below w.heap.size w w' := by
  have HF : Hid (Out f) := hid (by unfold Out; omega)
  go_enter Tryz.func61, Tryz.ntmps61
  go_wp2_with (first
    | (go_at_call 111; refine (isNode_out f _ HF.out).mono ?_; rintro e w' ⟨rfl, rfl⟩)
    | (refine wpList_boxf (x := ⟨k, f, s, m⟩) rfl (.tmp 0) rfl rfl ?_; intro w1 v1 b1 s1; have c0 : w1.cell? ⟨w.heap.size, 0, none⟩ = some (.int .i64 k) := v1.c0; have c1 : w1.cell? ⟨w.heap.size, 1, none⟩ = some (.int .i64 f) := v1.c1; have c2 : w1.cell? ⟨w.heap.size, 2, none⟩ = some (.int .u64 (s : Int)) := v1.c2))
  go_ret
  exact ⟨rfl, b1⟩
theorem check_from2hi (k : Int) (q1 : (k != 1) = true) (q2 : (k != 2) = false) (f : Int) (s m : Nat) (w : World) (h : 15 < f) : Calls Tryz.prog 61 #[fv ⟨k, f, s, m⟩] w fun e w' => e = .returned (.int .i64 1) ∧ Below w.heap.size w w' := by
  have HF : Hid (Out f) := hid (by unfold Out; omega)
  go_enter Tryz.func61, Tryz.ntmps61
  go_wp2_with (first
    | (go_at_call 111; refine (isNode_out f _ HF.out).mono ?_; rintro e w' ⟨rfl, rfl⟩)
    | (refine wpList_boxf (x := ⟨k, f, s, m⟩) rfl (.tmp 0) rfl rfl ?_; intro w1 v1 b1 s1; have c0 : w1.cell? ⟨w.heap.size, 0, none⟩ = some (.int .i64 k) := v1.c0; have c1 : w1.cell? ⟨w.heap.size, 1, none⟩ = some (.int .i64 f) := v1.c1; have c2 : w1.cell? ⟨w.heap.size, 2, none⟩ = some (.int .u64 (s : Int)) := v1.c2))
  go_ret
  exact ⟨rfl, b1⟩
theorem check_kind (k f : Int) (s m : Nat) (w : World) (h1 : k ≠ 1) (h2 : k ≠ 2) : Calls Tryz.prog 61 #[fv ⟨k, f, s, m⟩] w fun e w' => e = .returned (.int .i64 1) ∧ Below w.heap.size w w' := by
  have q1 : (k != 1) = true := by rw [bne_iff_ne]; exact h1
  have q2 : (k != 2) = true := by rw [bne_iff_ne]; exact h2
  go_enter Tryz.func61, Tryz.ntmps61
  go_wp2_with (first
    | (refine wpList_boxf (x := ⟨k, f, s, m⟩) rfl (.tmp 0) rfl rfl ?_; intro w1 v1 b1 s1; have c0 : w1.cell? ⟨w.heap.size, 0, none⟩ = some (.int .i64 k) := v1.c0; have c1 : w1.cell? ⟨w.heap.size, 1, none⟩ = some (.int .i64 f) := v1.c1; have c2 : w1.cell? ⟨w.heap.size, 2, none⟩ = some (.int .u64 (s : Int)) := v1.c2))
  go_ret
  exact ⟨rfl, b1⟩
theorem check_any (x : Fr) (w : World) : Calls Tryz.prog 61 #[fv x] w fun e w' => e = .returned (.int .i64 (okE x : Nat)) ∧ Below w.heap.size w w' := by
  obtain ⟨k, f, s, m⟩ := x
  by_cases h : OkF ⟨k, f, s, m⟩
  · rw [okE_ok h]
    obtain ⟨h1, h2, h3, h4⟩ := h
    simp only at h1 h2 h3 h4
    obtain ⟨g, rfl⟩ : ∃ g : Nat, f = g := ⟨f.toNat, by omega⟩
    rcases h1 with rfl | rfl
    · exact check_ok1 1 rfl rfl g s m w (by omega) h4
    · exact check_ok2 2 rfl rfl g s m w (by omega) h4
  · rw [okE_bad h]
    by_cases hk : k ≠ 1 ∧ k ≠ 2
    · exact check_kind k f s m w hk.1 hk.2
    · by_cases hf : f < 0
      · by_cases h1 : k = 1
        · subst h1; exact check_from1lo 1 rfl rfl f s m w hf
        · obtain rfl : k = 2 := by omega
          exact check_from2lo 2 rfl rfl f s m w hf
      · by_cases hf2 : 15 < f
        · by_cases h1 : k = 1
          · subst h1; exact check_from1hi 1 rfl rfl f s m w hf2
          · obtain rfl : k = 2 := by omega
            exact check_from2hi 2 rfl rfl f s m w hf2
        · obtain ⟨g, rfl⟩ : ∃ g : Nat, f = g := ⟨f.toNat, by omega⟩
          have hs : 4294967296 < s := by
            rcases bad_why _ _ _ _ h with c | c | c
            · exact absurd c hk
            · unfold Out at c; omega
            · exact c
          by_cases h1 : k = 1
          · subst h1; exact check_slot1 1 rfl rfl g s m w (by omega) hs
          · obtain rfl : k = 2 := by omega
            exact check_slot2 2 rfl rfl g s m w (by omega) hs
end Go.Proofs.YtlgedfljmgedfaaGreat.F8
namespace Go.Proofs.YtlgedfljmgedfaaGreat.F8
open Go Go.RowKit

theorem vary_two (k f s : Nat) (w : World) (hs : s < 18446744073709551616) :
    Calls Tryz.prog 62 #[.slice (some ⟨w.heap.size, 0, none⟩) 3 3, .slice (some ⟨w.heap.size + 1, 0, none⟩) 1 1] ((w.alloc (Obj.cells #[.int .u8 161, .int .u8 (k : Int), .int .u8 (f : Int)] 5)).alloc (Obj.cells #[.int .u64 (s : Int)] 24))
      fun e w' => ∃ A n c, e = .returned (.slice A n c) ∧ Own w' w.heap.size 5 A n c (bv ([161, k, f] ++ vary s)) ∧ Below w.heap.size w w' := by
  have h1 : Row ((w.alloc (Obj.cells #[.int .u8 161, .int .u8 (k : Int), .int .u8 (f : Int)] 5)).alloc (Obj.cells #[.int .u64 (s : Int)] 24)) (w.heap.size + 1) (some ⟨w.heap.size, 0, none⟩) 3 (bv [161, k, f]) :=
    (Row.laid' w 5 [.int .u8 161, .int .u8 (k : Int), .int .u8 (f : Int)] w.heap.size rfl).alloc (by simp) _
  have h2 : Row ((w.alloc (Obj.cells #[.int .u8 161, .int .u8 (k : Int), .int .u8 (f : Int)] 5)).alloc (Obj.cells #[.int .u64 (s : Int)] 24)) (w.heap.size + 2) (some ⟨w.heap.size + 1, 0, none⟩) 1 (uv [s]) :=
    Row.laid' (w.alloc (Obj.cells #[.int .u8 161, .int .u8 (k : Int), .int .u8 (f : Int)] 5)) 24 [.int .u64 (s : Int)] (w.heap.size + 1) (by simp)
  have hx : ∀ x ∈ [s], x < 18446744073709551616 := by intro x hx; simp at hx; omega
  refine (vary_any _ _ 3 3 1 1 (w.heap.size + 1) (w.heap.size + 2) [161, k, f] [s] _ h1 (by simp) h2 (by simp) hx (by omega) (by omega)).mono ?_
  rintro e w3 ⟨A3, n3, c3, rfl, own3, bel3⟩
  rw [varies1] at own3
  exact ⟨A3, n3, c3, rfl, own3.base_le (by simp; omega), (((Below.refl _ w).alloc (Nat.le_refl _) _).alloc (by simp) _).trans (bel3.mono (by simp; omega))⟩
theorem write_bad (x : Fr) (w : World) (h : ¬ OkF x) : Calls Tryz.prog 24 #[fv x] w (RetE w.heap.size [] 1 w) := by
  have HC := hid (fun w => check_any x w)
  rw [okE_bad h] at HC
  clear h
  go_enter Tryz.func24, Tryz.ntmps24
  go_wp2_with (first
    | (go_at_call 61; (with_reducible refine (HC.out w1).mono ?_); rintro e w2 ⟨rfl, b2⟩)
    | (refine wpList_ldf rfl (.tmp 1) rfl rfl v1 ?_)
    | (refine wpList_boxf (x := x) rfl (.tmp 0) rfl rfl ?_; intro w1 v1 b1 s1))
  go_ret2
  exact ⟨none, 0, 0, rfl, Own.nil _ _ _, b1.trans (b2.mono b1.size)⟩
set_option maxRecDepth 100000 in
set_option maxHeartbeats 1000000 in
theorem write_in (k f s m : Nat) (w : World) (h : OkF ⟨k, f, s, m⟩) (hm : m < 65536) : Calls Tryz.prog 24 #[fv ⟨k, f, s, m⟩] w (RetE w.heap.size (bv (sealedF ⟨k, f, s, m⟩)) 0 w) := by
  have HC := hid (fun w => check_any ⟨k, f, s, m⟩ w)
  rw [okE_ok h] at HC
  have HO := hid (bare_oct _ h)
  have HL := hid (bare_len ⟨k, f, s, m⟩)
  have HG := hid (gn_slot s h.2.2.2)
  have hk2 : k ≤ 2 := by have := h.1; simp only at this; omega
  have hf : f ≤ 15 := by have := h.2.2.1; simp only at this; omega
  have hs : s ≤ 4294967296 := h.2.2.2
  have HV : Hid ([161, k, f] ++ vary s ++ fixb m 2 = bare ⟨k, f, s, m⟩) := hid (List.append_assoc ..)
  have HF := hid (fixb2 m hm)
  clear h
  go_enter Tryz.func24, Tryz.ntmps24
  go_wp2_with (first
    | (go_at_call 62; refine (vary_two k f s w2 (by omega)).mono ?_; rintro e w3 ⟨A3, n3, l3, rfl, own3, b3⟩; have v3 := v2.keep b3; have B3 : Hid (Below w.heap.size w w3) := hid (B2.out.trans (b3.mono B2.out.size)); have c3 : w3.cell? ⟨w.heap.size, 3, none⟩ = some (.int .u16 (m : Int)) := v3.c3; clear v2 b3)
    | (go_at_call 61; (with_reducible refine (HC.out w1).mono ?_); rintro e w2 ⟨rfl, b2⟩; have v2 := v1.keep b2; have B2 : Hid (Below w.heap.size w w2) := hid (b1.trans (b2.mono b1.size)); clear v1 b1 b2; have c0 : w2.cell? ⟨w.heap.size, 0, none⟩ = some (.int .i64 (k : Int)) := v2.c0; have c1 : w2.cell? ⟨w.heap.size, 1, none⟩ = some (.int .i64 (f : Int)) := v2.c1; have c2 : (w2.alloc (Obj.cells #[.int .u8 161, .int .u8 (k : Int), .int .u8 (f : Int)] 5)).cell? ⟨w.heap.size, 2, none⟩ = some (.int .u64 (s : Int)) := (v2.keep ((Below.refl _ _).alloc (Nat.le_refl _) _)).c2)
    | (refine wpList_ldf rfl (.tmp 1) rfl rfl v1 ?_)
    | (refine wpList_boxf (x := ⟨k, f, s, m⟩) rfl (.tmp 0) rfl rfl ?_; intro w1 v1 b1 s1))
  have hn3 : n3 ≤ 10 := by
    have h1 := own3.len; have h2 := HG.out
    rw [bv_len, List.length_append, vary_len] at h1; simp only [List.length_cons, List.length_nil] at h1; omega
  have HN : Hid (Row w3 w3.heap.size A3 n3 (bv ([161, k, f] ++ vary s))) := hid own3.row
  clear own3
  refine (fixed_ok A3 n3 l3 w3.heap.size 2 m _ w3 HN.out (Nat.le_refl _) (by omega) (by omega) (by omega) hm).mono ?_
  rintro e w4 ⟨A4, n4, l4, rfl, own4, b4⟩
  rw [HV.out] at own4
  have HR : Hid (Row w4 w4.heap.size A4 n4 (bv (bare ⟨k, f, s, m⟩))) := hid own4.row
  have hn4 : n4 ≤ 10 := by have h1 := own4.len; have h2 := HG.out; rw [bv_len, HL.out] at h1; omega
  have B4 : Hid (Below w.heap.size w w4) := hid (B3.out.trans (b4.mono B3.out.size))
  clear own4 b4 HN
  go_wp2_with (go_at_call 64; refine (seal24_ok A4 n4 l4 w4.heap.size _ w4 HR.out (Nat.le_refl _) HO.out (by omega)).mono ?_; rintro e w5 ⟨A5, n5, l5, rfl, own5, b5⟩)
  go_ret2
  exact ⟨A5, n5, l5, rfl, own5.base_le B4.out.size, B4.out.trans (b5.mono B4.out.size)⟩
theorem write_ok (x : Fr) (w : World) (h : OkF x) (hm : x.m < 65536) : Calls Tryz.prog 24 #[fv x] w (RetE w.heap.size (bv (sealedF x)) 0 w) := by
  obtain ⟨k, f, s, m⟩ := x
  have h' := h
  obtain ⟨h1, h2, h3, h4⟩ := h'
  simp only at h1 h2 h3 h4 hm
  obtain ⟨a, rfl⟩ : ∃ a : Nat, k = a := ⟨k.toNat, by omega⟩
  obtain ⟨b, rfl⟩ : ∃ b : Nat, f = b := ⟨f.toNat, by omega⟩
  exact write_in a b s m w h hm
end Go.Proofs.YtlgedfljmgedfaaGreat.F8
