/-
  Texts Fb of this seat, as far as they are used.
-/
import Derived.Test.YtlgedfljmgedfaaGreatJ11
import Derived.Lib.AppendZerosOnto
import Derived.LoopN
import Derived.Deep.RegionHeld3
import Derived.Deep.DeepCutAuto
namespace Go.Proofs.YtlgedfljmgedfaaGreat.F8
open Go Go.RowKit

/-- A byte of a row. -/
theorem Row.byte {w : World} {B n : Nat} {A : Option Addr} {bs : List Nat} (h : Row w B A n (bv bs)) {k : Nat} (hk : k < n) : ∃ b o x, A = some ⟨b, o, none⟩ ∧ b < B ∧ bs[k]? = some x ∧ w.cell? ⟨b, o + k, none⟩ = some (.int .u8 (x : Int)) := by
  obtain ⟨b, o, u, rfl, hb, hu, hc⟩ := h.at_ hk
  have hl : k < bs.length := by rw [← bv_len, h.1]; exact hk
  refine ⟨b, o, bs[k], rfl, hb, List.getElem?_eq_getElem hl, ?_⟩
  rw [hc, ← hu]
  simp [bv, List.getElem?_eq_getElem hl]
theorem take_next {bs : List Nat} {k x : Nat} (h : bs[k]? = some x) : bs.take (k + 1) = bs.take k ++ [x] := by
  obtain ⟨hl, rfl⟩ := List.getElem?_eq_some_iff.1 h
  exact List.take_succ_eq_append_getElem hl

def SumRel (f e : Nat → Nat) (r0 : Nat) (bs : List Nat) (r i : Value) : Prop := ∃ k : Nat, k ≤ bs.length ∧ i = .int .i64 (k : Int) ∧ r = .int .u32 ((reg f e r0 (bs.take k) : Nat) : Int)
def ItRel (f : Nat → Nat) (n r0 : Nat) (r i : Value) : Prop := ∃ k : Nat, k ≤ n ∧ i = .int .i64 (k : Int) ∧ r = .int .u32 ((it f k r0 : Nat) : Int)
def HalfRel (f : Nat → Nat) (r0 : Nat) (r i : Value) : Prop := ∃ k : Nat, k ≤ 2 ∧ i = .int .i64 (k : Int) ∧ r = .int .u32 ((it f (4 * k) r0 : Nat) : Int)

set_option maxHeartbeats 1000000 in
set_option maxHeartbeats 1000000 in
theorem sum24_any (A : Option Addr) (n c B : Nat) (bs : List Nat) (w : World) (ha : Row w B A n (bv bs)) (hB : B ≤ w.heap.size) (ho : Oct bs) (hn : n ≤ 4611686018427387904) :
    Calls Tryz.prog 147 #[.slice A n c] w fun e w' => e = .returned (.int .u32 ((sum24 bs : Nat) : Int)) ∧ Below w.heap.size w w' := by
  have HA := hid ha
  have HO := hid ho
  have hnl : n = bs.length := by rw [← bv_len, ha.1]
  have HN := hid hnl
  have HT : Hid (∀ k, reg st24 e24 11994318 (bs.take k) < 16777216) := hid (fun k => reg_lt reg24 ent24 _ _ (by decide) (ho.take k))
  have HU : Hid (sum24 bs = id (reg st24 e24 11994318 (bs.take n))) := hid (by rw [hnl, List.take_of_length_le (Nat.le_refl _)]; rfl)
  clear ha ho hnl
  go_enter Tryz.func147, Tryz.ntmps147
  go_wp2_with fail
  refine (table24_any w).mono ?_
  rintro e w1 ⟨rfl, bel⟩
  have h1 : Hid ((agg16 (tab st24 (fun i => i * 1048576))).all (·.oneCell') = true) := hid (agg16_one _ fun j => rfl)
  have hs : Hid ((agg16 (tab st24 (fun i => i * 1048576))).size = 16) := hid rfl
  have hcs : Hid (∀ j, j < 16 → (agg16 (tab st24 (fun i => i * 1048576)))[j]? = some (.int .u32 ((t24 j : Nat) : Int))) := hid (fun j hj => by
    rcases j with _ | _ | _ | _ | _ | _ | _ | _ | _ | _ | _ | _ | _ | _ | _ | _ | j <;> first | rfl | omega)
  generalize agg16 (tab st24 (fun i => i * 1048576)) = tb at *
  have HT1 : Hid ((w1.alloc (.cells zeros16 180)).there w1.heap.size 0 16) := hid (there_block (c := zeros16) (t := 180) (heap_alloc_new w1 _) 16 (by decide))
  have HB : Hid (Below w.heap.size w (w1.alloc (.cells zeros16 180))) := hid (bel.alloc bel.size _)
  go_wp2_with (
    (refine wpList_store_mid rfl 180 (.tmp 3) (.tmp 7) rfl w1.heap.size 0 tb rfl rfl (by rw [hs.out]; exact HT1.out) (by rw [size37, hs.out]) h1.out ?_))
  have hWd : ((w1.alloc (Obj.cells zeros16 180)).setCells w1.heap.size 0 tb.toList) = ((w1.alloc (Obj.cells zeros16 180)).setCells w1.heap.size 0 tb.toList) := rfl
  conv at hWd => lhs; simp only [zeros16, agg16]
  rw [hWd]
  clear hWd
  have HB2 : Hid (Below w.heap.size w ((w1.alloc (Obj.cells zeros16 180)).setCells w1.heap.size 0 tb.toList)) := hid (Below.setCells tb.toList 0 HB.out bel.size)
  have HC : Hid (∀ j, j < 16 → ((w1.alloc (Obj.cells zeros16 180)).setCells w1.heap.size 0 tb.toList).cell? ⟨w1.heap.size, j, none⟩ = some (.int .u32 ((t24 j : Nat) : Int))) := hid (fun j hj => by
    have := World.rangeAt_setCells_same (w1.alloc (Obj.cells zeros16 180)) w1.heap.size 0 tb.toList (by rw [Array.length_toList, hs.out]; exact HT1.out) j (.int .u32 ((t24 j : Nat) : Int)) (by rw [Array.getElem?_toList]; exact hcs.out j hj)
    rwa [Nat.zero_add] at this)
  have HR2 : Hid (Row ((w1.alloc (Obj.cells zeros16 180)).setCells w1.heap.size 0 tb.toList) B A n (bv bs)) := hid (HA.out.below (HB2.out.mono hB))
  clear HA HB HT1 h1 hs hcs bel
  generalize (w1.alloc (Obj.cells zeros16 180)).setCells w1.heap.size 0 tb.toList = W at *
  generalize w1.heap.size = g at *
  have HA := HR2
  clear HR2
  go_loop [4, 10] (SumRel st24 e24 11994318 bs) (fun _ i => n - (intOf i).toNat)
  case atStart => exact ⟨0, Nat.zero_le _, rfl, rfl⟩
  case round =>
    obtain ⟨k, hk, rfl, rfl⟩ := hrel
    have hkn : k ≤ n := by rw [HN.out]; exact hk
    obtain ⟨r, hr⟩ : ∃ r, r = reg st24 e24 11994318 (bs.take k) := ⟨_, rfl⟩
    have hrM : r < 16777216 := by rw [hr]; exact HT.out k
    have HR := hid hr
    rw [← hr]
    clear hr hk
    by_cases hlt : k < n
    · obtain ⟨b, o, x, rfl, hb, hx, hcell⟩ := HA.out.byte hlt
      have hx8 : x < 256 := HO.out x (List.mem_of_getElem? hx)
      have hxor : bits .xor .u32 (r : Int) ((x : Int) * 65536) = ((r ^^^ e24 x : Nat) : Int) := xor32 rfl (by unfold e24; omega) (by omega) (by unfold e24; omega) rfl
      have hr2M : r ^^^ e24 x < 16777216 := Nat.xor_lt_two_pow (n := 24) hrM (ent24.lt x hx8)
      have HR2 : Hid (reg st24 e24 11994318 (bs.take (k + 1)) = it st24 8 (r ^^^ e24 x)) := hid (by rw [take_next hx, reg_snoc, ← HR.out])
      clear hx
      generalize r ^^^ e24 x = r2 at *
      go_wp2
      go_loop [4, 19] (HalfRel st24 r2) (fun _ i => 2 - (intOf i).toNat)
      case atStart => exact ⟨0, by omega, rfl, rfl⟩
      case round =>
        obtain ⟨m, hm, rfl, rfl⟩ := hrel
        obtain ⟨y, hy⟩ : ∃ y, y = it st24 (4 * m) r2 := ⟨_, rfl⟩
        have hyM : y < 16777216 := by rw [hy]; exact it_M (M := 16777216) st24_lt _ r2 hr2M
        have HY := hid hy
        rw [← hy]
        clear hy hxor hr2M hrM hcell
        by_cases hm8 : m < 2
        · have HN2 : Hid (it st24 (4 * (m + 1)) r2 = it st24 4 y) := hid (by rw [show 4 * (m + 1) = 4 * m + 4 by omega, it_add, ← HY.out])
          have hand : bits .and .u32 ((y : Int) * 16 % 4294967296) 16777215 = ((y * 16 % 16777216 : Nat) : Int) := by
            rw [show (y : Int) * 16 % 4294967296 = ((y * 16 : Nat) : Int) by omega]
            exact (u32_and_nat (y * 16) 16777215 (by omega) (by omega)).trans (by rw [show (16777215 : Nat) = 2 ^ 24 - 1 by decide, Nat.and_two_pow_sub_one_eq_mod])
          have hand2 : bits .and .u32 ((y : Int) * 16) 16777215 = ((y * 16 % 16777216 : Nat) : Int) := by
            rw [show (y : Int) * 16 = ((y * 16 : Nat) : Int) by omega]
            exact (u32_and_nat (y * 16) 16777215 (by omega) (by omega)).trans (by rw [show (16777215 : Nat) = 2 ^ 24 - 1 by decide, Nat.and_two_pow_sub_one_eq_mod])
          have hqi : (y : Int) / 1048576 = ((y / 1048576 : Nat) : Int) := by omega
          have hq16 : y / 1048576 < 16 := by omega
          have htl : t24 (y / 1048576) < 16777216 := (reg24.it 4).lt _ (by omega)
          have hx4 : bits .xor .u32 ((y * 16 % 16777216 : Nat) : Int) ((t24 (y / 1048576) : Nat) : Int) = ((it st24 4 y : Nat) : Int) := xor32 rfl rfl (by omega) (by omega) (half24 y hyM)
          have hc4 := HC.out _ hq16
          generalize y * 16 % 16777216 = lo at *
          generalize t24 (y / 1048576) = tv at *
          generalize y / 1048576 = q at *
          go_wp2
          go_round
          case rel => exact ⟨m + 1, by omega, by go_num, by rw [HN2.out]⟩
          case measure => simp [intOf]; omega
        · obtain rfl : m = 2 := by omega
          go_wp2_with fail
          exact ⟨⟨k + 1, by rw [← HN.out]; omega, by go_num, by rw [HR2.out, ← HY.out]⟩, by simp [intOf]; omega⟩
    · obtain rfl : k = n := by omega
      go_wp2
      go_ret
      exact ⟨ret_int (by rw [HU.out, ← HR.out]; rfl), HB2.out⟩
end Go.Proofs.YtlgedfljmgedfaaGreat.F8
namespace Go.Proofs.YtlgedfljmgedfaaGreat.F8
open Go Go.RowKit

theorem same_any (A A2 : Option Addr) (n c m c2 B B2 : Nat) (a b : List Nat) (r : Bool) (w : World) (ha : Row w B A n (bv a)) (hb : Row w B2 A2 m (bv b)) (oa : Oct a) (ob : Oct b) (hr : decide (a = b) = r) :
    Calls Tryz.prog 101 #[.slice A n c, .slice A2 m c2] w fun e w' => e = .returned (.bool r) ∧ w = w' := by
  have h1 := run_str (P := Tryz.prog) w 33 5 Tryz.underlying33 Tryz.underlying5 B A n c a ha 9 Tryz.underlying9
  have h2 := run_str (P := Tryz.prog) w 33 5 Tryz.underlying33 Tryz.underlying5 B2 A2 m c2 b hb 9 Tryz.underlying9
  have HE := hid (str_eq oa ob)
  have HR := hid hr
  clear hr ha hb
  go_enter Tryz.func101, Tryz.ntmps101
  go_wp2
  go_ret
  exact ⟨ret_bool (by rw [← HR.out, ← HE.out]), rfl⟩
theorem equal_any (A A2 : Option Addr) (n c m c2 B B2 : Nat) (a b : List Nat) (r : Bool) (w : World) (ha : Row w B A n (bv a)) (hb : Row w B2 A2 m (bv b)) (oa : Oct a) (ob : Oct b) (hr : decide (a = b) = r) :
    Calls Tryz.prog 148 #[.slice A n c, .slice A2 m c2] w fun e w' => e = .returned (.bool r) ∧ w = w' := by
  have h1 := run_str (P := Tryz.prog) w 33 5 Tryz.underlying33 Tryz.underlying5 B A n c a ha 9 Tryz.underlying9
  have h2 := run_str (P := Tryz.prog) w 33 5 Tryz.underlying33 Tryz.underlying5 B2 A2 m c2 b hb 9 Tryz.underlying9
  have HE := hid (str_eq oa ob)
  have HR := hid hr
  clear hr ha hb
  go_enter Tryz.func148, Tryz.ntmps148
  go_wp2
  go_ret
  exact ⟨ret_bool (by rw [← HR.out, ← HE.out]), rfl⟩

/-- What is told is a new row of these cells. -/
def RetB (base : Nat) (vs : List Value) (w : World) (e : Ending) (w' : World) : Prop := ∃ A n c, e = .returned (.slice A n c) ∧ Own w' base 5 A n c vs ∧ Below base w w'
/-- A new row, and an error's number. -/
def RetE (base : Nat) (vs : List Value) (er : Nat) (w : World) (e : Ending) (w' : World) : Prop := ∃ A n c, e = .returned (.tuple #[.slice A n c, .int .i64 (er : Int)]) ∧ Own w' base 5 A n c vs ∧ Below base w w'

set_option maxHeartbeats 400000 in
theorem clone_any (A : Option Addr) (n c B : Nat) (bs : List Nat) (w : World) (ha : Row w B A n (bv bs)) (hn : n ≤ 10000000) (hB : B ≤ w.heap.size) :
    Calls Tryz.prog 149 #[.slice A n c] w (RetB w.heap.size (bv bs) w) := by
  have HA := hid ha
  have q22 : ∀ (w : World) (a : Option Addr) (n c : Nat), (binOp .eql 33 (.slice a n c) (.slice none 0 0)).run Tryz.prog w = .ok (.bool a.isNone) w := fun w a n c => by
    simp only [binOp]
    simp [run_equal_slice_nil w 33 5 a n c Tryz.underlying33]
  clear ha
  cases A with
  | none =>
    obtain rfl : n = 0 := by
      rcases Nat.eq_zero_or_pos n with h | h
      · exact h
      · obtain ⟨b, o, e, _⟩ := HA.out.2 h; cases e
    go_enter Tryz.func149, Tryz.ntmps149
    go_wp2
    go_ret
    have : bv bs = [] := List.eq_nil_of_length_eq_zero HA.out.1
    exact ⟨none, 0, 0, rfl, by rw [this]; exact Own.nil _ _ _, Below.refl _ _⟩
  | some a =>
    go_enter Tryz.func149, Tryz.ntmps149
    go_wp2_with (at_builtin; refine wpList_app _ rfl (.tmp 5) (.tmp 6) 33 rfl w.heap.size 5 (.int .u8 0) 1 Tryz.underlying33 info5 rfl _ 0 _ [] rfl (World.ownsRow_lit w #[] 0 (Nat.le_refl _) (by decide) rfl) B (some a) n c (bv bs) rfl (HA.out.alloc hB _) (bv_one bs) (by omega) (by omega) (by simp) ?_; intro A1 c1 w2 own2 bel2)
    go_ret
    exact ⟨A1, _, c1, rfl, by simpa using own2, ((Below.refl _ _).alloc (Nat.le_refl _) _).trans bel2⟩
/-- An own row that is not empty: where it lies, its cells, one of them stored anew. -/
theorem Own.at_ {w : World} {base e : Nat} {A : Option Addr} {n c : Nat} {vs : List Value} (h : Own w base e A n c vs) (hn : 0 < n) :
    ∃ g, A = some ⟨g, 0, none⟩ ∧ base ≤ g ∧ (∀ j, j < n → w.cell? ⟨g, j, none⟩ = vs[j]?) ∧ (∀ j, w.frozen? ⟨g, j, none⟩ = false) ∧ ∀ (j : Nat) (u : Value), Own (w.setCell ⟨g, j, none⟩ u) base e A n c (vs.set j u) := by
  rcases h.2 with ⟨_, h0⟩ | ⟨g, cap, cur, hv, hb, _⟩
  · omega
  · have hA : A = some ⟨g, 0, none⟩ := by injection hv
    subst hA
    exact ⟨g, rfl, hb, fun j hj => World.ownsRow.cellAt h j (by omega), fun j => World.ownsRow.frozenAt h j, fun j u => (World.ownsRow.stored h j u).1⟩
end Go.Proofs.YtlgedfljmgedfaaGreat.F8
namespace Go.Proofs.YtlgedfljmgedfaaGreat.F8
open Go Go.RowKit

theorem bv_tail24 {bs : List Nat} (ho : Oct bs) : bv (tail24 bs) = [.int .u8 ((sum24 bs : Int) / 65536), .int .u8 ((sum24 bs : Int) / 256 % 256), .int .u8 ((sum24 bs : Int) % 256)] := by
  have hs := sum24_lt ho
  rw [show (sum24 bs : Int) / 65536 = ((sum24 bs / 65536 % 256 : Nat) : Int) by omega, show (sum24 bs : Int) / 256 % 256 = ((sum24 bs / 256 % 256 : Nat) : Int) by omega, show (sum24 bs : Int) % 256 = ((sum24 bs % 256 : Nat) : Int) by omega]
  rfl
set_option maxHeartbeats 400000 in
theorem tail24_any (A : Option Addr) (n c B : Nat) (bs : List Nat) (w : World) (ha : Row w B A n (bv bs)) (hB : B ≤ w.heap.size) (ho : Oct bs) (hn : n ≤ 4611686018427387904) :
    Calls Tryz.prog 116 #[.slice A n c] w (RetB w.heap.size (bv (tail24 bs)) w) := by
  have HA := hid ha
  have hs := sum24_lt ho
  have HT := hid (bv_tail24 ho)
  clear ha
  go_enter Tryz.func116, Tryz.ntmps116
  go_wp2_with (go_at_call 147; refine (sum24_any A n c B bs w HA.out hB ho hn).mono ?_; rintro e w1 ⟨rfl, bel1⟩)
  go_ret
  refine ⟨_, 3, 3, rfl, ?_, bel1.alloc bel1.size _⟩
  rw [HT.out]
  exact World.ownsRow_lit (size := 1) w1 #[_, _, _] 3 bel1.size (by decide) rfl
set_option maxHeartbeats 400000 in
/-- An append of which it is known what it comes to. -/
theorem wpList_apprun {P : Program} {ops : Array Oper} {rest : List Oper} {o : Oper} {a : Act} {w : World} {Q : Exit → Act → World → Prop} (hgd : o.guard = none) (s x : Operand) (t1 t2 : TypeId)
    (ho : o.op = .call { callee := .builtin .append, args := #[s, x], argTypes := #[t1, t2] }) (v1 v2 : Value) (hs : a.eval s = v1) (hx : a.eval x = v2) (v : Value) (w' : World)
    (hrun : (Builtin.append_ #[t1, t2] o.type #[v1, v2]).run P w = .ok v w') (h : wpList P ops Q rest (a.put o.dst v) w') : wpList P ops Q (o :: rest) a w :=
  wpList_plain hgd fun _ hK => by
    unfold Oper.wp execOp
    simp only [ho, resolve, invoke, builtin, Sem.run_bind, Sem.run_pure, Result.andThen_ok, List.map_toArray, List.map_cons, List.map_nil, hs, hx, hrun]
    exact hK _ _ h

set_option maxHeartbeats 400000 in
theorem grow_nat (k : Nat) (w : World) (h0 : 0 < k) (hk : k ≤ 10000000) : Calls Tryz.prog 170 #[.slice none 0 0, .int .i64 (k : Int)] w fun e w' => ∃ A c, e = .returned (.slice A 0 c) ∧ Own w' w.heap.size 5 A 0 c [] ∧ Below w.heap.size w w' := by
  obtain ⟨i, hi0, hi1, hi2, hi3⟩ := info_parts info5
  have hrz := fun ty => Lib.run_append_grow_zeros (P := Tryz.prog) w 33 3 ty 5 i (.int .u8 0) .i64 .i64 Tryz.underlying33 Tryz.underlying3 hi0 hi1 none 0 0 [] (run_firstCells_none w.drew i.size 0 0 0) k h0 (by omega) (by omega) (by omega) (by rw [hi3]; omega) (growslice_fits (by omega) (by rw [hi3]; omega))
  have hG := grownCap_ge w (0 + k) 0 5
  have hG2 := grownCap_le_maxLen w (0 + k) 0 5 (by unfold maxLen; omega)
  rw [Nat.zero_add] at hrz hG hG2
  have hG3 : grownCap w k 0 5 ≤ 9223372036854775807 := by unfold maxLen at hG2; omega
  generalize grownCap w k 0 5 = G at *
  have hsz : (#[] ++ Builtin.zeroCells (Value.int IntKind.u8 0).cells k ++ Builtin.zeroCells (Value.int IntKind.u8 0).cells (G - k)).size = G := by
    have hz : ∀ m, (Builtin.zeroCells (Value.int IntKind.u8 0).cells m).size = m := fun m => by simp [Builtin.zeroCells, Value.cells]
    rw [Array.size_append, Array.size_append, hz, hz]
    simp only [List.size_toArray, List.length_nil]
    omega
  have HS := hid hsz
  have HG2 := hid hG2
  clear hi0 hi1 hi2 hi3 hsz hG2
  generalize (#[] ++ Builtin.zeroCells (Value.int IntKind.u8 0).cells k ++ Builtin.zeroCells (Value.int IntKind.u8 0).cells (G - k)) = cs at *
  have HRZ := hid hrz
  clear hrz
  go_enter Tryz.func170, Tryz.ntmps170
  go_wp2_with (at_builtin; refine wpList_apprun rfl (.tmp 20) (.tmp 21) 33 3 rfl _ _ rfl rfl _ _ (HRZ.out _) ?_)
  go_ret
  exact ⟨_, _, rfl, World.ownsRow_made w.drew cs G (Nat.le_refl _) HG2.out (by rw [HS.out, Nat.mul_one]), ((Below.refl _ w).drew).alloc (Nat.le_refl _) _⟩
theorem grow_any (k : Int) (w : World) (h0 : 0 < k) (hk : k ≤ 10000000) : Calls Tryz.prog 170 #[.slice none 0 0, .int .i64 k] w fun e w' => ∃ A c, e = .returned (.slice A 0 c) ∧ Own w' w.heap.size 5 A 0 c [] ∧ Below w.heap.size w w' := by
  obtain ⟨j, rfl⟩ : ∃ j : Nat, k = j := ⟨k.toNat, by omega⟩
  exact grow_nat j w (by omega) (by omega)

set_option maxHeartbeats 1000000 in
theorem concat_any (g n c m c2 B B2 : Nat) (A A2 : Option Addr) (a b : List Nat) (w : World) (h0 : w.cell? ⟨g, 0, none⟩ = some (.slice A n c)) (h1 : w.cell? ⟨g, 1, none⟩ = some (.slice A2 m c2)) (hg : g < w.heap.size)
    (ha : Row w B A n (bv a)) (hb : Row w B2 A2 m (bv b)) (hB : B ≤ w.heap.size) (hB2 : B2 ≤ w.heap.size) (hn : n ≤ 4000000) (hm : m ≤ 4000000) (hp : 0 < n + m) :
    Calls Tryz.prog 146 #[.slice (some ⟨g, 0, none⟩) 2 2] w (RetB w.heap.size (bv (a ++ b)) w) := by
  have HA := hid ha
  have HB := hid hb
  clear ha hb
  go_enter Tryz.func146, Tryz.ntmps146
  go_wp2
  refine wp_loop_rounds 3 ?_
  rw [rounds_succ]
  go_wp2
  rw [rounds_succ]
  go_wp2
  rw [rounds_succ]
  go_wp2_with fail
  refine (grow_any _ w (by omega) (by omega)).mono ?_
  rintro e w1 ⟨A1, c1, rfl, own1, bel1⟩
  have h0' : w1.cell? ⟨g, 0, none⟩ = some (.slice A n c) := (bel1.cell (p := ⟨g, 0, none⟩) hg).trans h0
  have h1' : w1.cell? ⟨g, 1, none⟩ = some (.slice A2 m c2) := (bel1.cell (p := ⟨g, 1, none⟩) hg).trans h1
  have HA1 : Hid (Row w1 B A n (bv a)) := hid (HA.out.below (bel1.mono hB))
  have HO1 := hid own1
  have HB1 := hid bel1
  clear h0 h1 HA own1 bel1
  go_wp2
  refine wp_loop_rounds 3 ?_
  rw [rounds_succ]
  go_wp2_with (at_builtin; refine wpList_app _ rfl (.tmp 31) (.tmp 32) 33 rfl w.heap.size 5 (.int .u8 0) 1 Tryz.underlying33 info5 rfl A1 0 c1 [] rfl HO1.out B A n c (bv a) rfl HA1.out (bv_one a) (by omega) (by omega) HB1.out.size ?_; intro A3 c3 w3 own3 bel3)
  rw [Nat.zero_add, List.nil_append] at own3
  have h1'' : w3.cell? ⟨g, 1, none⟩ = some (.slice A2 m c2) := (bel3.cell (p := ⟨g, 1, none⟩) hg).trans h1'
  have HB3 : Hid (Below w.heap.size w w3) := hid (HB1.out.trans bel3)
  have HBR : Hid (Row w3 B2 A2 m (bv b)) := hid (HB.out.below (HB3.out.mono hB2))
  have HO3 := hid own3
  clear h0' h1' HA1 HO1 HB1 own3 bel3 HB
  rw [rounds_succ]
  go_wp2_with (at_builtin; refine wpList_app _ rfl (.tmp 31) (.tmp 32) 33 rfl w.heap.size 5 (.int .u8 0) 1 Tryz.underlying33 info5 rfl A3 n c3 (bv a) rfl HO3.out B2 A2 m c2 (bv b) rfl HBR.out (bv_one b) (by omega) (by omega) HB3.out.size ?_; intro A4 c4 w4 own4 bel4)
  rw [rounds_succ]
  go_wp2
  go_ret
  exact ⟨A4, _, c4, rfl, by rw [bv_app]; exact own4, HB3.out.trans bel4⟩
end Go.Proofs.YtlgedfljmgedfaaGreat.F8
namespace Go.Proofs.YtlgedfljmgedfaaGreat.F8
open Go Go.RowKit

theorem undrew {w w1 : World} (h : Below w.drew.heap.size w.drew w1) : Below w.heap.size w w1 := ⟨h.os, h.tape, h.output, h.size, h.block⟩
theorem tail24_len (bs : List Nat) : (tail24 bs).length = 3 := rfl
theorem retE_none (er : Nat) (w : World) : RetE w.heap.size [] er w (.returned (.tuple #[.slice none 0 0, .int .i64 (er : Int)])) w := ⟨none, 0, 0, rfl, Own.nil _ _ _, Below.refl _ _⟩

set_option maxHeartbeats 1000000 in
theorem seal24_in (A : Option Addr) (n c B : Nat) (bs : List Nat) (w : World) (ha : Row w B A n (bv bs)) (hB : B ≤ w.heap.size) (ho : Oct bs) (hn : n ≤ 1048576) :
    Calls Tryz.prog 115 #[.slice A n c, .func (.func 116) #[] #[]] w (RetE w.heap.size (bv (bs ++ tail24 bs)) 0 w) := by
  have HA := hid ha
  have HO := hid ho
  clear ha ho
  go_enter Tryz.func115, Tryz.ntmps115
  go_wp2_with fail
  refine (tail24_any A n c B bs w HA.out hB HO.out (by omega)).mono ?_
  rintro e w1 ⟨A1, n1, c1, rfl, own1, bel1⟩
  have hn1 : n1 = 3 := by rw [← own1.len, bv_len, tail24_len]
  subst hn1
  have HO1 := hid own1
  have HB1 := hid bel1
  have HA1 : Hid (Row w1 B A n (bv bs)) := hid (HA.out.below (bel1.mono hB))
  clear own1 bel1 HA
  go_wp2_with fail
  have hsz : (w1.alloc (Obj.cells #[Value.slice A n c, Value.slice A1 3 c1] 33)).heap.size = w1.heap.size + 1 := by simp
  have c0 : (w1.alloc (Obj.cells #[Value.slice A n c, Value.slice A1 3 c1] 33)).cell? ⟨w1.heap.size, 0, none⟩ = some (.slice A n c) := by
    rw [cell_of_row _ _ 0 _ 33 (0, 0) (heap_alloc_new w1 _)]; rfl
  have c4 : (w1.alloc (Obj.cells #[Value.slice A n c, Value.slice A1 3 c1] 33)).cell? ⟨w1.heap.size, 1, none⟩ = some (.slice A1 3 c1) := by
    rw [cell_of_row _ _ 1 _ 33 (0, 0) (heap_alloc_new w1 _)]; rfl
  refine (concat_any w1.heap.size n c 3 c1 B w1.heap.size A A1 bs (tail24 bs) _ c0 c4 (by omega) (HA1.out.alloc (Nat.le_trans hB HB1.out.size) _) (HO1.out.row.alloc (Nat.le_refl _) _) (by have := HB1.out.size; omega) (by omega) (by omega) (by omega) (by omega)).mono ?_
  rintro e w2 ⟨A2, n2, c2, rfl, own2, bel2⟩
  have HO2 : Hid (Own w2 w.heap.size 5 A2 n2 c2 (bv (bs ++ tail24 bs))) := hid (own2.base_le (by have := HB1.out.size; omega))
  have HB2 : Hid (Below w.heap.size w w2) := hid ((HB1.out.alloc HB1.out.size _).trans (bel2.mono (by have := HB1.out.size; omega)))
  clear own2 bel2 c0 c4 hsz HO1 HA1 HB1
  go_wp2_with fail
  go_ret2
  exact ⟨A2, n2, c2, rfl, HO2.out, HB2.out⟩
theorem seal24_ok (A : Option Addr) (n c B : Nat) (bs : List Nat) (w : World) (ha : Row w B A n (bv bs)) (hB : B ≤ w.heap.size) (ho : Oct bs) (hn : n ≤ 1048576) :
    Calls Tryz.prog 64 #[.slice A n c] w (RetE w.heap.size (bv (bs ++ tail24 bs)) 0 w) := by
  have HA := hid ha
  have HO := hid ho
  clear ha ho
  go_enter Tryz.func64, Tryz.ntmps64
  go_wp2_with (go_at_call 115; refine (seal24_in A n c B bs w HA.out hB HO.out hn).mono ?_; rintro e w1 ⟨A1, n1, c1, rfl, own1, bel1⟩)
  go_ret2
  exact ⟨A1, n1, c1, rfl, own1, bel1⟩
set_option maxHeartbeats 1000000 in
set_option maxHeartbeats 1000000 in
theorem open24_in (A : Option Addr) (n c B : Nat) (bs : List Nat) (r : Bool) (w : World) (ha : Row w B A n (bv bs)) (hB : B ≤ w.heap.size) (ho : Oct bs) (hn1 : 3 ≤ n) (hn2 : n ≤ 1048576 + 3) (hnc : n ≤ c)
    (hr : decide (tail24 (bs.take (n - 3)) = bs.drop (n - 3)) = r) :
    Calls Tryz.prog 117 #[.slice A n c, .int .i64 3, .func (.func 116) #[] #[]] w (if r then RetE w.heap.size (bv (bs.take (n - 3))) 0 w else RetE w.heap.size [] 5 w) := by
  obtain ⟨k, rfl⟩ : ∃ k, n = k + 3 := ⟨n - 3, by omega⟩
  rw [Nat.add_sub_cancel] at hr ⊢
  obtain ⟨b, o, rfl, hbb, _⟩ := ha.2 (by omega)
  have HT : Hid (Row w B (some ⟨b, o, none⟩) k (bv (bs.take k))) := hid (by have := ha.take (show k ≤ k + 3 by omega); rwa [bv_take] at this)
  have HD : Hid (Row w B (if c = k then some ⟨b, o, none⟩ else some ⟨b, o + k, none⟩) 3 (bv (bs.drop k))) := hid (by
    have := ha.cut (l := k) (r := k + 3) (by omega) (Nat.le_refl _) hnc
    rw [List.take_of_length_le (by rw [ha.1]; exact Nat.le_refl _), bv_drop, show k + 3 - k = 3 by omega] at this
    simpa [plain_add] using this)
  have HO := hid ho
  have HRR := hid hr
  have hsub : (((k + 3 : Nat) : Int) - 3) = (k : Int) := by omega
  have hsub2 : ((k : Int) + 3 - 3) = (k : Int) := by omega
  clear ha ho hr
  go_enter Tryz.func117, Tryz.ntmps117
  go_wp2_with fail
  have i1 : (0 : Int) ≤ (k : Int) := Int.natCast_nonneg _
  have i2 : (k : Int) ≤ (c : Int) := by omega
  have i3 : (k : Int) ≤ (k : Int) + 3 := by omega
  have i4 : (k : Int) + 3 ≤ (c : Int) := by omega
  have HTL := hid (tail24_any (some ⟨b, o, none⟩) k c B (bs.take k) w.drew (HT.out.keep (fun _ _ => rfl)) hB (HO.out.take k) (by omega))
  go_region_held3 (fun _ => True) (trivial)
    (first | (go_at_call 116; refine (HTL.out).mono ?_; rintro e w1 ⟨A1, n1, c1, rfl, own1, bel1⟩; dsimp only)
           | (go_at_call 148; refine (equal_any A1 _ n1 c1 _ _ w1.heap.size B _ _ r _ own1.row (HD.out.below ((undrew bel1).mono hB)) (tail24_oct _) (HO.out.drop k) HRR.out).mono ?_; rintro e w2 ⟨rfl, rfl⟩; dsimp only))
  have HB1 := hid (undrew bel1)
  have HT1 : Hid (Row w1 B (some ⟨b, o, none⟩) k (bv (bs.take k))) := hid (HT.out.below (HB1.out.mono hB))
  have hB1 : B ≤ w1.heap.size := Nat.le_trans hB HB1.out.size
  clear own1 bel1 HTL HT HD HRR HO
  cases r with
  | true =>
    go_wp2_with (go_at_call 149; refine (clone_any (some ⟨b, o, none⟩) k c B (bs.take k) w1 HT1.out (by omega) hB1).mono ?_; rintro e w2 ⟨A2, n2, c2, rfl, own2, bel2⟩)
    go_ret2
    show RetE w.heap.size (bv (bs.take k)) 0 w _ _
    exact ⟨A2, n2, c2, rfl, own2.base_le HB1.out.size, HB1.out.trans (bel2.mono HB1.out.size)⟩
  | false =>
    go_wp2
    go_ret2
    show RetE w.heap.size [] 5 w _ _
    exact ⟨none, 0, 0, rfl, Own.nil _ _ _, HB1.out⟩
theorem open24_ok (A : Option Addr) (n c B : Nat) (bs : List Nat) (w : World) (ha : Row w B A n (bv bs)) (hB : B ≤ w.heap.size) (ho : Oct bs) (hn1 : 3 ≤ n) (hn2 : n ≤ 1048576 + 3) (hnc : n ≤ c) (hr : tail24 (bs.take (n - 3)) = bs.drop (n - 3)) :
    Calls Tryz.prog 68 #[.slice A n c] w (RetE w.heap.size (bv (bs.take (n - 3))) 0 w) := by
  have H1 := hid (open24_in A n c B bs true w ha hB ho hn1 hn2 hnc (decide_eq_true hr))
  clear ha ho hr
  go_enter Tryz.func68, Tryz.ntmps68
  go_wp2_with (go_at_call 117; refine (H1.out).mono ?_; rintro e w1 ⟨A1, n1, c1, rfl, own1, bel1⟩)
  go_ret2
  exact ⟨A1, n1, c1, rfl, own1, bel1⟩
theorem open24_bad (A : Option Addr) (n c B : Nat) (bs : List Nat) (w : World) (ha : Row w B A n (bv bs)) (hB : B ≤ w.heap.size) (ho : Oct bs) (hn1 : 3 ≤ n) (hn2 : n ≤ 1048576 + 3) (hnc : n ≤ c) (hr : tail24 (bs.take (n - 3)) ≠ bs.drop (n - 3)) :
    Calls Tryz.prog 68 #[.slice A n c] w (RetE w.heap.size [] 5 w) := by
  have H1 := hid (open24_in A n c B bs false w ha hB ho hn1 hn2 hnc (decide_eq_false hr))
  clear ha ho hr
  go_enter Tryz.func68, Tryz.ntmps68
  go_wp2_with (go_at_call 117; refine (H1.out).mono ?_; rintro e w1 ⟨A1, n1, c1, rfl, own1, bel1⟩)
  go_ret2
  exact ⟨A1, n1, c1, rfl, own1, bel1⟩
theorem open24_short (A : Option Addr) (n c : Nat) (w : World) (hn : n < 3) : Calls Tryz.prog 68 #[.slice A n c] w (RetE w.heap.size [] 3 w) := by
  have h1 : Calls Tryz.prog 117 #[.slice A n c, .int .i64 3, .func (.func 116) #[] #[]] w fun e w' => e = .returned (.tuple #[.slice none 0 0, .int .i64 3]) ∧ w = w' := by
    go_enter Tryz.func117, Tryz.ntmps117
    go_wp2
    go_ret2
    exact ⟨rfl, rfl⟩
  have H1 := hid h1
  clear h1
  go_enter Tryz.func68, Tryz.ntmps68
  go_wp2_with (go_at_call 117; refine (H1.out).mono ?_; rintro e w1 ⟨rfl, rfl⟩)
  go_ret2
  exact retE_none 3 w
end Go.Proofs.YtlgedfljmgedfaaGreat.F8
namespace Go.Proofs.YtlgedfljmgedfaaGreat.F8
open Go Go.RowKit

end Go.Proofs.YtlgedfljmgedfaaGreat.F8
