/-
  Contracts: crc's tail24 and tail32, slices.Grow of nothing, slices.Concat of two texts. What is asked: slices that read as bytes, of at most 10 million.
-/
import Derived.Test.YtldegdhpblkhhaaD
import Derived.Lib.AppendZerosOnto
import Derived.LoopN
namespace Go.Proofs.Ytldegdhpblkhhaa
open Go Go.RowKit

theorem bv_tail24 {bs : List Nat} (ho : Oct bs) : bv (tail24 bs) = [.int .u8 ((sum24 bs : Int) / 65536), .int .u8 ((sum24 bs : Int) / 256 % 256), .int .u8 ((sum24 bs : Int) % 256)] := by
  have hs := sum24_lt ho
  rw [show (sum24 bs : Int) / 65536 = ((sum24 bs / 65536 % 256 : Nat) : Int) by omega, show (sum24 bs : Int) / 256 % 256 = ((sum24 bs / 256 % 256 : Nat) : Int) by omega, show (sum24 bs : Int) % 256 = ((sum24 bs % 256 : Nat) : Int) by omega]
  rfl
theorem bv_tail32 {bs : List Nat} (ho : Oct bs) : bv (tail32 bs) = [.int .u8 ((sum32 bs : Int) % 256), .int .u8 ((sum32 bs : Int) / 256 % 256), .int .u8 ((sum32 bs : Int) / 65536 % 256), .int .u8 ((sum32 bs : Int) / 16777216)] := by
  have hs := sum32_lt ho
  rw [show (sum32 bs : Int) / 16777216 = ((sum32 bs / 16777216 % 256 : Nat) : Int) by omega, show (sum32 bs : Int) / 65536 % 256 = ((sum32 bs / 65536 % 256 : Nat) : Int) by omega, show (sum32 bs : Int) / 256 % 256 = ((sum32 bs / 256 % 256 : Nat) : Int) by omega, show (sum32 bs : Int) % 256 = ((sum32 bs % 256 : Nat) : Int) by omega]
  rfl
set_option maxHeartbeats 400000 in
theorem tail24_any (A : Option Addr) (n c B : Nat) (bs : List Nat) (w : World) (ha : Row w B A n (bv bs)) (hB : B ≤ w.heap.size) (ho : Oct bs) (hn : n ≤ 4611686018427387904) :
    Calls Try.prog 35 #[.slice A n c] w (RetB w.heap.size (bv (tail24 bs)) w) := by
  have HA := hid ha
  have hs := sum24_lt ho
  have HT := hid (bv_tail24 ho)
  clear ha
  go_enter Try.func35, Try.ntmps35
  go_wp2_with (go_at_call 50; refine (sum24_any A n c B bs w HA.out hB ho hn).mono ?_; rintro e w1 ⟨rfl, bel1⟩)
  go_ret
  refine ⟨_, 3, 3, rfl, ?_, bel1.alloc bel1.size _⟩
  rw [HT.out]
  exact World.ownsRow_lit (size := 1) w1 #[_, _, _] 3 bel1.size (by decide) rfl
set_option maxHeartbeats 400000 in
/-- An append of which it is known what it comes to. -/
theorem wpList_apprun {P : Program} {ops : Array Oper} {rest : List Oper} {o : Oper} {a : Act} {w : World} {Q : Exit → Act → World → Prop} (hgd : o.guard = none) (s x : Operand) (t1 t2 : TypeId)
    (ho : o.op = .call { callee := .builtin .append, args := #[s, x], argTypes := #[t1, t2] }) (v1 v2 : Value) (hs : a.eval s = v1) (hx : a.eval x = v2) (v : Value) (w' : World)
    (hrun : (Builtin.append_ #[t1, t2] o.type #[v1, v2]).run P w = .ok v w') (h : wpList P ops Q rest (a.put o.dst v) w') : wpList P ops Q (o :: rest) a w :=
  wpList_plain hgd fun _ hK => by
    unfold Oper.wp execOp
    simp only [ho, resolve, invoke, builtin, Sem.run_bind, Sem.run_pure, Result.andThen_ok, List.map_toArray, List.map_cons, List.map_nil, hs, hx, hrun]
    exact hK _ _ h

set_option maxHeartbeats 400000 in
theorem grow_nat (k : Nat) (w : World) (h0 : 0 < k) (hk : k ≤ 10000000) : Calls Try.prog 55 #[.slice none 0 0, .int .i64 (k : Int)] w fun e w' => ∃ A c, e = .returned (.slice A 0 c) ∧ Own w' w.heap.size 5 A 0 c [] ∧ Below w.heap.size w w' := by
  obtain ⟨i, hi0, hi1, hi2, hi3⟩ := info_parts info5
  have hrz := fun ty => Lib.run_append_grow_zeros (P := Try.prog) w 26 3 ty 5 i (.int .u8 0) .i64 .i64 Try.underlying26 Try.underlying3 hi0 hi1 none 0 0 [] (run_firstCells_none w.drew i.size 0 0 0) k h0 (by omega) (by omega) (by omega) (by rw [hi3]; omega) (growslice_fits (by omega) (by rw [hi3]; omega))
  have hG := grownCap_ge w (0 + k) 0 5
  have hG2 := grownCap_le_maxLen w (0 + k) 0 5 (by unfold maxLen; omega)
  rw [Nat.zero_add] at hrz hG hG2
  have hG3 : grownCap w k 0 5 ≤ 9223372036854775807 := by unfold maxLen at hG2; omega
  generalize grownCap w k 0 5 = G at *
  have hsz : (#[] ++ Builtin.zeroCells (Value.int IntKind.u8 0).cells k ++ Builtin.zeroCells (Value.int IntKind.u8 0).cells (G - k)).size = G := by
    have hz : ∀ m, (Builtin.zeroCells (Value.int IntKind.u8 0).cells m).size = m := fun m => by simp [Builtin.zeroCells, Value.cells]
    rw [Array.size_append, Array.size_append, hz, hz]
    simp only [List.size_toArray, List.length_nil]
    omega
  have HS := hid hsz
  have HG2 := hid hG2
  clear hi0 hi1 hi2 hi3 hsz hG2
  generalize (#[] ++ Builtin.zeroCells (Value.int IntKind.u8 0).cells k ++ Builtin.zeroCells (Value.int IntKind.u8 0).cells (G - k)) = cs at *
  have HRZ := hid hrz
  clear hrz
  go_enter Try.func55, Try.ntmps55
  go_wp2_with (at_builtin; refine wpList_apprun rfl (.tmp 20) (.tmp 21) 26 3 rfl _ _ rfl rfl _ _ (HRZ.out _) ?_)
  go_ret
  exact ⟨_, _, rfl, World.ownsRow_made w.drew cs G (Nat.le_refl _) HG2.out (by rw [HS.out, Nat.mul_one]), ((Below.refl _ w).drew).alloc (Nat.le_refl _) _⟩
theorem grow_any (k : Int) (w : World) (h0 : 0 < k) (hk : k ≤ 10000000) : Calls Try.prog 55 #[.slice none 0 0, .int .i64 k] w fun e w' => ∃ A c, e = .returned (.slice A 0 c) ∧ Own w' w.heap.size 5 A 0 c [] ∧ Below w.heap.size w w' := by
  obtain ⟨j, rfl⟩ : ∃ j : Nat, k = j := ⟨k.toNat, by omega⟩
  exact grow_nat j w (by omega) (by omega)

set_option maxHeartbeats 1000000 in
theorem concat_any (g n c m c2 B B2 : Nat) (A A2 : Option Addr) (a b : List Nat) (w : World) (h0 : w.cell? ⟨g, 0, none⟩ = some (.slice A n c)) (h1 : w.cell? ⟨g, 1, none⟩ = some (.slice A2 m c2)) (hg : g < w.heap.size)
    (ha : Row w B A n (bv a)) (hb : Row w B2 A2 m (bv b)) (hB : B ≤ w.heap.size) (hB2 : B2 ≤ w.heap.size) (hn : n ≤ 4000000) (hm : m ≤ 4000000) (hp : 0 < n + m) :
    Calls Try.prog 49 #[.slice (some ⟨g, 0, none⟩) 2 2] w (RetB w.heap.size (bv (a ++ b)) w) := by
  have HA := hid ha
  have HB := hid hb
  clear ha hb
  go_enter Try.func49, Try.ntmps49
  go_wp2
  refine wp_loop_rounds 3 ?_
  rw [rounds_succ]
  go_wp2
  rw [rounds_succ]
  go_wp2
  rw [rounds_succ]
  go_wp2_with fail
  refine (grow_any _ w (by omega) (by omega)).mono ?_
  rintro e w1 ⟨A1, c1, rfl, own1, bel1⟩
  have h0' : w1.cell? ⟨g, 0, none⟩ = some (.slice A n c) := (bel1.cell (p := ⟨g, 0, none⟩) hg).trans h0
  have h1' : w1.cell? ⟨g, 1, none⟩ = some (.slice A2 m c2) := (bel1.cell (p := ⟨g, 1, none⟩) hg).trans h1
  have HA1 : Hid (Row w1 B A n (bv a)) := hid (HA.out.below (bel1.mono hB))
  have HO1 := hid own1
  have HB1 := hid bel1
  clear h0 h1 HA own1 bel1
  go_wp2
  refine wp_loop_rounds 3 ?_
  rw [rounds_succ]
  go_wp2_with (at_builtin; refine wpList_app _ rfl (.tmp 31) (.tmp 32) 26 rfl w.heap.size 5 (.int .u8 0) 1 Try.underlying26 info5 rfl A1 0 c1 [] rfl HO1.out B A n c (bv a) rfl HA1.out (bv_one a) (by omega) (by omega) HB1.out.size ?_; intro A3 c3 w3 own3 bel3)
  rw [Nat.zero_add, List.nil_append] at own3
  have h1'' : w3.cell? ⟨g, 1, none⟩ = some (.slice A2 m c2) := (bel3.cell (p := ⟨g, 1, none⟩) hg).trans h1'
  have HB3 : Hid (Below w.heap.size w w3) := hid (HB1.out.trans bel3)
  have HBR : Hid (Row w3 B2 A2 m (bv b)) := hid (HB.out.below (HB3.out.mono hB2))
  have HO3 := hid own3
  clear h0' h1' HA1 HO1 HB1 own3 bel3 HB
  rw [rounds_succ]
  go_wp2_with (at_builtin; refine wpList_app _ rfl (.tmp 31) (.tmp 32) 26 rfl w.heap.size 5 (.int .u8 0) 1 Try.underlying26 info5 rfl A3 n c3 (bv a) rfl HO3.out B2 A2 m c2 (bv b) rfl HBR.out (bv_one b) (by omega) (by omega) HB3.out.size ?_; intro A4 c4 w4 own4 bel4)
  rw [rounds_succ]
  go_wp2
  go_ret
  exact ⟨A4, _, c4, rfl, by rw [bv_app]; exact own4, HB3.out.trans bel4⟩
end Go.Proofs.Ytldegdhpblkhhaa
