/-
  Contracts of the sums: crc's Sum24 and Sum32, the document's own. What is asked: a slice that reads as bytes, of at most 2^62 of them.
-/
import Derived.Test.YtldegdhpblkhhaaB
namespace Go.Proofs.Ytldegdhpblkhhaa
open Go Go.RowKit

/-- A byte of a row. -/
theorem Row.byte {w : World} {B n : Nat} {A : Option Addr} {bs : List Nat} (h : Row w B A n (bv bs)) {k : Nat} (hk : k < n) : ∃ b o x, A = some ⟨b, o, none⟩ ∧ b < B ∧ bs[k]? = some x ∧ w.cell? ⟨b, o + k, none⟩ = some (.int .u8 (x : Int)) := by
  obtain ⟨b, o, u, rfl, hb, hu, hc⟩ := h.at_ hk
  have hl : k < bs.length := by rw [← bv_len, h.1]; exact hk
  refine ⟨b, o, bs[k], rfl, hb, List.getElem?_eq_getElem hl, ?_⟩
  rw [hc, ← hu]
  simp [bv, List.getElem?_eq_getElem hl]
theorem take_next {bs : List Nat} {k x : Nat} (h : bs[k]? = some x) : bs.take (k + 1) = bs.take k ++ [x] := by
  obtain ⟨hl, rfl⟩ := List.getElem?_eq_some_iff.1 h
  exact List.take_succ_eq_append_getElem hl

def SumRel (f e : Nat → Nat) (r0 : Nat) (bs : List Nat) (r i : Value) : Prop := ∃ k : Nat, k ≤ bs.length ∧ i = .int .i64 (k : Int) ∧ r = .int .u32 ((reg f e r0 (bs.take k) : Nat) : Int)
def ItRel (f : Nat → Nat) (n r0 : Nat) (r i : Value) : Prop := ∃ k : Nat, k ≤ n ∧ i = .int .i64 (k : Int) ∧ r = .int .u32 ((it f k r0 : Nat) : Int)
def HalfRel (f : Nat → Nat) (r0 : Nat) (r i : Value) : Prop := ∃ k : Nat, k ≤ 2 ∧ i = .int .i64 (k : Int) ∧ r = .int .u32 ((it f (4 * k) r0 : Nat) : Int)

set_option maxHeartbeats 1000000 in
theorem refsum24_any (A : Option Addr) (n c B : Nat) (bs : List Nat) (w : World) (ha : Row w B A n (bv bs)) (ho : Oct bs) (hn : n ≤ 4611686018427387904) :
    Calls Try.prog 44 #[.slice A n c] w fun e w' => e = .returned (.int .u32 ((sum24 bs : Nat) : Int)) ∧ w = w' := by
  have HA := hid ha
  have HO := hid ho
  have hnl : n = bs.length := by rw [← bv_len, ha.1]
  have HN := hid hnl
  have HT : Hid (∀ k, reg st24 e24 11994318 (bs.take k) < 16777216) := hid (fun k => reg_lt reg24 ent24 _ _ (by decide) (ho.take k))
  have HU : Hid (sum24 bs = id (reg st24 e24 11994318 (bs.take n))) := hid (by rw [hnl, List.take_of_length_le (Nat.le_refl _)]; rfl)
  clear ha ho hnl
  go_enter Try.func44, Try.ntmps44
  go_wp2
  go_loop [3, 8] (SumRel st24 e24 11994318 bs) (fun _ i => n - (intOf i).toNat)
  case atStart => exact ⟨0, Nat.zero_le _, rfl, rfl⟩
  case round =>
    obtain ⟨k, hk, rfl, rfl⟩ := hrel
    have hkn : k ≤ n := by rw [HN.out]; exact hk
    obtain ⟨r, hr⟩ : ∃ r, r = reg st24 e24 11994318 (bs.take k) := ⟨_, rfl⟩
    have hrM : r < 16777216 := by rw [hr]; exact HT.out k
    have HR := hid hr
    rw [← hr]
    clear hr hk
    by_cases hlt : k < n
    · obtain ⟨b, o, x, rfl, hb, hx, hcell⟩ := HA.out.byte hlt
      have hx8 : x < 256 := HO.out x (List.mem_of_getElem? hx)
      have HXX := hid hx
      have hxor : bits .xor .u32 (r : Int) ((x : Int) * 65536) = ((r ^^^ e24 x : Nat) : Int) := xor32 rfl (by unfold e24; omega) (by omega) (by unfold e24; omega) rfl
      have hr2M : r ^^^ e24 x < 16777216 := Nat.xor_lt_two_pow (n := 24) hrM (ent24.lt x hx8)
      have HR2 : Hid (reg st24 e24 11994318 (bs.take (k + 1)) = it st24 8 (r ^^^ e24 x)) := hid (by rw [take_next hx, reg_snoc, ← HR.out])
      clear hx
      generalize r ^^^ e24 x = r2 at *
      go_wp2
      go_loop [3, 17] (ItRel st24 8 r2) (fun _ i => 8 - (intOf i).toNat)
      case atStart => exact ⟨0, by omega, rfl, rfl⟩
      case round =>
        obtain ⟨m, hm, rfl, rfl⟩ := hrel
        obtain ⟨y, hy⟩ : ∃ y, y = it st24 m r2 := ⟨_, rfl⟩
        have hyM : y < 16777216 := by rw [hy]; exact it_M (M := 16777216) st24_lt m r2 hr2M
        have HY := hid hy
        rw [← hy]
        clear hy hxor hr2M hrM hcell
        by_cases hm8 : m < 8
        · have HN2 : Hid (it st24 (m + 1) r2 = st24 y) := hid (by rw [it_last, ← HY.out])
          by_cases hbig : 16777216 ≤ 2 * y
          · have hsub : bits .xor .u32 ((y : Int) * 2 - 16777216) 8801531 = ((st24 y : Nat) : Int) := xor32 (a := 2 * y - 16777216) (b := 8801531) (by omega) (by omega) (by omega) (by omega) (st24_ref y hbig hyM).symm
            have hge : decide (16777216 ≤ (y : Int) * 2) = true := by rw [decide_eq_true_eq]; omega
            go_wp2
            go_round
            case rel => exact ⟨m + 1, by omega, by go_num, by rw [HN2.out]⟩
            case measure => simp [intOf]; omega
          · have hst : st24 y = 2 * y := by unfold st24; rw [if_neg hbig]
            have hge : decide (16777216 ≤ (y : Int) * 2) = false := by rw [decide_eq_false_iff_not]; omega
            have HS := hid hst
            clear hst
            go_wp2
            go_round
            case rel => exact ⟨m + 1, by omega, by go_num, by rw [HN2.out, HS.out, Nat.mul_comm]; simp⟩
            case measure => simp [intOf]; omega
        · obtain rfl : m = 8 := by omega
          go_wp2_with fail
          exact ⟨⟨k + 1, by rw [← HN.out]; omega, by go_num, by rw [HR2.out, ← HY.out]⟩, by simp [intOf]; omega⟩
    · obtain rfl : k = n := by omega
      go_wp2
      go_ret
      exact ⟨ret_int (by rw [HU.out, ← HR.out]; rfl), rfl⟩

set_option maxHeartbeats 1000000 in
set_option maxHeartbeats 1000000 in
theorem sum24_any (A : Option Addr) (n c B : Nat) (bs : List Nat) (w : World) (ha : Row w B A n (bv bs)) (hB : B ≤ w.heap.size) (ho : Oct bs) (hn : n ≤ 4611686018427387904) :
    Calls Try.prog 50 #[.slice A n c] w fun e w' => e = .returned (.int .u32 ((sum24 bs : Nat) : Int)) ∧ Below w.heap.size w w' := by
  have HA := hid ha
  have HO := hid ho
  have hnl : n = bs.length := by rw [← bv_len, ha.1]
  have HN := hid hnl
  have HT : Hid (∀ k, reg st24 e24 11994318 (bs.take k) < 16777216) := hid (fun k => reg_lt reg24 ent24 _ _ (by decide) (ho.take k))
  have HU : Hid (sum24 bs = id (reg st24 e24 11994318 (bs.take n))) := hid (by rw [hnl, List.take_of_length_le (Nat.le_refl _)]; rfl)
  clear ha ho hnl
  go_enter Try.func50, Try.ntmps50
  go_wp2_with fail
  refine (table24_any w).mono ?_
  rintro e w1 ⟨rfl, bel⟩
  have h1 : Hid ((agg16 (tab st24 (fun i => i * 1048576))).all (·.oneCell') = true) := hid (agg16_one _ fun j => rfl)
  have hs : Hid ((agg16 (tab st24 (fun i => i * 1048576))).size = 16) := hid rfl
  have hcs : Hid (∀ j, j < 16 → (agg16 (tab st24 (fun i => i * 1048576)))[j]? = some (.int .u32 ((t24 j : Nat) : Int))) := hid (fun j hj => by
    rcases j with _ | _ | _ | _ | _ | _ | _ | _ | _ | _ | _ | _ | _ | _ | _ | _ | j <;> first | rfl | omega)
  generalize agg16 (tab st24 (fun i => i * 1048576)) = tb at *
  have HT1 : Hid ((w1.alloc (.cells zeros16 70)).there w1.heap.size 0 16) := hid (there_block (c := zeros16) (t := 70) (heap_alloc_new w1 _) 16 (by decide))
  have HB : Hid (Below w.heap.size w (w1.alloc (.cells zeros16 70))) := hid (bel.alloc bel.size _)
  go_wp2_with (
    (refine wpList_store_mid rfl 70 (.tmp 3) (.tmp 7) rfl w1.heap.size 0 tb rfl rfl (by rw [hs.out]; exact HT1.out) (by rw [size37, hs.out]) h1.out ?_))
  have hWd : ((w1.alloc (Obj.cells zeros16 70)).setCells w1.heap.size 0 tb.toList) = ((w1.alloc (Obj.cells zeros16 70)).setCells w1.heap.size 0 tb.toList) := rfl
  conv at hWd => lhs; simp only [zeros16, agg16]
  rw [hWd]
  clear hWd
  have HB2 : Hid (Below w.heap.size w ((w1.alloc (Obj.cells zeros16 70)).setCells w1.heap.size 0 tb.toList)) := hid (Below.setCells tb.toList 0 HB.out bel.size)
  have HC : Hid (∀ j, j < 16 → ((w1.alloc (Obj.cells zeros16 70)).setCells w1.heap.size 0 tb.toList).cell? ⟨w1.heap.size, j, none⟩ = some (.int .u32 ((t24 j : Nat) : Int))) := hid (fun j hj => by
    have := World.rangeAt_setCells_same (w1.alloc (Obj.cells zeros16 70)) w1.heap.size 0 tb.toList (by rw [Array.length_toList, hs.out]; exact HT1.out) j (.int .u32 ((t24 j : Nat) : Int)) (by rw [Array.getElem?_toList]; exact hcs.out j hj)
    rwa [Nat.zero_add] at this)
  have HR2 : Hid (Row ((w1.alloc (Obj.cells zeros16 70)).setCells w1.heap.size 0 tb.toList) B A n (bv bs)) := hid (HA.out.below (HB2.out.mono hB))
  clear HA HB HT1 h1 hs hcs bel
  generalize (w1.alloc (Obj.cells zeros16 70)).setCells w1.heap.size 0 tb.toList = W at *
  generalize w1.heap.size = g at *
  have HA := HR2
  clear HR2
  go_loop [4, 10] (SumRel st24 e24 11994318 bs) (fun _ i => n - (intOf i).toNat)
  case atStart => exact ⟨0, Nat.zero_le _, rfl, rfl⟩
  case round =>
    obtain ⟨k, hk, rfl, rfl⟩ := hrel
    have hkn : k ≤ n := by rw [HN.out]; exact hk
    obtain ⟨r, hr⟩ : ∃ r, r = reg st24 e24 11994318 (bs.take k) := ⟨_, rfl⟩
    have hrM : r < 16777216 := by rw [hr]; exact HT.out k
    have HR := hid hr
    rw [← hr]
    clear hr hk
    by_cases hlt : k < n
    · obtain ⟨b, o, x, rfl, hb, hx, hcell⟩ := HA.out.byte hlt
      have hx8 : x < 256 := HO.out x (List.mem_of_getElem? hx)
      have hxor : bits .xor .u32 (r : Int) ((x : Int) * 65536) = ((r ^^^ e24 x : Nat) : Int) := xor32 rfl (by unfold e24; omega) (by omega) (by unfold e24; omega) rfl
      have hr2M : r ^^^ e24 x < 16777216 := Nat.xor_lt_two_pow (n := 24) hrM (ent24.lt x hx8)
      have HR2 : Hid (reg st24 e24 11994318 (bs.take (k + 1)) = it st24 8 (r ^^^ e24 x)) := hid (by rw [take_next hx, reg_snoc, ← HR.out])
      clear hx
      generalize r ^^^ e24 x = r2 at *
      go_wp2
      go_loop [4, 19] (HalfRel st24 r2) (fun _ i => 2 - (intOf i).toNat)
      case atStart => exact ⟨0, by omega, rfl, rfl⟩
      case round =>
        obtain ⟨m, hm, rfl, rfl⟩ := hrel
        obtain ⟨y, hy⟩ : ∃ y, y = it st24 (4 * m) r2 := ⟨_, rfl⟩
        have hyM : y < 16777216 := by rw [hy]; exact it_M (M := 16777216) st24_lt _ r2 hr2M
        have HY := hid hy
        rw [← hy]
        clear hy hxor hr2M hrM hcell
        by_cases hm8 : m < 2
        · have HN2 : Hid (it st24 (4 * (m + 1)) r2 = it st24 4 y) := hid (by rw [show 4 * (m + 1) = 4 * m + 4 by omega, it_add, ← HY.out])
          have hand : bits .and .u32 ((y : Int) * 16 % 4294967296) 16777215 = ((y * 16 % 16777216 : Nat) : Int) := by
            rw [show (y : Int) * 16 % 4294967296 = ((y * 16 : Nat) : Int) by omega]
            exact (u32_and_nat (y * 16) 16777215 (by omega) (by omega)).trans (by rw [show (16777215 : Nat) = 2 ^ 24 - 1 by decide, Nat.and_two_pow_sub_one_eq_mod])
          have hand2 : bits .and .u32 ((y : Int) * 16) 16777215 = ((y * 16 % 16777216 : Nat) : Int) := by
            rw [show (y : Int) * 16 = ((y * 16 : Nat) : Int) by omega]
            exact (u32_and_nat (y * 16) 16777215 (by omega) (by omega)).trans (by rw [show (16777215 : Nat) = 2 ^ 24 - 1 by decide, Nat.and_two_pow_sub_one_eq_mod])
          have hqi : (y : Int) / 1048576 = ((y / 1048576 : Nat) : Int) := by omega
          have hq16 : y / 1048576 < 16 := by omega
          have htl : t24 (y / 1048576) < 16777216 := (reg24.it 4).lt _ (by omega)
          have hx4 : bits .xor .u32 ((y * 16 % 16777216 : Nat) : Int) ((t24 (y / 1048576) : Nat) : Int) = ((it st24 4 y : Nat) : Int) := xor32 rfl rfl (by omega) (by omega) (half24 y hyM)
          have hc4 := HC.out _ hq16
          generalize y * 16 % 16777216 = lo at *
          generalize t24 (y / 1048576) = tv at *
          generalize y / 1048576 = q at *
          go_wp2
          go_round
          case rel => exact ⟨m + 1, by omega, by go_num, by rw [HN2.out]⟩
          case measure => simp [intOf]; omega
        · obtain rfl : m = 2 := by omega
          go_wp2_with fail
          exact ⟨⟨k + 1, by rw [← HN.out]; omega, by go_num, by rw [HR2.out, ← HY.out]⟩, by simp [intOf]; omega⟩
    · obtain rfl : k = n := by omega
      go_wp2
      go_ret
      exact ⟨ret_int (by rw [HU.out, ← HR.out]; rfl), HB2.out⟩

end Go.Proofs.Ytldegdhpblkhhaa
