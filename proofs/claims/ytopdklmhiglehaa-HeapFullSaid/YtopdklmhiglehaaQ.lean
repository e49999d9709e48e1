/-
  The walk of HeapFull: at any numbers it answers true.
-/
import Derived.Test.YtopdklmhiglehaaM
import Derived.Test.YtopdklmhiglehaaR
namespace Go.Proofs.Ytopdklmhiglehaa
open Go Go.RowKit

def item (i : Nat) : It := ((i : Int), 0, (i : Int), 0, 0, 0)
def asc (n : Nat) : List It := (List.range n).map item
theorem asc_len (n : Nat) : (asc n).length = n := by simp [asc]
theorem asc_nth {n i : Nat} (h : i < n) : nth (asc n) i = item i := nth_of (by unfold asc; rw [List.getElem?_map, List.getElem?_range h]; rfl)
theorem item_lt {i j : Nat} (h : j < i) : lt (item i) (item j) = false := by
  unfold lt lex item
  dsimp only
  rw [if_neg (by omega)]
  simp; omega
theorem asc_hp (n : Nat) : Hp (asc n) := fun i h1 h2 => by
  rw [asc_len] at h2
  have hp : par i < i := by unfold par; omega
  unfold Ok
  rw [asc_nth h2, asc_nth (by omega)]
  exact item_lt hp
def part (n k : Nat) : List It := asc k ++ List.replicate (n - k) zr
theorem part_next {n k : Nat} (h : k < n) : (part n k).set k (item k) = part n (k + 1) := by
  unfold part
  rw [List.set_append_right _ _ (by rw [asc_len]; exact Nat.le_refl _), asc_len, Nat.sub_self, show n - k = (n - (k + 1)) + 1 by omega, List.replicate_succ, List.set_cons_zero]
  unfold asc
  rw [List.range_succ, List.map_append]
  simp
theorem part_end (n : Nat) : part n n = asc n := by simp [part]
theorem part_0 (n : Nat) : part n 0 = List.replicate n zr := by simp [part, asc]
def FullRel (w : World) (g n : Nat) (t : Value) (wr : World) : Prop := ∃ k : Nat, t = .int .i64 (k : Int) ∧ k ≤ n ∧ Own wr w.heap.size (some ⟨g, 0, none⟩) n n (part n k) ∧ Below w.heap.size w wr
set_option maxHeartbeats 4000000 in
theorem full_any (a z : Int) (w : World) (h0 : 0 ≤ z) (h1 : z ≤ 255) :
    Calls Try.prog 5 #[.int .i64 a, .int .u8 z] w fun e w' => e = .returned (.bool true) ∧ Below w.heap.size w w' := by
  obtain ⟨n, hn⟩ : ∃ n : Nat, (n : Int) = 4094 + z % 4 := ⟨(4094 + z % 4).toNat, by omega⟩
  have hn1 : 4094 ≤ n := by omega
  have hn2 : n ≤ 4097 := by omega
  have HN := hid hn
  clear hn
  go_enter Try.func5, Try.ntmps5
  go_upto_block 0 with (first
    | (go_at_call 10; refine (live_any _).mono ?_; rintro e w1 ⟨rfl, bel1⟩)
    | (refine wpList_mk rfl (.tmp 16) (.tmp 16) rfl _ n rfl rfl (by rw [HN.out]) (by omega) w1.heap.size (Nat.le_refl _) ?_; intro w2 own2 bel2))
  have O2 : Hid (Own w2 w.heap.size (some ⟨w1.heap.size, 0, none⟩) n n (part n 0)) := hid (by rw [part_0]; exact own2.base_le bel1.size)
  have B2 : Hid (Below w.heap.size w w2) := hid (bel1.trans (bel2.mono bel1.size))
  have hg : w.heap.size ≤ w1.heap.size := bel1.size
  clear own2 bel1 bel2
  generalize w1.heap.size = g at *
  go_cut [] (fun wx => Own wx w.heap.size (some ⟨g, 0, none⟩) n n (asc n) ∧ Below w.heap.size w wx)
  case first =>
    go_wp2_with fail
    go_loopw [20] (FullRel w g n) (fun t _ => n - (intOf t).toNat)
    case atStart => exact ⟨0, rfl, by omega, O2.out, B2.out⟩
    case round =>
      clear O2 B2
      obtain ⟨k, rfl, hk, own, bel⟩ := hrel
      have OW := hid own
      have BW := hid bel
      clear own bel
      by_cases hlt : k < n
      · have i1 : (k : Int) < (n : Int) := by omega
        have HP := hid (part_next hlt)
        go_wp2_with (refine wpList_st (v := item k) rfl (.tmp 29) (.tmp 28) rfl rfl rfl OW.out hlt ?_; intro w3 own3 bel3; rw [HP.out] at own3)
        go_roundw
        case rel => exact ⟨k + 1, by go_num, by omega, own3, BW.out.trans bel3⟩
        case measure => simp [intOf]; omega
      · obtain rfl : k = n := by omega
        rw [part_end] at OW
        go_wp2
        go_meet
        exact ⟨OW.out, BW.out⟩
  case rest =>
    obtain ⟨own, bel⟩ := hcut
    have OW := hid own
    have BW := hid bel
    clear own bel O2 B2
    have HH := hid (asc_hp n)
    have HC : Hid (chk (asc n) = true) := hid ((chk_iff _).2 (asc_hp n))
    rcases (show n < 4096 ∨ n = 4096 ∨ 4096 < n by omega) with h | rfl | h
    · have t1 : decide (4096 < (n : Int)) = false := decide_eq_false (by omega)
      have t1' : decide (4096 < n) = false := decide_eq_false (by omega)
      have t2 : ((n : Int) == 4096) = false := by simp; omega
      have t3 : ((n : Int) + 1 == (n : Int) + 1) = true := by simp
      go_wp2_with (first
        | (go_at_call 23; refine (push_ok _ n n wc.heap.size (asc n) (a, 0, 0, 0, 0, 0) wc OW.out.row (Nat.le_refl _) h HH.out).mono ?_; rintro e w3 ⟨A3, c3, l3, rfl, ⟨hh3, hp3⟩, own3, bel3⟩; have HC3 := hid ((chk_iff _).2 hh3); clear hh3 hp3)
        | (go_at_call 18; refine (refcheck_any A3 (n + 1) c3 w3.heap.size l3 true w3 own3.row (Nat.le_refl _) (by omega) (by rw [HC3.out, decide_eq_true (show n + 1 ≤ 4096 by omega)]; rfl)).mono ?_; rintro e w4 ⟨rfl, bel4⟩))
      go_ret
      exact ⟨ret_bool (by simp), BW.out.trans ((bel3.mono BW.out.size).trans (bel4.mono (Nat.le_trans BW.out.size bel3.size)))⟩
    · go_wp2_with (first
        | (go_at_call 23; refine (push_full _ 4096 wc.heap.size (asc 4096) (a, 0, 0, 0, 0, 0) wc OW.out.row (Nat.le_refl _) HC.out).mono ?_; rintro e w3 ⟨rfl, bel3⟩)
        | (go_at_call 17; refine (check_any _ 4096 4096 w3.heap.size (asc 4096) w3 (OW.out.below bel3).row (Nat.le_refl _) (by omega)).mono ?_; rintro e w4 ⟨rfl, bel4⟩; rw [HC.out]))
      go_ret
      exact ⟨ret_bool rfl, BW.out.trans ((bel3.mono BW.out.size).trans (bel4.mono (Nat.le_trans BW.out.size bel3.size)))⟩
    · have t1 : decide (4096 < (n : Int)) = true := decide_eq_true (by omega)
      have t1' : decide (4096 < n) = true := decide_eq_true (by omega)
      go_wp2_with (first
        | (go_at_call 23; refine (push_no _ n n wc.heap.size (asc n) (a, 0, 0, 0, 0, 0) wc OW.out.row (Nat.le_refl _) (by omega) (.inl h)).mono ?_; rintro e w3 ⟨rfl, bel3⟩)
        | (go_at_call 17; refine (check_big _ n n w3 h (by omega)).mono ?_; rintro e w4 ⟨rfl, bel4⟩))
      go_ret
      exact ⟨ret_bool rfl, BW.out.trans ((bel3.mono BW.out.size).trans (bel4.mono (Nat.le_trans BW.out.size bel3.size)))⟩
theorem full_row {w : World} (a : Int) (_ : -9223372036854775808 ≤ a) (_ : a ≤ 9223372036854775807) (z : Int) (h0 : 0 ≤ z) (h1 : z ≤ 255) : Calls Try.prog 5 #[.int .i64 a, .int .u8 z] w fun e w' => e = .returned (.bool true) ∧ Below w.heap.size w w' := full_any a z w h0 h1
end Go.Proofs.Ytopdklmhiglehaa
