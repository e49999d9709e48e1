/-
  The walk of HeapTells: at any two things, any list and any number it answers true.
-/
import Derived.Test.YtopdklmhiglehaaM
import Derived.Test.YtopdklmhiglehaaY
import Derived.Test.YtopdklmhiglehaaR
import Derived.Deep.RegionHeld3
namespace Go.Proofs.Ytopdklmhiglehaa
open Go Go.RowKit

/-- Two things that were boxed lie as they were. -/
def Two (h : Nat) (a b : It) (w0 w : World) : Prop := w.rangeAt h 0 (enc a) ∧ w.rangeAt (h + 1) 0 (enc b) ∧ Below h w0 w ∧ h + 2 ≤ w.heap.size
theorem Two.step {h : Nat} {a b : It} {w0 w w' : World} (t : Two h a b w0 w) (k : Below w.heap.size w w') : Two h a b w0 w' := by
  obtain ⟨t1, t2, t3, t4⟩ := t
  exact ⟨range_keep t1 (by omega) k, range_keep t2 (by omega) k, t3.trans (k.mono (by omega)), Nat.le_trans t4 k.size⟩
theorem Two.bel {h : Nat} {a b : It} {w0 w : World} (t : Two h a b w0 w) : Below h w0 w := t.2.2.1
theorem six2 {h : Nat} {a1 a2 a3 a4 a5 a6 b1 b2 b3 b4 b5 b6 : Int} {w0 w : World} (t : Two h (a1, a2, a3, a4, a5, a6) (b1, b2, b3, b4, b5, b6) w0 w) :
    w.cell? ⟨h, 0, none⟩ = some (.int .i64 a1) ∧ w.cell? ⟨h, 1, none⟩ = some (.int .i64 a2) ∧ w.cell? ⟨h, 2, none⟩ = some (.int .u64 a3) ∧ w.cell? ⟨h, 3, none⟩ = some (.int .i64 a4) ∧ w.cell? ⟨h, 4, none⟩ = some (.int .i64 a5) ∧ w.cell? ⟨h, 5, none⟩ = some (.int .u64 a6) ∧
    w.cell? ⟨h + 1, 0, none⟩ = some (.int .i64 b1) ∧ w.cell? ⟨h + 1, 1, none⟩ = some (.int .i64 b2) ∧ w.cell? ⟨h + 1, 2, none⟩ = some (.int .u64 b3) ∧ w.cell? ⟨h + 1, 3, none⟩ = some (.int .i64 b4) ∧ w.cell? ⟨h + 1, 4, none⟩ = some (.int .i64 b5) ∧ w.cell? ⟨h + 1, 5, none⟩ = some (.int .u64 b6) :=
  ⟨t.1 0 _ rfl, t.1 1 _ rfl, t.1 2 _ rfl, t.1 3 _ rfl, t.1 4 _ rfl, t.1 5 _ rfl, t.2.1 0 _ rfl, t.2.1 1 _ rfl, t.2.1 2 _ rfl, t.2.1 3 _ rfl, t.2.1 4 _ rfl, t.2.1 5 _ rfl⟩
theorem one_new (w : World) (u : Value) : (w.alloc (.cells #[u] 25)).cell? ⟨w.heap.size, 0, none⟩ = some u := by
  rw [cell_of_row _ _ _ #[u] 25 (0, 0) (heap_alloc_new w _)]; rfl
theorem find_both {w : World} {A : Option Addr} {n c : Nat} {xs : List It} (hr : Row w w.heap.size A n xs) (hn : n ≤ 200) (s : Int) :
    ∃ (fi : Int) (fb : Bool), (∀ w', Below w.heap.size w w' → Calls Try.prog 13 #[.slice A n c, .int .u64 s] w' fun e w'' => e = .returned (.tuple #[.int .i64 fi, .bool fb]) ∧ Below w'.heap.size w' w'') ∧
      (∀ w', Below w.heap.size w w' → Calls Try.prog 14 #[.slice A n c, .int .u64 s] w' fun e w'' => e = .returned (.tuple #[.int .i64 fi, .bool fb]) ∧ Below w'.heap.size w' w'') := by
  rcases first_or xs s with ⟨k, hk⟩ | hk
  · exact ⟨k, true, fun w' hb => find_yes A n c w.heap.size k xs s w' (hr.below hb) hb.size (by omega) hk, fun w' hb => reffind_yes A n c w.heap.size k xs s w' (hr.below hb) hb.size (by omega) hk⟩
  · exact ⟨0, false, fun w' hb => find_no A n c w.heap.size xs s w' (hr.below hb) hb.size (by omega) hk, fun w' hb => reffind_no A n c w.heap.size xs s w' (hr.below hb) hb.size (by omega) hk⟩
set_option maxRecDepth 100000 in
set_option maxHeartbeats 4000000 in
theorem tells_any (a b : It) (A : Option Addr) (n c : Nat) (xs : List It) (s : Int) (w : World) (ha : Row w w.heap.size A n xs) (hn63 : n ≤ 9223372036854775807) :
    Calls Try.prog 3 #[itv a, itv b, .slice A n c, .int .u64 s] w fun e w' => e = .returned (.bool true) ∧ Below w.heap.size w w' := by
  have HA := hid ha
  clear ha
  obtain ⟨W, hW⟩ : ∃ W, W = (w.alloc (.cells (enc a).toArray 24)).alloc (.cells (enc b).toArray 24) := ⟨_, rfl⟩
  have T : Hid (Two w.heap.size a b w W) := hid (by
    rw [hW]
    refine ⟨World.rangeAt_alloc (range_new w a 24) _, ?_, ((Below.refl _ _).alloc (Nat.le_refl _) _).alloc (by simp) _, by simp⟩
    have := range_new (w.alloc (.cells (enc a).toArray 24)) b 24
    simpa using this)
  have L1 := hid (fun w => less_any a b w)
  have L2 := hid (fun w => refless_any a b w)
  generalize lt a b = R at L1 L2
  obtain ⟨a1, a2, a3, a4, a5, a6⟩ := a
  obtain ⟨b1, b2, b3, b4, b5, b6⟩ := b
  change W = (w.alloc (.cells #[.int .i64 a1, .int .i64 a2, .int .u64 a3, .int .i64 a4, .int .i64 a5, .int .u64 a6] 24)).alloc (.cells #[.int .i64 b1, .int .i64 b2, .int .u64 b3, .int .i64 b4, .int .i64 b5, .int .u64 b6] 24) at hW
  show Calls Try.prog 3 #[.agg #[.int .i64 a1, .int .i64 a2, .int .u64 a3, .int .i64 a4, .int .i64 a5, .int .u64 a6], .agg #[.int .i64 b1, .int .i64 b2, .int .u64 b3, .int .i64 b4, .int .i64 b5, .int .u64 b6], .slice A n c, .int .u64 s] w _
  change Hid (∀ w, Calls Try.prog 15 #[.agg #[.int .i64 a1, .int .i64 a2, .int .u64 a3, .int .i64 a4, .int .i64 a5, .int .u64 a6], .agg #[.int .i64 b1, .int .i64 b2, .int .u64 b3, .int .i64 b4, .int .i64 b5, .int .u64 b6]] w _) at L1
  change Hid (∀ w, Calls Try.prog 16 #[.agg #[.int .i64 a1, .int .i64 a2, .int .u64 a3, .int .i64 a4, .int .i64 a5, .int .u64 a6], .agg #[.int .i64 b1, .int .i64 b2, .int .u64 b3, .int .i64 b4, .int .i64 b5, .int .u64 b6]] w _) at L2
  have HW := hid hW
  clear hW
  go_enter Try.func3, Try.ntmps3
  go_wp2_with fail
  rw [← HW.out]
  clear HW
  refine (live_any W).mono ?_
  rintro e w1 ⟨rfl, bel1⟩
  replace T := hid (T.out.step bel1)
  clear bel1
  obtain ⟨W2, hW2⟩ : ∃ W2, W2 = w1.alloc (.cells #[.slice A n c] 25) := ⟨_, rfl⟩
  have CE := one_new w1 (.slice A n c)
  rw [← hW2] at CE
  have BE : Hid (Below w1.heap.size w1 W2) := hid (by rw [hW2]; exact (Below.refl _ _).alloc (Nat.le_refl _) _)
  have HW2 := hid hW2
  clear hW2
  by_cases hn : n ≤ 200
  · have HF : Hid (fewB n = true) := hid (by unfold fewB; simp; omega)
    have ta : decide (200 < n) = false := decide_eq_false (by omega)
    have tb : decide (200 < (n : Int)) = false := decide_eq_false (by omega)
    obtain ⟨fi, fb, f1, f2⟩ := find_both (c := c) HA.out hn s
    have F1 := hid f1
    have F2 := hid f2
    clear f1 f2
    replace T := hid (T.out.step BE.out)
    have HCK : Hid ((chk xs && decide (n ≤ 4096)) = chk xs) := hid (by rw [decide_eq_true (show n ≤ 4096 by omega), Bool.and_true])
    go_upto_region 8 with (first
      | (go_at_call 11; rw [← HW2.out]; refine (few_1 w1.heap.size n c A W2 hn63 CE true HF.out).mono ?_; rintro e w2 ⟨rfl, rfl⟩)
      | (at_builtin; refine wpList_ap rfl (.const (.slice none 0 0)) (.tmp 27) rfl (base := W2.heap.size) (l := []) rfl (Own.nil _ _) rfl (HA.out.below T.out.2.2.1) (by omega) (Nat.le_refl _) ?_; intro A3 c3 w3 own3 bel3; rw [Nat.zero_add, List.nil_append] at own3; replace T := hid (T.out.step bel3))
      | (go_at_call 12; refine (sorted_any A n c w.heap.size xs w3 (HA.out.below T.out.2.2.1) T.out.2.2.1.size (by omega)).mono ?_; rintro e w4 ⟨A4, c4, l4, rfl, hl4, own4, bel4⟩; replace T := hid (T.out.step bel4))
      | (go_at_call 13; refine (F1.out w4 T.out.2.2.1).mono ?_; rintro e w5 ⟨rfl, bel5⟩; replace T := hid (T.out.step bel5))
      | (go_at_call 14; refine (F2.out w5 T.out.2.2.1).mono ?_; rintro e w6 ⟨rfl, bel6⟩; replace T := hid (T.out.step bel6)))
    have RW3 : Hid (Row w6 w6.heap.size A3 n xs) := hid (((own3.row.below bel4).below (bel5.mono bel4.size)).below (bel6.mono (Nat.le_trans bel4.size bel5.size)) |>.more (Nat.le_trans bel4.size (Nat.le_trans bel5.size bel6.size)))
    have RW4 : Hid (Row w6 w6.heap.size A4 n (srt xs)) := hid (by rw [← hl4]; exact ((own4.row.below bel5).below (bel6.mono bel5.size)).more (Nat.le_trans bel5.size bel6.size))
    have TD : Hid (Two w.heap.size (a1, a2, a3, a4, a5, a6) (b1, b2, b3, b4, b5, b6) w w6.drew) := hid (T.out.step (Below.refl _ _).drew)
    have BX : Hid (Below w6.heap.size w6 w6.drew) := hid (Below.refl _ _).drew
    clear own3 own4 hl4 bel3 bel4 bel5 bel6 CE BE HW2 F1 F2 T HF
    obtain ⟨ck, hck⟩ : ∃ ck, chk xs = ck := ⟨_, rfl⟩
    have HK1 := hid hck
    rw [hck] at HCK
    clear hck
    go_wp2_with fail
    go_region_held3 (fun w' => w'.cell? ⟨w.heap.size, 0, none⟩ = some (.int .i64 a1) ∧ w'.cell? ⟨w.heap.size, 1, none⟩ = some (.int .i64 a2) ∧ w'.cell? ⟨w.heap.size, 2, none⟩ = some (.int .u64 a3) ∧ w'.cell? ⟨w.heap.size, 3, none⟩ = some (.int .i64 a4) ∧ w'.cell? ⟨w.heap.size, 4, none⟩ = some (.int .i64 a5) ∧ w'.cell? ⟨w.heap.size, 5, none⟩ = some (.int .u64 a6) ∧ w'.cell? ⟨w.heap.size + 1, 0, none⟩ = some (.int .i64 b1) ∧ w'.cell? ⟨w.heap.size + 1, 1, none⟩ = some (.int .i64 b2) ∧ w'.cell? ⟨w.heap.size + 1, 2, none⟩ = some (.int .u64 b3) ∧ w'.cell? ⟨w.heap.size + 1, 3, none⟩ = some (.int .i64 b4) ∧ w'.cell? ⟨w.heap.size + 1, 4, none⟩ = some (.int .i64 b5) ∧ w'.cell? ⟨w.heap.size + 1, 5, none⟩ = some (.int .u64 b6))
      (first | with_reducible exact six2 TD.out | exact six2 TD.out)
      (first
        | (go_at_call 15; ((with_reducible refine (L1.out _).mono ?_); rintro e x1 ⟨rfl, bl⟩; replace TD := hid (TD.out.step bl); replace BX := hid (BX.out.trans (bl.mono BX.out.size)); clear bl; dsimp only))
        | (go_at_call 16; ((with_reducible refine (L2.out _).mono ?_); rintro e x2 ⟨rfl, bl⟩; replace TD := hid (TD.out.step bl); replace BX := hid (BX.out.trans (bl.mono BX.out.size)); clear bl; dsimp only))
        | (go_at_call 17; refine (check_any A n c w.heap.size xs _ (HA.out.below TD.out.bel) TD.out.bel.size (by omega)).mono ?_; rintro e x3 ⟨rfl, bl⟩; rw [HK1.out]; replace TD := hid (TD.out.step bl); replace BX := hid (BX.out.trans (bl.mono BX.out.size)); clear bl; dsimp only)
        | (go_at_call 18; refine (refcheck_any A n c w.heap.size xs ck _ (HA.out.below TD.out.bel) TD.out.bel.size (by omega) (by rw [HK1.out]; exact HCK.out)).mono ?_; rintro e x4 ⟨rfl, bl⟩; replace TD := hid (TD.out.step bl); replace BX := hid (BX.out.trans (bl.mono BX.out.size)); clear bl; dsimp only)
        | (go_at_call 20; refine (refsorted_any A n c w.heap.size xs _ (HA.out.below TD.out.bel) TD.out.bel.size (by omega)).mono ?_; rintro e x5 ⟨A9, c9, l9, rfl, hl9, own9, bl⟩; have RW9 : Hid (Row x5 x5.heap.size A9 n (srt xs)) := hid (by rw [← hl9]; exact own9.row); replace TD := hid (TD.out.step bl); replace BX := hid (BX.out.trans (bl.mono BX.out.size)); clear bl own9 hl9; dsimp only)
        | (go_at_call 19; ((with_reducible refine (same_any A4 A9 n c4 n c9 w6.heap.size x5.heap.size (srt xs) (srt xs) true x5 (RW4.out.below BX.out) RW9.out BX.out.size (Nat.le_refl _) (by omega) (by omega) (decide_eq_true rfl)).mono ?_); rintro e x6 ⟨rfl, bl⟩; replace TD := hid (TD.out.step bl); replace BX := hid (BX.out.trans (bl.mono BX.out.size)); clear bl; dsimp only))
        | (go_at_call 19; ((with_reducible refine (same_any A A3 n c n c3 w.heap.size w6.heap.size xs xs true x6 (HA.out.below TD.out.bel) (RW3.out.below BX.out) TD.out.bel.size BX.out.size (by omega) (by omega) (decide_eq_true rfl)).mono ?_); rintro e x7 ⟨rfl, bl⟩; replace TD := hid (TD.out.step bl); replace BX := hid (BX.out.trans (bl.mono BX.out.size)); clear bl; dsimp only)))
    all_goals go_wp2
    all_goals go_ret
    all_goals exact ⟨rfl, TD.out.bel⟩
  · have ta : decide (200 < n) = true := decide_eq_true (by omega)
    have tb : decide (200 < (n : Int)) = true := decide_eq_true (by omega)
    cases hr : fewB n
    · have HR := hid hr
      clear hr hn
      go_wp2_with (go_at_call 11; rw [← HW2.out]; refine (few_1 w1.heap.size n c A W2 hn63 CE false HR.out).mono ?_; rintro e w2 ⟨rfl, rfl⟩)
      go_ret
      exact ⟨rfl, (T.out.step BE.out).bel⟩
    · have HR := hid hr
      clear hr hn
      go_wp2_with (go_at_call 11; rw [← HW2.out]; refine (few_1 w1.heap.size n c A W2 hn63 CE true HR.out).mono ?_; rintro e w2 ⟨rfl, rfl⟩)
      go_ret
      exact ⟨rfl, (T.out.step BE.out).bel⟩
theorem tells_row {w : World} (a b : It) (A : Option Addr) (n c : Nat) (xs : List It) (ha : Row w w.heap.size A n xs) (_ : n ≤ c) (hc : c ≤ 9223372036854775807) (s : Int) (_ : 0 ≤ s) (_ : s ≤ 18446744073709551615) :
    Calls Try.prog 3 #[itv a, itv b, .slice A n c, .int .u64 s] w fun e w' => e = .returned (.bool true) ∧ Below w.heap.size w w' := tells_any a b A n c xs s w ha (by omega)
end Go.Proofs.Ytopdklmhiglehaa
