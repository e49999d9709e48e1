/-
  MU: Contracts of the document's own May, Unit and Text (palletref01) and of palletref14.Text, whole: as lex.Text (textR).
  XC: Contracts of the document's own Check, and of its Line; under no condition but forests of at most 209,715 statements.
-/
import Derived.Test.YtpkoboohnbkpoaaGreatDoorK10
import Derived.Test.YtpkoboohnbkpoaaGreatDoorK9
import Derived.Laws.BitsAllLaws
/-! MU -/
namespace Go.Proofs.YtpkoboohnbkpoaaGreatDoor
open Go Go.RowKit Go.Joins

theorem num_len (n : Int) (time : Bool) (h : smallI n = true) : (numX n time).length ≤ 22 := numX_len n time (by simpa [smallI] using h)

set_option maxHeartbeats 400000 in
theorem rmay_any (b c : Nat) (zs : List Int) (ok : Bool) (hok : allB zs = ok) (w : World) (hn : zs.length ≤ 9223372036854775807) (hc : ∀ j, j < zs.length → w.cell? ⟨b, 0 + j, none⟩ = some (.int .i64 zs[j]!)) :
    Calls Tryz.prog 184 #[.slice (some ⟨b, 0, none⟩) zs.length c] w fun e w' => e = .returned (.bool ok) ∧ w = w' := by
  have HK := hid hok
  clear hok
  go_enter Tryz.func184, Tryz.ntmps184
  go_wp2
  go_loop [7] (fun i => ∃ k : Nat, k ≤ zs.length ∧ i = .int .i64 k ∧ (∀ j, j < k → timeB zs[j]! = true)) (fun i => zs.length - (intOf i).toNat)
  case atStart => exact ⟨0, Nat.zero_le _, rfl, by intro j hj; omega⟩
  case round =>
    obtain ⟨k, hk, rfl, hall⟩ := hrel
    by_cases hlt : k < zs.length
    · have hcell := hc k hlt
      rw [Nat.zero_add] at hcell
      by_cases ht : -1152921504606846976 ≤ zs[k]! ∧ zs[k]! ≤ 1152921504606846976
      · have HC : Hid (∀ j, j < k + 1 → timeB zs[j]! = true) := by
          refine hid (fun j hj => ?_)
          rcases Nat.lt_succ_iff_lt_or_eq.1 hj with h | rfl
          · exact hall j h
          · simp only [timeB, decide_eq_true_eq]; exact ht
        clear hc hall
        obtain ⟨h1, h2⟩ := ht
        generalize zs[k]! = z at h1 h2 hcell
        have d1 : decide (1152921504606846976 < z) = false := by simp; omega
        have d2 : decide (z < -1152921504606846976) = false := by simp; omega
        go_wp2
        exact ⟨⟨k + 1, by omega, by go_num, HC.out⟩, by simp [intOf]; omega⟩
      · have HF : Hid (ok = false) := hid (by rw [← HK.out]; exact not_allB_of k hlt (by simp only [timeB, decide_eq_false_iff_not]; exact ht))
        have h1 : zs[k]! < -1152921504606846976 ∨ 1152921504606846976 < zs[k]! := by omega
        clear hc hall ht
        generalize zs[k]! = z at h1 hcell
        rcases h1 with h1 | h1
        · have d1 : decide (1152921504606846976 < z) = false := by simp; omega
          go_wp2
          go_ret
          exact ⟨ret_bool HF.out.symm, rfl⟩
        · go_wp2
          go_ret
          exact ⟨ret_bool HF.out.symm, rfl⟩
    · have HF : Hid (ok = true) := hid (by rw [← HK.out]; exact allB_of fun j hj => hall j (by omega))
      clear hc hall
      go_wp2
      go_ret
      exact ⟨ret_bool HF.out.symm, rfl⟩

theorem rmay_1 (b c : Nat) (x : Int) (ok : Bool) (hok : timeB x = ok) (w : World) (hc : w.cell? ⟨b, 0, none⟩ = some (.int .i64 x)) :
    Calls Tryz.prog 184 #[.slice (some ⟨b, 0, none⟩) 1 c] w fun e w' => e = .returned (.bool ok) ∧ w = w' :=
  rmay_any b c [x] ok (by simp [allB, hok]) w (by simp) (fun j hj => by
    match j, hj with
    | 0, _ => exact hc)
theorem runit_0 (w : World) : Calls Tryz.prog 129 #[.string ⟨#[115]⟩] w fun e w' => e = .returned (.tuple #[.int .i64 1000000000000, .bool true]) ∧ w' = w := by
  go_enter Tryz.func129, Tryz.ntmps129
  go_wp2
  go_ret2
  exact ⟨rfl, rfl⟩
theorem runit_1 (w : World) : Calls Tryz.prog 129 #[.string ⟨#[109, 115]⟩] w fun e w' => e = .returned (.tuple #[.int .i64 1000000000, .bool true]) ∧ w' = w := by
  go_enter Tryz.func129, Tryz.ntmps129
  go_wp2
  go_ret2
  exact ⟨rfl, rfl⟩
theorem runit_2 (w : World) : Calls Tryz.prog 129 #[.string ⟨#[117, 115]⟩] w fun e w' => e = .returned (.tuple #[.int .i64 1000000, .bool true]) ∧ w' = w := by
  go_enter Tryz.func129, Tryz.ntmps129
  go_wp2
  go_ret2
  exact ⟨rfl, rfl⟩
theorem runit_3 (w : World) : Calls Tryz.prog 129 #[.string ⟨#[110, 115]⟩] w fun e w' => e = .returned (.tuple #[.int .i64 1000, .bool true]) ∧ w' = w := by
  go_enter Tryz.func129, Tryz.ntmps129
  go_wp2
  go_ret2
  exact ⟨rfl, rfl⟩

def dvd (n : Int) (ps : Int) : Prop := n ≠ 0 ∧ n.tmod ps = 0
theorem unit_pick (n : Int) : (dvd n 1000000000000 → unitOf n = ([115], 1000000000000)) ∧ (¬ dvd n 1000000000000 → dvd n 1000000000 → unitOf n = ([109, 115], 1000000000)) ∧ (¬ dvd n 1000000000000 → ¬ dvd n 1000000000 → dvd n 1000000 → unitOf n = ([117, 115], 1000000)) ∧ (¬ dvd n 1000000000000 → ¬ dvd n 1000000000 → ¬ dvd n 1000000 → dvd n 1000 → unitOf n = ([110, 115], 1000)) ∧ (¬ dvd n 1000000000000 → ¬ dvd n 1000000000 → ¬ dvd n 1000000 → ¬ dvd n 1000 → unitOf n = ([112, 115], 1)) := by
  unfold dvd unitOf
  by_cases h0 : n = 0
  · simp [h0]
  · simp only [ne_eq, h0, not_false_eq_true, true_and, if_false]
    refine ⟨fun a => by rw [if_pos a], fun a b => by rw [if_neg a, if_pos b], fun a b c => by rw [if_neg a, if_neg b, if_pos c], fun a b c d => by rw [if_neg a, if_neg b, if_neg c, if_pos d], fun a b c d => by rw [if_neg a, if_neg b, if_neg c, if_neg d]⟩
/-- how far the units have been tried -/
def tried (n : Int) (k : Nat) : Prop := (0 < k → ¬ dvd n 1000000000000) ∧ (1 < k → ¬ dvd n 1000000000) ∧ (2 < k → ¬ dvd n 1000000) ∧ (3 < k → ¬ dvd n 1000)

set_option maxHeartbeats 2000000 in
set_option maxRecDepth 100000 in
theorem r01text_any (n : Int) (w : World) (hs : smallI n = true) : Calls Tryz.prog 171 #[.int .i64 n] w fun e w' => e = .returned (.tuple #[.string (bA (numX n true)), .int .i64 0]) ∧ Below w.heap.size w w' := by
  have hs' : -1000000000000000000 < n ∧ n < 1000000000000000000 := by simpa [smallI] using hs
  have HT : Hid (timeB n = true) := hid (by simp only [timeB, decide_eq_true_eq]; omega)
  have HD := hid (fun (m : Int) w (h : m.natAbs ≤ n.natAbs) => dig1_any m w (by simp [smallI]; omega))
  have HP := hid (unit_pick n)
  have HZ := hid (fun (m : Int) (h : m.natAbs ≤ n.natAbs) => show (bA (Lib.itoa m)).size ≤ 22 from by have := num_len m false (by simp [smallI]; omega); rw [bA_size]; exact this)
  clear hs
  go_enter Tryz.func171, Tryz.ntmps171
  go_wp2_with (first | (go_at_call 184; refine (rmay_1 _ _ n true HT.out _ (cell_new1 _ _ _)).mono ?_; rintro e w' ⟨rfl, rfl⟩))
  have hr : World.rangeAt ((w.alloc (.cells #[.int .i64 n] 2)).alloc (.cells #[.string ⟨#[115]⟩, .string ⟨#[109, 115]⟩, .string ⟨#[117, 115]⟩, .string ⟨#[110, 115]⟩] 9)) (w.alloc (.cells #[.int .i64 n] 2)).heap.size 0 [.string ⟨#[115]⟩, .string ⟨#[109, 115]⟩, .string ⟨#[117, 115]⟩, .string ⟨#[110, 115]⟩] := range_new _ _ _
  have hb := ((Below.refl w.heap.size w).alloc (Nat.le_refl _) (.cells #[.int .i64 n] 2)).alloc (by simp) (.cells #[.string ⟨#[115]⟩, .string ⟨#[109, 115]⟩, .string ⟨#[117, 115]⟩, .string ⟨#[110, 115]⟩] 9)
  have hgl : (w.alloc (.cells #[.int .i64 n] 2)).heap.size < ((w.alloc (.cells #[.int .i64 n] 2)).alloc (.cells #[.string ⟨#[115]⟩, .string ⟨#[109, 115]⟩, .string ⟨#[117, 115]⟩, .string ⟨#[110, 115]⟩] 9)).heap.size := by simp
  have hge : (w.alloc (.cells #[.int .i64 n] 2)).heap.size = w.heap.size + 1 := by simp
  rw [hge] at hr hgl
  clear hge
  have HR := hid hr
  have HB := hid hb
  clear hr hb
  generalize (w.alloc (.cells #[.int .i64 n] 2)).alloc (.cells #[.string ⟨#[115]⟩, .string ⟨#[109, 115]⟩, .string ⟨#[117, 115]⟩, .string ⟨#[110, 115]⟩] 9) = w2 at *
  go_loopw [14] (fun v14 wr => ∃ k : Nat, v14 = .int .i64 (k : Nat) ∧ k ≤ 4 ∧ tried n k ∧ Below w2.heap.size w2 wr) (fun v14 _ => 4 - (intOf v14).toNat)
  case atStart => exact ⟨0, rfl, by omega, ⟨fun h => by omega, fun h => by omega, fun h => by omega, fun h => by omega⟩, Below.refl _ _⟩
  case round =>
    obtain ⟨k, rfl, hk, htr, hbel⟩ := hrel
    have BW := hid hbel
    have TR := hid htr
    by_cases h0 : k = 0
    · subst h0
      have x : wr.cell? ⟨w.heap.size + 1, 0, none⟩ = some (.string ⟨#[115]⟩) := (hbel.cell (p := ⟨w.heap.size + 1, 0, none⟩) hgl).trans (HR.out 0 _ rfl)
      clear hbel htr
      by_cases hn0 : n = 0
      · have hz : (n != 0) = false := by simp [hn0]
        have hno : Hid (¬ dvd n 1000000000000) := hid (fun h => h.1 hn0)
        have HT' := hid (show tried n 1 from ⟨fun _ => hno.out, fun h => by omega, fun h => by omega, fun h => by omega⟩)
        clear hn0
        go_wp2_with (first | (go_at_call 129; refine (runit_0 _).mono ?_; rintro e w' ⟨rfl, e7⟩; rw [e7]; clear e7 w'))
        go_roundw
        case rel => exact ⟨1, rfl, by omega, HT'.out, BW.out⟩
        case measure => simp [intOf]
      · have hz : (n != 0) = true := by simp [hn0]
        by_cases hd : n.tmod 1000000000000 = 0
        · have hd' : (n.tmod 1000000000000 == 0) = true := beq_iff_eq.2 hd
          have hu : Hid (unitOf n = ([115], 1000000000000)) := hid (HP.out.1 ⟨hn0, hd⟩)
          have hle : (n.tdiv 1000000000000).natAbs ≤ n.natAbs := by rw [Int.natAbs_tdiv]; exact Nat.div_le_self _ _
          have hq : -1000000000000000000 < n.tdiv 1000000000000 ∧ n.tdiv 1000000000000 < 1000000000000000000 := by omega
          have HDn := hid (fun w => HD.out (n.tdiv 1000000000000) w hle)
          have hzz := HZ.out (n.tdiv 1000000000000) hle
          have HE := hid (show bA (numX n true) = bA (Lib.itoa (n.tdiv 1000000000000)) ++ (⟨#[115]⟩ : ByteArray) from by unfold numX; rw [if_pos rfl, hu.out, bA_app]; rfl)
          clear hle hn0 hd hu
          generalize bA (Lib.itoa (n.tdiv 1000000000000)) = S at *
          go_wp2_with (first
            | (go_at_call 187; (with_reducible refine (HDn.out wr).mono ?_); rintro e w3 ⟨rfl, g3⟩)
            | (go_at_call 129; refine (runit_0 _).mono ?_; rintro e w' ⟨rfl, e7⟩; rw [e7]; clear e7 w'))
          go_ret2
          exact ⟨by rw [HE.out]; rfl, HB.out.trans ((BW.out.trans (g3.mono BW.out.size)).mono HB.out.size)⟩
        · have hd' : (n.tmod 1000000000000 == 0) = false := beq_eq_false_iff_ne.2 hd
          have hno : Hid (¬ dvd n 1000000000000) := hid (fun h => hd h.2)
          have HT' := hid (show tried n 1 from ⟨fun _ => hno.out, fun h => by omega, fun h => by omega, fun h => by omega⟩)
          clear hn0 hd
          go_wp2_with (first | (go_at_call 129; refine (runit_0 _).mono ?_; rintro e w' ⟨rfl, e7⟩; rw [e7]; clear e7 w'))
          go_roundw
          case rel => exact ⟨1, rfl, by omega, HT'.out, BW.out⟩
          case measure => simp [intOf]
    by_cases h1 : k = 1
    · subst h1
      have x : wr.cell? ⟨w.heap.size + 1, 1, none⟩ = some (.string ⟨#[109, 115]⟩) := (hbel.cell (p := ⟨w.heap.size + 1, 1, none⟩) hgl).trans (HR.out 1 _ rfl)
      clear hbel htr
      by_cases hn0 : n = 0
      · have hz : (n != 0) = false := by simp [hn0]
        have hno : Hid (¬ dvd n 1000000000) := hid (fun h => h.1 hn0)
        have HT' := hid (show tried n 2 from ⟨fun _ => TR.out.1 (by omega), fun _ => hno.out, fun h => by omega, fun h => by omega⟩)
        clear hn0
        go_wp2_with (first | (go_at_call 129; refine (runit_1 _).mono ?_; rintro e w' ⟨rfl, e7⟩; rw [e7]; clear e7 w'))
        go_roundw
        case rel => exact ⟨2, rfl, by omega, HT'.out, BW.out⟩
        case measure => simp [intOf]
      · have hz : (n != 0) = true := by simp [hn0]
        by_cases hd : n.tmod 1000000000 = 0
        · have hd' : (n.tmod 1000000000 == 0) = true := beq_iff_eq.2 hd
          have hu : Hid (unitOf n = ([109, 115], 1000000000)) := hid (HP.out.2.1 (TR.out.1 (by omega)) ⟨hn0, hd⟩)
          have hle : (n.tdiv 1000000000).natAbs ≤ n.natAbs := by rw [Int.natAbs_tdiv]; exact Nat.div_le_self _ _
          have hq : -1000000000000000000 < n.tdiv 1000000000 ∧ n.tdiv 1000000000 < 1000000000000000000 := by omega
          have HDn := hid (fun w => HD.out (n.tdiv 1000000000) w hle)
          have hzz := HZ.out (n.tdiv 1000000000) hle
          have HE := hid (show bA (numX n true) = bA (Lib.itoa (n.tdiv 1000000000)) ++ (⟨#[109, 115]⟩ : ByteArray) from by unfold numX; rw [if_pos rfl, hu.out, bA_app]; rfl)
          clear hle hn0 hd hu
          generalize bA (Lib.itoa (n.tdiv 1000000000)) = S at *
          go_wp2_with (first
            | (go_at_call 187; (with_reducible refine (HDn.out wr).mono ?_); rintro e w3 ⟨rfl, g3⟩)
            | (go_at_call 129; refine (runit_1 _).mono ?_; rintro e w' ⟨rfl, e7⟩; rw [e7]; clear e7 w'))
          go_ret2
          exact ⟨by rw [HE.out]; rfl, HB.out.trans ((BW.out.trans (g3.mono BW.out.size)).mono HB.out.size)⟩
        · have hd' : (n.tmod 1000000000 == 0) = false := beq_eq_false_iff_ne.2 hd
          have hno : Hid (¬ dvd n 1000000000) := hid (fun h => hd h.2)
          have HT' := hid (show tried n 2 from ⟨fun _ => TR.out.1 (by omega), fun _ => hno.out, fun h => by omega, fun h => by omega⟩)
          clear hn0 hd
          go_wp2_with (first | (go_at_call 129; refine (runit_1 _).mono ?_; rintro e w' ⟨rfl, e7⟩; rw [e7]; clear e7 w'))
          go_roundw
          case rel => exact ⟨2, rfl, by omega, HT'.out, BW.out⟩
          case measure => simp [intOf]
    by_cases h2 : k = 2
    · subst h2
      have x : wr.cell? ⟨w.heap.size + 1, 2, none⟩ = some (.string ⟨#[117, 115]⟩) := (hbel.cell (p := ⟨w.heap.size + 1, 2, none⟩) hgl).trans (HR.out 2 _ rfl)
      clear hbel htr
      by_cases hn0 : n = 0
      · have hz : (n != 0) = false := by simp [hn0]
        have hno : Hid (¬ dvd n 1000000) := hid (fun h => h.1 hn0)
        have HT' := hid (show tried n 3 from ⟨fun _ => TR.out.1 (by omega), fun _ => TR.out.2.1 (by omega), fun _ => hno.out, fun h => by omega⟩)
        clear hn0
        go_wp2_with (first | (go_at_call 129; refine (runit_2 _).mono ?_; rintro e w' ⟨rfl, e7⟩; rw [e7]; clear e7 w'))
        go_roundw
        case rel => exact ⟨3, rfl, by omega, HT'.out, BW.out⟩
        case measure => simp [intOf]
      · have hz : (n != 0) = true := by simp [hn0]
        by_cases hd : n.tmod 1000000 = 0
        · have hd' : (n.tmod 1000000 == 0) = true := beq_iff_eq.2 hd
          have hu : Hid (unitOf n = ([117, 115], 1000000)) := hid (HP.out.2.2.1 (TR.out.1 (by omega)) (TR.out.2.1 (by omega)) ⟨hn0, hd⟩)
          have hle : (n.tdiv 1000000).natAbs ≤ n.natAbs := by rw [Int.natAbs_tdiv]; exact Nat.div_le_self _ _
          have hq : -1000000000000000000 < n.tdiv 1000000 ∧ n.tdiv 1000000 < 1000000000000000000 := by omega
          have HDn := hid (fun w => HD.out (n.tdiv 1000000) w hle)
          have hzz := HZ.out (n.tdiv 1000000) hle
          have HE := hid (show bA (numX n true) = bA (Lib.itoa (n.tdiv 1000000)) ++ (⟨#[117, 115]⟩ : ByteArray) from by unfold numX; rw [if_pos rfl, hu.out, bA_app]; rfl)
          clear hle hn0 hd hu
          generalize bA (Lib.itoa (n.tdiv 1000000)) = S at *
          go_wp2_with (first
            | (go_at_call 187; (with_reducible refine (HDn.out wr).mono ?_); rintro e w3 ⟨rfl, g3⟩)
            | (go_at_call 129; refine (runit_2 _).mono ?_; rintro e w' ⟨rfl, e7⟩; rw [e7]; clear e7 w'))
          go_ret2
          exact ⟨by rw [HE.out]; rfl, HB.out.trans ((BW.out.trans (g3.mono BW.out.size)).mono HB.out.size)⟩
        · have hd' : (n.tmod 1000000 == 0) = false := beq_eq_false_iff_ne.2 hd
          have hno : Hid (¬ dvd n 1000000) := hid (fun h => hd h.2)
          have HT' := hid (show tried n 3 from ⟨fun _ => TR.out.1 (by omega), fun _ => TR.out.2.1 (by omega), fun _ => hno.out, fun h => by omega⟩)
          clear hn0 hd
          go_wp2_with (first | (go_at_call 129; refine (runit_2 _).mono ?_; rintro e w' ⟨rfl, e7⟩; rw [e7]; clear e7 w'))
          go_roundw
          case rel => exact ⟨3, rfl, by omega, HT'.out, BW.out⟩
          case measure => simp [intOf]
    by_cases h3 : k = 3
    · subst h3
      have x : wr.cell? ⟨w.heap.size + 1, 3, none⟩ = some (.string ⟨#[110, 115]⟩) := (hbel.cell (p := ⟨w.heap.size + 1, 3, none⟩) hgl).trans (HR.out 3 _ rfl)
      clear hbel htr
      by_cases hn0 : n = 0
      · have hz : (n != 0) = false := by simp [hn0]
        have hno : Hid (¬ dvd n 1000) := hid (fun h => h.1 hn0)
        have HT' := hid (show tried n 4 from ⟨fun _ => TR.out.1 (by omega), fun _ => TR.out.2.1 (by omega), fun _ => TR.out.2.2.1 (by omega), fun _ => hno.out⟩)
        clear hn0
        go_wp2_with (first | (go_at_call 129; refine (runit_3 _).mono ?_; rintro e w' ⟨rfl, e7⟩; rw [e7]; clear e7 w'))
        go_roundw
        case rel => exact ⟨4, rfl, by omega, HT'.out, BW.out⟩
        case measure => simp [intOf]
      · have hz : (n != 0) = true := by simp [hn0]
        by_cases hd : n.tmod 1000 = 0
        · have hd' : (n.tmod 1000 == 0) = true := beq_iff_eq.2 hd
          have hu : Hid (unitOf n = ([110, 115], 1000)) := hid (HP.out.2.2.2.1 (TR.out.1 (by omega)) (TR.out.2.1 (by omega)) (TR.out.2.2.1 (by omega)) ⟨hn0, hd⟩)
          have hle : (n.tdiv 1000).natAbs ≤ n.natAbs := by rw [Int.natAbs_tdiv]; exact Nat.div_le_self _ _
          have hq : -1000000000000000000 < n.tdiv 1000 ∧ n.tdiv 1000 < 1000000000000000000 := by omega
          have HDn := hid (fun w => HD.out (n.tdiv 1000) w hle)
          have hzz := HZ.out (n.tdiv 1000) hle
          have HE := hid (show bA (numX n true) = bA (Lib.itoa (n.tdiv 1000)) ++ (⟨#[110, 115]⟩ : ByteArray) from by unfold numX; rw [if_pos rfl, hu.out, bA_app]; rfl)
          clear hle hn0 hd hu
          generalize bA (Lib.itoa (n.tdiv 1000)) = S at *
          go_wp2_with (first
            | (go_at_call 187; (with_reducible refine (HDn.out wr).mono ?_); rintro e w3 ⟨rfl, g3⟩)
            | (go_at_call 129; refine (runit_3 _).mono ?_; rintro e w' ⟨rfl, e7⟩; rw [e7]; clear e7 w'))
          go_ret2
          exact ⟨by rw [HE.out]; rfl, HB.out.trans ((BW.out.trans (g3.mono BW.out.size)).mono HB.out.size)⟩
        · have hd' : (n.tmod 1000 == 0) = false := beq_eq_false_iff_ne.2 hd
          have hno : Hid (¬ dvd n 1000) := hid (fun h => hd h.2)
          have HT' := hid (show tried n 4 from ⟨fun _ => TR.out.1 (by omega), fun _ => TR.out.2.1 (by omega), fun _ => TR.out.2.2.1 (by omega), fun _ => hno.out⟩)
          clear hn0 hd
          go_wp2_with (first | (go_at_call 129; refine (runit_3 _).mono ?_; rintro e w' ⟨rfl, e7⟩; rw [e7]; clear e7 w'))
          go_roundw
          case rel => exact ⟨4, rfl, by omega, HT'.out, BW.out⟩
          case measure => simp [intOf]
    · obtain rfl : k = 4 := by omega
      have hu : Hid (unitOf n = ([112, 115], 1)) := hid (HP.out.2.2.2.2 (htr.1 (by omega)) (htr.2.1 (by omega)) (htr.2.2.1 (by omega)) (htr.2.2.2 (by omega)))
      have HDn := hid (fun w => HD.out n w (Nat.le_refl _))
      have hzz := HZ.out n (Nat.le_refl _)
      have HE := hid (show bA (numX n true) = bA (Lib.itoa n) ++ (⟨#[112, 115]⟩ : ByteArray) from by unfold numX; rw [if_pos rfl, hu.out, bA_app, Int.tdiv_one]; rfl)
      clear hu htr hbel
      generalize bA (Lib.itoa n) = S at *
      go_wp2_with (first
        | (go_at_call 187; (with_reducible refine (HDn.out wr).mono ?_); rintro e w3 ⟨rfl, g3⟩))
      go_ret2
      exact ⟨by rw [HE.out]; rfl, HB.out.trans ((BW.out.trans (g3.mono BW.out.size)).mono HB.out.size)⟩

/-- The document's Text, at any token: as lex.Text. -/
theorem rtext_any (t : Tk) (w : World) (hsz : t.s.length ≤ 1099511627776) : Calls Tryz.prog 158 #[tkV t] w fun e w' => e = .returned (textR t) ∧ Below w.heap.size w w' := by
  obtain ⟨k, s, n, tm⟩ := t
  have HX : ∀ n, smallI n = true → ∀ w : World, Calls Tryz.prog 171 #[.int .i64 n] w fun e w' => e = .returned (.tuple #[.string (bA (numX n true)), .int .i64 0]) ∧ Below w.heap.size w w' := fun n h w => r01text_any n w h
  have HD : ∀ n, smallI n = true → ∀ w : World, Calls Tryz.prog 172 #[.int .i64 n] w fun e w' => e = .returned (.string (bA (numX n false))) ∧ Below w.heap.size w w' := fun n h w => dig14_any n w h
  by_cases h2 : k = 2
  · subst h2
    cases hsm : smallI n with
    | true =>
      by_cases h0 : n = 0
      · subst h0
        cases tm with
        | true => exact rtext_n_true_z s w (HX 0 rfl)
        | false => exact rtext_n_false_z s w (HD 0 rfl)
      · cases tm with
        | true => exact rtext_n_true_x s n w hsm h0 (HX n hsm)
        | false => exact rtext_n_false_x s n w hsm h0 (HD n hsm)
    | false =>
      by_cases hq : 1000000000000000000 ≤ n
      · exact rtext_big_hi s n tm w hq
      · exact rtext_big_lo s n tm w (by
          simp [smallI] at hsm
          omega)
  by_cases h0 : n = 0
  · subst h0
    cases tm with
    | true =>
      by_cases h1 : k = 1
      · subst h1; exact rtext_ot_1 s w
      by_cases h3 : k = 3
      · subst h3; exact rtext_ot_3 s w
      · exact rtext_ot_x k s w h2 (beq_eq_false_iff_ne.2 h1) (beq_eq_false_iff_ne.2 h3)
    | false =>
      by_cases h1 : k = 1
      · subst h1
        cases hw : wordB s with
        | true => exact rtext_w_true s w hsz hw
        | false => exact rtext_w_false s w hsz hw
      by_cases h3 : k = 3
      · subst h3
        cases hw : signL s with
        | false => exact rtext_s_no s w hw
        | true =>
          obtain ⟨c, rfl, hc⟩ : ∃ c, s = [c] ∧ sgB c = true := by
            match s, hw with
            | [c], h => exact ⟨c, rfl, h⟩
          simp only [sgB, Bool.or_eq_true, beq_iff_eq] at hc
          rcases hc with (rfl | rfl) | rfl
          · exact rtext_s_59 w
          · exact rtext_s_123 w
          · exact rtext_s_125 w
      · exact rtext_o0_x k s w h2 h1 h3
  · by_cases h1 : k = 1
    · subst h1; exact rtext_on_1 s n tm w h0
    by_cases h3 : k = 3
    · subst h3; exact rtext_on_3 s n tm w h0
    · exact rtext_on_x k s n tm w h2 (beq_eq_false_iff_ne.2 h1) (beq_eq_false_iff_ne.2 h3) h0
end Go.Proofs.YtpkoboohnbkpoaaGreatDoor

/-! XC -/
namespace Go.Proofs.YtpkoboohnbkpoaaGreatDoor
open Go Go.RowKit Go.Joins

theorem okA_of : ∀ (f : Fo) (k : Int), f.eachB = true → (f.depth : Int) ≤ k → f.okA k
  | .nil, _, _, _ => trivial
  | .cons wd ns bl y n, k, h, hd => by
    simp only [Fo.eachB, Bool.and_eq_true, Bool.not_eq_true', decide_eq_true_eq] at h
    obtain ⟨⟨⟨⟨⟨h1, h2⟩, h3⟩, h4⟩, h5⟩, h6⟩ := h
    simp only [Fo.depth] at hd
    refine ⟨by simp only [fitB, h1, h5, decide_eq_true h2, Bool.not_false, Bool.true_and]; exact h3, fun hb => ?_, okA_of y (k - 1) h4 (by split at hd <;> omega), okA_of n k h6 (by omega)⟩
    subst hb
    simp at hd
    omega
theorem of_okA : ∀ (f : Fo) (k : Int), f.okA k → 1 ≤ k → f.eachB = true ∧ (f.depth : Int) ≤ k
  | .nil, k, _, hk => ⟨rfl, by simp [Fo.depth]; omega⟩
  | .cons wd ns bl y n, k, h, hk => by
    obtain ⟨h1, h2, h3, h4⟩ := h
    obtain ⟨a1, a2, a3, a4⟩ := fit_of h1
    obtain ⟨n1, n2⟩ := of_okA n k h4 hk
    cases bl with
    | true =>
      have := h2 rfl
      obtain ⟨y1, y2⟩ := of_okA y (k - 1) h3 (by omega)
      refine ⟨by simp [Fo.eachB, a1, a2, a3, y1, n1], ?_⟩
      simp only [Fo.depth, if_true]
      omega
    | false =>
      have hy : y = .nil := by
        match y, a4 rfl with
        | .nil, _ => rfl
      subst hy
      refine ⟨by simp [Fo.eachB, a1, a2, a3, n1, Fo.len], ?_⟩
      simp only [Fo.depth, Bool.false_eq_true, if_false]
      omega
def rchk (f : Fo) : Bool := decide ((2000 : Int) < (f.count : Nat)) || (decide ((6 : Int) < (f.depth : Nat)) || !f.eachB)
theorem rchk_is (f : Fo) : chkE f = if rchk f = true then 1 else 0 := by
  rcases chk_01 f with h | h
  · obtain ⟨h1, h2⟩ := chk_ok h
    obtain ⟨h3, h4⟩ := of_okA f 6 h1 (by decide)
    have : rchk f = false := by
      unfold rchk
      rw [decide_eq_false (by omega), decide_eq_false (by omega), h3]; rfl
    rw [h, this]; rfl
  · have : rchk f = true := by
      cases hr : rchk f with
      | true => rfl
      | false =>
        unfold rchk at hr
        simp only [Bool.or_eq_false_iff, decide_eq_false_iff_not, Bool.not_eq_false'] at hr
        have h1 := okA_of f 6 hr.2.2 (by omega)
        rw [ok_chk h1 (by omega)] at h
        cases h
    rw [h, this]; rfl
set_option maxRecDepth 100000 in
theorem rcheck_any (f : Fo) (w : World) (K : Nat → Prop) (A : Option Addr) (n c : Nat) (ht : TrS w K A n f) (hL : f.okL) (hS : f.okS) (hc : f.count ≤ 209715) :
    Calls Tryz.prog 64 #[.slice A n c] w fun e w' => e = .returned (.int .i64 (chkE f : Nat)) ∧ Below w.heap.size w w' := by
  have HC := hid (fun w1 (hb : Below w.heap.size w w1) => rcount_any f w1 K A n c (ht.below hb) (by omega))
  have HD := hid (fun w1 (hb : Below w.heap.size w w1) => rdepth_any f w1 K A n c (ht.below hb) (by omega))
  have HE := hid (fun w1 (hb : Below w.heap.size w w1) => each_any f w1 K A n c (ht.below hb) hL hS)
  rw [rchk_is]
  have HR := hid (show rchk f = (decide ((2000 : Int) < (f.count : Nat)) || (decide ((6 : Int) < (f.depth : Nat)) || !f.eachB)) from rfl)
  generalize rchk f = R at *
  generalize f.count = C at *
  generalize f.depth = D at *
  generalize f.eachB = E at *
  clear ht hL hS hc
  by_cases h1 : (2000 : Int) < (C : Nat)
  · obtain rfl : R = true := by rw [HR.out, decide_eq_true h1]; rfl
    go_enter Tryz.func64, Tryz.ntmps64
    go_wp2_with (go_at_call 50; refine (HC.out w (Below.refl _ _)).mono ?_; rintro e w1 ⟨rfl, b⟩; have B1 := hid b; clear b)
    go_ret
    exact ⟨rfl, B1.out⟩
  by_cases h2 : (6 : Int) < (D : Nat)
  · obtain rfl : R = true := by rw [HR.out, decide_eq_true h2]; simp
    go_enter Tryz.func64, Tryz.ntmps64
    go_wp2_with (first
      | (go_at_call 107; refine (HD.out w1 B1.out).mono ?_; rintro e w2 ⟨rfl, b⟩; have B2 := hid (B1.out.trans (b.mono B1.out.size)); clear b)
      | (go_at_call 50; refine (HC.out w (Below.refl _ _)).mono ?_; rintro e w1 ⟨rfl, b⟩; have B1 := hid b; clear b))
    go_ret
    exact ⟨rfl, B2.out⟩
  obtain rfl : R = !E := by rw [HR.out, decide_eq_false h1, decide_eq_false h2]; rfl
  cases E
  all_goals
    go_enter Tryz.func64, Tryz.ntmps64
    go_wp2_with (first
      | (go_at_call 108; refine (HE.out w2 B2.out).mono ?_; rintro e w3 ⟨rfl, b⟩; have B3 := hid (B2.out.trans (b.mono B2.out.size)); clear b)
      | (go_at_call 107; refine (HD.out w1 B1.out).mono ?_; rintro e w2 ⟨rfl, b⟩; have B2 := hid (B1.out.trans (b.mono B1.out.size)); clear b)
      | (go_at_call 50; refine (HC.out w (Below.refl _ _)).mono ?_; rintro e w1 ⟨rfl, b⟩; have B1 := hid b; clear b))
    go_ret
    exact ⟨rfl, B3.out⟩
end Go.Proofs.YtpkoboohnbkpoaaGreatDoor
