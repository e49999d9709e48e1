/-
  The walk of LexBack: it is true; under: the tables hold what the program lays (LaidW), the tokens read as a list.
-/
import Derived.Test.YtfdieablcffdkaaGreatDoorLW
import Derived.Test.YtfdieablcffdkaaGreatDoorLJ
namespace Go.Proofs.YtfdieablcffdkaaGreatDoor
open Go Go.RowKit Go.Joins

theorem few_toks {k : Nat} {ts : List Tk} (h : fewB k ts = true) : (∀ t ∈ ts, t.s.length ≤ 200) ∧ ts.length ≤ 300 := by
  unfold fewB at h
  rw [Bool.and_eq_true, Bool.and_eq_true] at h
  exact ⟨fun t ht => by have := List.all_eq_true.1 h.1 t ht; simpa using this, by simpa using h.2.2⟩

set_option maxHeartbeats 1000000 in
set_option maxRecDepth 100000 in
theorem back_no (A : Option Addr) (n c : Nat) (ts : List Tk) (w : World) (hL : LaidW w) (hr : tkS.Rw w w.heap.size A n ts) (hn : n ≤ 9223372036854775807) (hf : fewB 0 ts = false) :
    Calls Tryz.prog 4 #[.slice A n c] w fun e w' => e = .returned (.bool true) ∧ Below w.heap.size w w' := by
  have HV := hid (live_any w hL)
  have HR := hid hr
  have HF := hid (fun w2 (b : Below w.heap.size w w2) => by have := few_any ⟨#[]⟩ A n c w.heap.size ts w2 (hr.below b) b.size (by omega) (by decide); rwa [show (⟨#[]⟩ : ByteArray).size = 0 from rfl, hf] at this)
  clear hL hr hf
  go_enter Tryz.func4, Tryz.ntmps4
  go_wp2_with (first
    | (go_at_call 5; refine HV.out.mono ?_; rintro e w1 ⟨rfl, g1⟩; have G1 := hid g1; clear g1)
    | (go_at_call 6; refine (HF.out w1 G1.out).mono ?_; rintro e w2 ⟨rfl, g2⟩; have G2 := hid (G1.out.trans (g2.mono G1.out.size)); clear g2))
  go_ret
  exact ⟨rfl, G2.out⟩
set_option maxHeartbeats 1000000 in
set_option maxRecDepth 100000 in
theorem back_none (A : Option Addr) (n c : Nat) (ts : List Tk) (w : World) (hL : LaidW w) (hr : tkS.Rw w w.heap.size A n ts) (hf : fewB 0 ts = true) (ha : allT ts = false) :
    Calls Tryz.prog 4 #[.slice A n c] w fun e w' => e = .returned (.bool true) ∧ Below w.heap.size w w' := by
  have hk := few_toks hf
  have hn : n ≤ 300 := by rw [← hr.1]; exact hk.2
  have HV := hid (live_any w hL)
  have HF := hid (fun w2 (b : Below w.heap.size w w2) => by have := few_any ⟨#[]⟩ A n c w.heap.size ts w2 (hr.below b) b.size (by omega) (by decide); rwa [show (⟨#[]⟩ : ByteArray).size = 0 from rfl, hf] at this)
  have HJ := hid (fun w2 (b : Below w.heap.size w w2) => by
    have := join_any A n c w.heap.size ts w2 (hL.below b) (hr.below b) b.size (by omega) (fun t ht => by have := hk.1 t ht; omega)
    rwa [show joinR ts = .tuple #[.string ⟨#[]⟩, .int .i64 1] from if_neg (by rw [ha]; decide)] at this)
  clear hL hr hf ha
  go_enter Tryz.func4, Tryz.ntmps4
  go_wp2_with (first
    | (go_at_call 5; refine HV.out.mono ?_; rintro e w1 ⟨rfl, g1⟩; have G1 := hid g1; clear g1)
    | (go_at_call 6; refine (HF.out w1 G1.out).mono ?_; rintro e w2 ⟨rfl, g2⟩; have G2 := hid (G1.out.trans (g2.mono G1.out.size)); clear g2)
    | (go_at_call 9; refine (HJ.out w2 G2.out).mono ?_; rintro e w3 ⟨rfl, g3⟩; have G3 := hid (G2.out.trans (g3.mono G2.out.size)); clear g3))
  go_ret
  exact ⟨rfl, G3.out⟩

set_option maxHeartbeats 2000000 in
set_option maxRecDepth 100000 in
theorem back_all (A : Option Addr) (n c : Nat) (ts : List Tk) (w : World) (hL : LaidW w) (hr : tkS.Rw w w.heap.size A n ts) (hf : fewB 0 ts = true) (ha : allT ts = true) :
    Calls Tryz.prog 4 #[.slice A n c] w fun e w' => e = .returned (.bool true) ∧ Below w.heap.size w w' := by
  have hk := few_toks hf
  have hn : n ≤ 300 := by rw [← hr.1]; exact hk.2
  have HV := hid (live_any w hL)
  have HL := hid hL
  have HR := hid hr
  have HF := hid (fun w2 (b : Below w.heap.size w w2) => by have := few_any ⟨#[]⟩ A n c w.heap.size ts w2 (hr.below b) b.size (by omega) (by decide); rwa [show (⟨#[]⟩ : ByteArray).size = 0 from rfl, hf] at this)
  have hjr : joinR ts = .tuple #[.string (bA (joinT ts)), .int .i64 0] := if_pos ha
  have HJ := hid (fun w2 (b : Below w.heap.size w w2) => by
    have := join_any A n c w.heap.size ts w2 (hL.below b) (hr.below b) b.size (by omega) (fun t ht => by have := hk.1 t ht; omega)
    rwa [hjr] at this)
  obtain ⟨L, hc1, hc2⟩ := join_cut ts ha
  have hL2 : L.length = ts.length := by have := congrArg List.length hc2; simpa using this
  have hjb : joinR (ts.map tokOf) = .tuple #[.string (bA (joinT ts)), .int .i64 0] := by
    unfold joinR; rw [if_pos (all_back ha), join_back ha]
  have HJ2 := hid (fun (A2 : Option Addr) (c2 : Nat) w2 (hL : LaidW w2) (hr2 : tkS.Rw w2 w2.heap.size A2 n (L.map (·.1))) => by
    rw [hc2] at hr2
    have := join_any A2 n c2 w2.heap.size (ts.map tokOf) w2 hL hr2 (Nat.le_refl _) (by omega) (fun t ht => by have := len_back ha 200 hk.1 t ht; omega)
    rwa [hjb] at this)
  have HB1 := hid (fun (A2 : Option Addr) (c2 : Nat) w2 (hr2 : tkS.Rw w2 w2.heap.size A2 n (L.map (·.1))) => by
    have := bare_any A2 n c2 w2.heap.size (L.map (·.1)) w2 hr2 (Nat.le_refl _) (by omega)
    rw [hc2, bare_back ha] at this
    exact this)
  have HB2 := hid (fun w2 (b : Below w.heap.size w w2) => bare_any A n c w.heap.size ts w2 (hr.below b) b.size (by omega))
  have HC := hid (fun (h : (bA (joinT ts)).size ≤ 65536) w2 (hL : LaidW w2) => cut_ok (bA (joinT ts)) w2 hL h L (by rw [bA_list]; exact hc1))
  have hln : L.length = n := by rw [hL2]; exact hr.1
  have HN := hid hln
  have hsz : (bA (joinT ts)).size ≤ 1099511627776 := by
    rw [bA_size]
    have h1 := joinT_len ts 200 hk.1
    have h2 : ts.length * (200 + 23) ≤ 300 * (200 + 23) := Nat.mul_le_mul_right _ hk.2
    omega
  clear hL hr hf ha hk hjr hjb hc1 hc2 hL2 hln
  generalize bA (joinT ts) = S at *
  by_cases hS : 65536 < S.size
  · have hS' : (65536 : Int) < S.size := by omega
    clear HC
    go_enter Tryz.func4, Tryz.ntmps4
    go_wp2_with (first
      | (go_at_call 5; refine HV.out.mono ?_; rintro e w1 ⟨rfl, g1⟩; have G1 := hid g1; clear g1)
      | (go_at_call 6; refine (HF.out w1 G1.out).mono ?_; rintro e w2 ⟨rfl, g2⟩; have G2 := hid (G1.out.trans (g2.mono G1.out.size)); clear g2)
      | (go_at_call 9; (with_reducible refine (HJ.out w2 G2.out).mono ?_); rintro e w3 ⟨rfl, g3⟩; have G3 := hid (G2.out.trans (g3.mono G2.out.size)); clear g3))
    go_ret
    exact ⟨rfl, G3.out⟩
  · have hS' : ¬ (65536 : Int) < S.size := by omega
    have HC := hid (HC.out (by omega))
    go_enter Tryz.func4, Tryz.ntmps4
    go_wp2_with (first
      | (go_at_call 5; refine HV.out.mono ?_; rintro e w1 ⟨rfl, g1⟩; have G1 := hid g1; clear g1)
      | (go_at_call 6; refine (HF.out w1 G1.out).mono ?_; rintro e w2 ⟨rfl, g2⟩; have G2 := hid (G1.out.trans (g2.mono G1.out.size)); clear g2)
      | (go_at_call 16; refine (same_any A8 A9 n c8 n c9 w9.heap.size w9.heap.size (ts.map bareT) (ts.map bareT) true w9 (O8.out.below K9.out).row O9.out.row (Nat.le_refl _) (Nat.le_refl _) (by omega) (by omega) (decide_eq_true rfl)).mono ?_; rintro e w10 ⟨rfl, g10⟩; have G10 := hid (G9.out.trans (g10.mono G9.out.size)); clear g10)
      | (go_at_call 17; (with_reducible refine (HB2.out w8 G8.out).mono ?_); rintro e w9 ⟨A9, c9, rfl, ow9, g9⟩; have G9 := hid (G8.out.trans (g9.mono G8.out.size)); have K9 := hid g9; have O9 := hid ow9; clear g9 ow9)
      | (go_at_call 17; (with_reducible refine (HB1.out _ _ w7 R7.out).mono ?_); rintro e w8 ⟨A8, c8, rfl, ow8, g8⟩; have G8 := hid (G7.out.trans (g8.mono G7.out.size)); have O8 := hid ow8; clear g8 ow8)
      | (go_at_call 9; (with_reducible refine (HJ2.out _ _ w6 (HL.out.below G6.out) R6.out).mono ?_); rintro e w7 ⟨rfl, g7⟩; have G7 := hid (G6.out.trans (g7.mono G6.out.size)); have R7 := hid ((R6.out.below g7).more g7.size); clear g7)
      | (refine Sh.wp_sv plS (x := ⟨0, 0⟩) rfl (.tmp 8) (.tmp 38) rfl rfl (by rfl) q5 ?_; intro w6 q6 b6 o6 _; have B6 := hid (b5.trans (b6.mono (Nat.le_refl _))); have G6 := hid (G4.out.trans (B6.out.mono G4.out.size)); have R6 := hid (O4.out.below B6.out).row; clear q5 q6 b5 b6 o6 B6 O4)
      | (refine Sh.wp_al plS rfl rfl ?_; intro w5 q5 b5 _)
      | (go_at_call 15; (with_reducible refine (HC.out w3 (HL.out.below G3.out)).mono ?_); rintro e w4 ⟨n4, A4, c4, B4, d4, hn4, _, rfl, ow4, _, g4⟩; obtain rfl : n = n4 := HN.out.symm.trans hn4; have G4 := hid (G3.out.trans (g4.mono G3.out.size)); have O4 := hid ow4; clear g4 ow4 hn4)
      | (go_at_call 9; (with_reducible refine (HJ.out w2 G2.out).mono ?_); rintro e w3 ⟨rfl, g3⟩; have G3 := hid (G2.out.trans (g3.mono G2.out.size)); clear g3))
    go_ret
    exact ⟨rfl, G10.out⟩
theorem back_any (A : Option Addr) (n c : Nat) (ts : List Tk) (w : World) (hL : LaidW w) (hr : tkS.Rw w w.heap.size A n ts) (hn : n ≤ 9223372036854775807) :
    Calls Tryz.prog 4 #[.slice A n c] w fun e w' => e = .returned (.bool true) ∧ Below w.heap.size w w' := by
  cases hf : fewB 0 ts with
  | false => exact back_no A n c ts w hL hr hn hf
  | true =>
    cases ha : allT ts with
    | false => exact back_none A n c ts w hL hr hf ha
    | true => exact back_all A n c ts w hL hr hf ha
end Go.Proofs.YtfdieablcffdkaaGreatDoor
