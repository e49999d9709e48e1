/-
  The walk of LexTells: it is true; under: the tables hold what the program lays (LaidW), the tokens read as a list.
-/
import Derived.Test.YtfdieablcffdkaaGreatDoorMJ
import Derived.Test.YtfdieablcffdkaaGreatDoorMW
import Derived.Test.YtfdieablcffdkaaGreatDoorLX
namespace Go.Proofs.YtfdieablcffdkaaGreatDoor
open Go Go.RowKit Go.Joins

set_option maxHeartbeats 1000000 in
set_option maxRecDepth 100000 in
theorem tells_no (A : Option Addr) (n c : Nat) (ts : List Tk) (s : ByteArray) (at_ : Int) (w : World) (hL : LaidW w) (hr : tkS.Rw w w.heap.size A n ts) (hn : n ≤ 9223372036854775807) (hs : s.size ≤ 9223372036854775807) (hf : fewB s.size ts = false ∨ (fewB s.size ts = true ∧ 3000 < s.size)) :
    Calls Tryz.prog 3 #[.slice A n c, .string s, .int .i64 at_] w fun e w' => e = .returned (.bool true) ∧ Below w.heap.size w w' := by
  have HV := hid (live_any w hL)
  have HR := hid hr
  have HF := hid (fun w2 (b : Below w.heap.size w w2) => few_any s A n c w.heap.size ts w2 (hr.below b) b.size (by omega) hs)
  clear hL hr
  generalize fewB s.size ts = bf at *
  rcases hf with rfl | ⟨rfl, h3⟩
  · go_enter Tryz.func3, Tryz.ntmps3
    go_wp2_with (first
      | (go_at_call 5; refine HV.out.mono ?_; rintro e w1 ⟨rfl, g1⟩; have G1 := hid g1; clear g1)
      | (go_at_call 6; refine (HF.out w1 G1.out).mono ?_; rintro e w2 ⟨rfl, g2⟩; have G2 := hid (G1.out.trans (g2.mono G1.out.size)); clear g2))
    go_ret
    exact ⟨rfl, G2.out⟩
  · have h3' : (3000 : Int) < s.size := by omega
    go_enter Tryz.func3, Tryz.ntmps3
    go_wp2_with (first
      | (go_at_call 5; refine HV.out.mono ?_; rintro e w1 ⟨rfl, g1⟩; have G1 := hid g1; clear g1)
      | (go_at_call 6; refine (HF.out w1 G1.out).mono ?_; rintro e w2 ⟨rfl, g2⟩; have G2 := hid (G1.out.trans (g2.mono G1.out.size)); clear g2))
    go_ret
    exact ⟨rfl, G2.out⟩

set_option maxHeartbeats 2000000 in
set_option maxRecDepth 100000 in
theorem tells_yes (A : Option Addr) (n c : Nat) (ts : List Tk) (s : ByteArray) (at_ : Int) (w : World) (hL : LaidW w) (hr : tkS.Rw w w.heap.size A n ts) (hz : s.size ≤ 3000) (hf : fewB s.size ts = true) :
    Calls Tryz.prog 3 #[.slice A n c, .string s, .int .i64 at_] w fun e w' => e = .returned (.bool true) ∧ Below w.heap.size w w' := by
  have hk := few_toks hf
  have hn : n ≤ 300 := by rw [← hr.1]; exact hk.2
  have HV := hid (live_any w hL)
  have HL := hid hL
  have HR := hid hr
  have HLN := hid hr.1
  have HF := hid (fun w2 (b : Below w.heap.size w w2) => by have := few_any s A n c w.heap.size ts w2 (hr.below b) b.size (by omega) (by omega); rwa [hf] at this)
  have HK := hid hk.1
  have hm : ∀ t ∈ ts, t.s.length ≤ 65536 := fun t ht => by have := hk.1 t ht; omega
  have HJ := hid (fun w2 (b : Below w.heap.size w w2) => join_any A n c w.heap.size ts w2 (hL.below b) (hr.below b) b.size (by omega) hm)
  have HJ2 := hid (fun w2 (b : Below w.heap.size w w2) => rjoin_any A n c w.heap.size ts w2 (hr.below b) b.size (by omega) hm)
  have HW1 := hid (fun w2 (hL : LaidW w2) => where_any s at_ w2 hL (by omega))
  have HW2 := hid (fun w2 (hL : LaidW w2) => rwhere_any s at_ w2 hL (by omega))
  have HO1 := hid (fun w2 => word_any s w2 (by omega))
  have HO2 := hid (fun w2 => rword_any s w2 (by omega))
  unfold WherePost at HW1 HW2
  unfold WordPost at HO1 HO2
  obtain ⟨js, je, hj⟩ : ∃ (js : ByteArray) (je : Int), joinR ts = .tuple #[.string js, .int .i64 je] := by
    unfold joinR; split <;> exact ⟨_, _, rfl⟩
  obtain ⟨wp, we, hwr⟩ : ∃ (wp : Pl) (we : Int), whereR s.data.toList at_ = .tuple #[plV wp, .int .i64 we] := by
    unfold whereR; split <;> exact ⟨_, _, rfl⟩
  rw [hj] at HJ HJ2
  rw [hwr] at HW1 HW2
  have h3 : ¬ (3000 : Int) < s.size := by omega
  clear hL hr hf hk hm hj hwr
  generalize wordB s.data.toList = wb at *
  go_enter Tryz.func3, Tryz.ntmps3
  go_wp2_with (first
    | (go_at_call 5; refine HV.out.mono ?_; rintro e w1 ⟨rfl, g1⟩; have G1 := hid g1; clear g1)
    | (go_at_call 6; refine (HF.out w1 G1.out).mono ?_; rintro e w2 ⟨rfl, g2⟩; have G2 := hid (G1.out.trans (g2.mono G1.out.size)); clear g2))
  go_loopw [35] (fun v35 wr => ∃ k : Nat, v35 = .int .i64 (k : Nat) ∧ k ≤ n ∧ Below w.heap.size w wr) (fun v35 _ => n - (intOf v35).toNat)
  case atStart => exact ⟨0, rfl, Nat.zero_le _, G2.out⟩
  case round =>
    obtain ⟨k, rfl, hk, hbel⟩ := hrel
    have BW := hid hbel
    by_cases hlt : k < n
    · obtain ⟨b, o, rfl, hb, hc⟩ := (HR.out.below hbel).at_ hlt
      have hmem : tkS.nth ts k ∈ ts := List.mem_of_getElem? (Sh.nth_get tkS (by rw [HLN.out]; exact hlt))
      have hlm := HK.out _ hmem
      generalize tkS.nth ts k = t at *
      have r1 : wr.rangeAt b (o + k * 4) (tkS.enc t) := hc
      have HX1 := hid (fun w hL => text_any t w hL (by omega))
      have HX2 := hid (fun w => rtext_any t w (by omega))
      obtain ⟨xs, xe, hx⟩ : ∃ (xs : ByteArray) (xe : Int), textR t = .tuple #[.string xs, .int .i64 xe] := by
        unfold textR; split <;> exact ⟨_, _, rfl⟩
      rw [hx] at HX1 HX2
      clear hc hbel hmem hlm hx
      go_wp2_with (first
        | (go_at_call 8; refine (HX2.out w5).mono ?_; rintro e w6 ⟨rfl, g6⟩; have G6 := hid (G5.out.trans (g6.mono G5.out.size)); clear g6)
        | (go_at_call 7; refine (HX1.out w4 (HL.out.below G4.out)).mono ?_; rintro e w5 ⟨rfl, g5⟩; have G5 := hid (G4.out.trans (g5.mono G4.out.size)); have q5 := q4.keep g5; clear g5)
        | (refine Sh.wp_ld tkS rfl (.tmp 9) rfl rfl q5.1 ?_)
        | (refine Sh.wp_ld tkS rfl (.tmp 9) rfl rfl q4.1 ?_)
        | (refine Sh.wp_sv tkS (x := t) rfl (.tmp 9) (.tmp 38) rfl rfl (by rfl) q3 ?_; intro w4 q4 b4 o4 _; have G4 := hid (BW.out.trans ((b3.trans (b4.mono (Nat.le_refl _))).mono BW.out.size)); clear q3 b3 b4 o4)
        | (refine Sh.wp_al tkS rfl rfl ?_; intro w3 q3 b3 s3; clear s3)
        | (refine Sh.wp_ld tkS rfl (.tmp 37) rfl rfl r1 ?_))
      go_roundw
      case rel => exact ⟨k + 1, by go_num, by omega, G6.out⟩
      case measure => simp [intOf]; omega
    · obtain rfl : k = n := by omega
      clear hbel
      have q1 := fun w => eqP wp wp w
      have q2 := fun u v w => guP .eql u v wp wp w
      rw [decide_eq_true rfl] at q1
      obtain ⟨p1, p2⟩ := wp
      unfold plV at q1 q2
      simp only at q1 q2
      go_wp2_with (first
        | (go_at_call 14; refine (HO2.out w11).mono ?_; rintro e w12 ⟨rfl, g12⟩; have G12 := hid (G11.out.trans (g12.mono G11.out.size)); clear g12)
        | (go_at_call 13; refine (HO1.out w10).mono ?_; rintro e w11 ⟨rfl, g11⟩; have G11 := hid (G10.out.trans (g11.mono G10.out.size)); clear g11)
        | (go_at_call 12; (with_reducible refine (HW2.out w7 (HL.out.below G7.out)).mono ?_); rintro e w8 ⟨rfl, g8⟩; have G8 := hid (G7.out.trans (g8.mono G7.out.size)); have V8 := hid (V7.out.keep g8); clear g8)
        | (go_at_call 11; (with_reducible refine (HW1.out w4 (HL.out.below G4.out)).mono ?_); rintro e w5 ⟨rfl, g5⟩; have G5 := hid (G4.out.trans (g5.mono G4.out.size)); clear g5)
        | (go_at_call 10; (with_reducible refine (HJ2.out w3 G3.out).mono ?_); rintro e w4 ⟨rfl, g4⟩; have G4 := hid (G3.out.trans (g4.mono G3.out.size)); clear g4)
        | (go_at_call 9; (with_reducible refine (HJ.out wr BW.out).mono ?_); rintro e w3 ⟨rfl, g3⟩; have G3 := hid (BW.out.trans (g3.mono BW.out.size)); clear g3)
        | (refine Sh.wp_sv plS (x := ⟨p1, p2⟩) rfl (.tmp 20) (.tmp 78) rfl rfl (by rfl) q9 ?_; intro w10 q10 b10 o10 _; have B10 := hid (b9.trans (b10.mono (Nat.le_refl _))); have G10 := hid (G8.out.trans (B10.out.mono G8.out.size)); have z0 : w10.cell? ⟨w8.heap.size, 0, none⟩ = some (.int .i64 p1) := q10.cell (j := 0) rfl; have z1 : w10.cell? ⟨w8.heap.size, 1, none⟩ = some (.int .i64 p2) := q10.cell (j := 1) rfl; have V10 := V8.out.keep B10.out; have y0 : w10.cell? ⟨w5.heap.size, 0, none⟩ = some (.int .i64 p1) := V10.cell (j := 0) rfl; have y1 : w10.cell? ⟨w5.heap.size, 1, none⟩ = some (.int .i64 p2) := V10.cell (j := 1) rfl; clear q9 q10 b9 b10 o10 V10)
        | (refine Sh.wp_sv plS (x := ⟨p1, p2⟩) rfl (.tmp 18) (.tmp 72) rfl rfl (by rfl) q6 ?_; intro w7 q7 b7 o7 _; have G7 := hid (G5.out.trans ((b6.trans (b7.mono (Nat.le_refl _))).mono G5.out.size)); have V7 := hid q7; clear q6 q7 b6 b7 o7)
        | (refine Sh.wp_al plS (w := w8) rfl rfl ?_; intro w9 q9 b9 _)
        | (refine Sh.wp_al plS (w := w5) rfl rfl ?_; intro w6 q6 b6 _))
      go_ret
      exact ⟨rfl, G12.out⟩
theorem tells_any (A : Option Addr) (n c : Nat) (ts : List Tk) (s : ByteArray) (at_ : Int) (w : World) (hL : LaidW w) (hr : tkS.Rw w w.heap.size A n ts) (hn : n ≤ 9223372036854775807) (hs : s.size ≤ 9223372036854775807) (_ : -9223372036854775808 ≤ at_) (_ : at_ ≤ 9223372036854775807) :
    Calls Tryz.prog 3 #[.slice A n c, .string s, .int .i64 at_] w fun e w' => e = .returned (.bool true) ∧ Below w.heap.size w w' := by
  cases hf : fewB s.size ts with
  | false => exact tells_no A n c ts s at_ w hL hr hn hs (.inl hf)
  | true =>
    by_cases h : s.size ≤ 3000
    · exact tells_yes A n c ts s at_ w hL hr h hf
    · exact tells_no A n c ts s at_ w hL hr hn hs (.inr ⟨hf, by omega⟩)
end Go.Proofs.YtfdieablcffdkaaGreatDoor
