/-
  The walk of LexNumbers: it is true; under: the tables hold what the program lays (LaidW).
-/
import Derived.Test.YtfdieablcffdkaaDoorLT
import Derived.Test.YtfdieablcffdkaaDoorLU
namespace Go.Proofs.YtfdieablcffdkaaDoor
open Go Go.RowKit Go.Joins

/-- what the number and the time are cut into -/
def numL (n : Int) : List (Tk × Pl) := [(⟨2, Lib.itoa n, n, false⟩, ⟨1, 1⟩), (⟨2, Lib.itoa n ++ [117, 115], n * 1000000, true⟩, ⟨1, 1 + (Lib.itoa n).length + 1⟩)]
theorem num_cut (n : Int) (h1 : -2147483648 ≤ n) (h2 : n ≤ 2147483647) : cutL (Lib.itoa n ++ [32] ++ Lib.itoa n ++ [117, 115]) false firstP = (numL n, none) := by
  have hu : unitF [117, 115] = some 1000000 := by decide
  have t1 := tok_itoa n [] (by omega) (.inl rfl) (by intro ps h; cases h)
  have t2 := tok_itoa n [117, 115] (by omega) (.inr (by rw [hu]; simp)) (by intro ps h; rw [hu] at h; cases h; omega)
  have e : Lib.itoa n ++ [32] ++ Lib.itoa n ++ [117, 115] = (Lib.itoa n ++ []) ++ (32 :: ((Lib.itoa n ++ [117, 115]) ++ [])) := by simp
  rw [e, cut_num n [] _ _ _ (.inl rfl) t1 (.inr ⟨32, _, rfl, by decide⟩), cut_space, cut_num n [117, 115] [] _ _ (.inr (by rw [hu]; simp)) t2 (.inl rfl), cutL, hu]
  simp [numL, firstP, unitF]
/-- what noughts, a seven and a sign are cut into -/
def zerL (k : Nat) : List (Tk × Pl) := [(⟨2, ([48, 48, 48, 48, 48, 48, 48, 48] : List UInt8).take k ++ [55], 7, false⟩, ⟨1, 1⟩), (⟨3, [59], 0, false⟩, ⟨1, k + 2⟩)]
theorem zer_cut (k : Nat) (h : k < 9) : cutL (([48, 48, 48, 48, 48, 48, 48, 48] : List UInt8).take k ++ [55, 59]) false firstP = (zerL k, none) := by
  rw [← cutN_eq 10 _ _ _ (by simp; omega)]
  have : ∀ k : Fin 9, cutN 10 (([48, 48, 48, 48, 48, 48, 48, 48] : List UInt8).take k.1 ++ [55, 59]) false firstP = (zerL k.1, none) := by decide +kernel
  exact this ⟨k, h⟩

set_option maxHeartbeats 1000000 in
set_option maxRecDepth 100000 in
theorem numbers_yes (n : Int) (k : Nat) (w : World) (hL : LaidW w) (h1 : -2147483648 ≤ n) (h2 : n ≤ 2147483647) (hk : k < 256) :
    Calls Tryd.prog 5 #[.int .i32 n, .int .u8 k] w fun e w' => e = .returned (.bool true) ∧ Below w.heap.size w w' := by
  have HV := hid (live_any w hL)
  have HL := hid hL
  have HX := hid (fun w hL => by
    have h := text_any ⟨2, [], n, false⟩ w hL (Nat.zero_le _)
    have e : textR ⟨2, [], n, false⟩ = .tuple #[.string (bA (Lib.itoa n)), .int .i64 0] := by
      have : textF ⟨2, [], n, false⟩ = some (numT n false) := by
        unfold textF; rw [if_pos ⟨rfl, by simp [smallI]; omega⟩]
      unfold textR; rw [this]; rfl
    rw [e] at h
    exact (h : Calls Tryd.prog 11 #[.agg #[.int .i64 2, .string ⟨#[]⟩, .int .i64 n, .bool false]] w fun e w' => e = .returned (.tuple #[.string (bA (Lib.itoa n)), .int .i64 0]) ∧ Below w.heap.size w w'))
  obtain ⟨ds, _, _, _, d4, d5⟩ := itoa_form n
  have d6 := nDigits_le 10 n.natAbs (by omega) (by omega)
  have hlen : (Lib.itoa n).length ≤ 11 := by
    rcases d5 with ⟨_, d5⟩ | ⟨_, d5⟩
    · rw [d5, List.length_cons]; omega
    · rw [d5]; omega
  clear d4 d5 d6
  have hI : (bA (Lib.itoa n)).size ≤ 11 := by rw [bA_size]; exact hlen
  obtain ⟨S2, hS2⟩ : ∃ S2, bA (Lib.itoa n) ++ (⟨#[32]⟩ : ByteArray) ++ bA (Lib.itoa n) ++ (⟨#[117, 115]⟩ : ByteArray) = S2 := ⟨_, rfl⟩
  obtain ⟨S3, hS3⟩ : ∃ S3, (⟨#[48, 48, 48, 48, 48, 48, 48, 48]⟩ : ByteArray).extract 0 (k % 9) ++ (⟨#[55, 59]⟩ : ByteArray) = S3 := ⟨_, rfl⟩
  have hl2 : S2.data.toList = Lib.itoa n ++ [32] ++ Lib.itoa n ++ [117, 115] := by
    rw [← hS2, ByteArray.data_append, ByteArray.data_append, ByteArray.data_append, Array.toList_append, Array.toList_append, Array.toList_append, bA_list]
  have hl3 : S3.data.toList = ([48, 48, 48, 48, 48, 48, 48, 48] : List UInt8).take (k % 9) ++ [55, 59] := by
    rw [← hS3, ByteArray.data_append, Array.toList_append, extract_take ⟨#[48, 48, 48, 48, 48, 48, 48, 48]⟩ (k % 9)]
  have hz2 : S2.size ≤ 65536 := by
    show S2.data.toList.length ≤ _
    rw [hl2]; simp only [List.length_append, List.length_cons, List.length_nil]; omega
  have hz3 : S3.size ≤ 65536 := by
    show S3.data.toList.length ≤ _
    rw [hl3]; simp only [List.length_append, List.length_cons, List.length_nil, List.length_take]; omega
  have HC1 := hid (fun w hL => cut_ok S2 w hL hz2 (numL n) (by rw [hl2]; exact num_cut n h1 h2))
  have HC2 := hid (fun w hL => cut_ok S3 w hL hz3 (zerL (k % 9)) (by rw [hl3]; exact zer_cut _ (Nat.mod_lt _ (by omega))))
  clear hL hl2 hl3 hz2 hz3 hlen
  generalize bA (Lib.itoa n) = I at *
  go_enter Tryd.func5, Tryd.ntmps5
  go_wp2_with (first
    | (go_at_call 6; refine HV.out.mono ?_; rintro e w1 ⟨rfl, g1⟩; have G1 := hid g1; clear g1)
    | (refine Sh.wp_sv plS (x := ⟨0, 0⟩) rfl (.tmp 14) (.tmp 86) rfl rfl (by rfl) q6 ?_; intro w7 q7 b7 o7 _; have G7 := hid (G5.out.trans ((b6.trans (b7.mono (Nat.le_refl _))).mono G5.out.size)); obtain ⟨g', rfl, hh1, hh2, hd⟩ := (O5.out.below (b6.trans (b7.mono (Nat.le_refl _)))).cells (by omega); have d2 : w7.cell? ⟨g', 2, none⟩ = some (.int .i64 7) := hd 2 _ rfl; have d5 : w7.cell? ⟨g', 5, none⟩ = some (.string ⟨#[59]⟩) := hd 5 _ rfl; clear q6 q7 b6 b7 o7 hd hh1)
    | (refine Sh.wp_al plS rfl rfl ?_; intro w6 q6 b6 _; have hk6 := hid n2; clear n2)
    | (go_at_call 8; (with_reducible refine (HC2.out w4 (HL.out.below G4.out)).mono ?_); rintro e w5 ⟨n2, A2, c2, B2, e2, hn2, _, rfl, ow2, _, g5⟩; obtain rfl : n2 = 2 := hn2.symm; have G5 := hid (G4.out.trans (g5.mono G4.out.size)); have O5 := hid ow2; have n2 := hn2; clear g5 ow2 hn2)
    | (refine Sh.wp_sv plS (x := ⟨0, 0⟩) rfl (.tmp 10) (.tmp 37) rfl rfl (by rfl) q3 ?_; intro w4 q4 b4 o4 _; have G4 := hid (G3.out.trans ((b3'.trans (b4.mono (Nat.le_refl _))).mono G3.out.size)); obtain ⟨g, rfl, hg1, hg2, hc⟩ := (O3.out.below (b3'.trans (b4.mono (Nat.le_refl _)))).cells (by omega); have c2 : w4.cell? ⟨g, 2, none⟩ = some (.int .i64 n) := hc 2 _ rfl; have c3 : w4.cell? ⟨g, 3, none⟩ = some (.bool false) := hc 3 _ rfl; have c6 : w4.cell? ⟨g, 6, none⟩ = some (.int .i64 (n * 1000000)) := hc 6 _ rfl; have c7 : w4.cell? ⟨g, 7, none⟩ = some (.bool true) := hc 7 _ rfl; clear q3 q4 b3' b4 o4 hc hg1)
    | (refine Sh.wp_al plS rfl rfl ?_; intro w3' q3 b3' _; have hk3 := hid n1; clear n1)
    | (go_at_call 8; (with_reducible refine (HC1.out w2 (HL.out.below G2.out)).mono ?_); rintro e w3 ⟨n1, A1, c1, B1, e1, hn1, _, rfl, ow1, _, g3⟩; obtain rfl : n1 = 2 := hn1.symm; have G3 := hid (G2.out.trans (g3.mono G2.out.size)); have O3 := hid ow1; have n1 := hn1; clear g3 ow1 hn1)
    | (go_at_call 11; refine (HX.out w1 (HL.out.below G1.out)).mono ?_; rintro e w2 ⟨rfl, g2⟩; have G2 := hid (G1.out.trans (g2.mono G1.out.size)); clear g2))
  go_ret
  exact ⟨rfl, G7.out⟩
theorem numbers_row (n k : Int) (w : World) (hL : LaidW w) (h0 : -2147483648 ≤ n) (h1 : n ≤ 2147483647) (h2 : 0 ≤ k) (h3 : k ≤ 255) :
    Calls Tryd.prog 5 #[.int .i32 n, .int .u8 k] w fun e w' => e = .returned (.bool true) ∧ Below w.heap.size w w' := by
  obtain ⟨m, rfl⟩ := Int.eq_ofNat_of_zero_le h2
  exact numbers_yes n m w hL h0 h1 (by omega)
end Go.Proofs.YtfdieablcffdkaaDoor
