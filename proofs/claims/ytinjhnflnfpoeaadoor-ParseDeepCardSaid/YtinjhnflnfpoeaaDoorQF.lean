/-
  The walk of ParseDeep: it is true; under: the tables hold what the program lays (LaidW).
-/
import Derived.Test.YtinjhnflnfpoeaaDoorQE
namespace Go.Proofs.YtinjhnflnfpoeaaDoor
open Go Go.RowKit Go.Joins

theorem repD_len (x : List UInt8) (n : Nat) : (repD x n).length = n * x.length := by
  induction n with
  | zero => simp [repD]
  | succ n ih => rw [repD, List.length_append, ih, Nat.add_mul]; omega
theorem app_list (S T : ByteArray) : (S ++ T).data.toList = S.data.toList ++ T.data.toList := by
  rw [ByteArray.data_append, Array.toList_append]

set_option maxHeartbeats 4000000 in
set_option maxRecDepth 100000 in
theorem deep_any (d u : Nat) (w : World) (hL : LaidW w) (hd : d < 256) (hu : u < 256) :
    Calls Tryd.prog 4 #[.int .u8 d, .int .u8 u] w fun e w' => e = .returned (.bool true) ∧ Below w.heap.size w w' := by
  have HV := hid (live_any w hL)
  have HL := hid hL
  obtain ⟨n, hn⟩ : ∃ n, d % 9 = n := ⟨_, rfl⟩
  obtain ⟨k, hk⟩ : ∃ k, u % 12 = k := ⟨_, rfl⟩
  have hn9 : n < 9 := by omega
  have hdn : (d : Int) % 9 = (n : Int) := by omega
  have huk : (u : Int) % 12 = (k : Int) := by omega
  have hk12 : k < 12 := by omega
  clear hL
  go_enter Tryd.func4, Tryd.ntmps4
  go_wp2_with (first
    | (go_at_call 5; refine HV.out.mono ?_; rintro e w1 ⟨rfl, g1⟩; have G1 := hid g1; clear g1))
  have HN9 := hid hn9
  clear hn hk
  go_loopw [7, 23] (fun v7 v23 wr => ∃ (i : Nat) (S : ByteArray), v7 = .string S ∧ v23 = .int .i64 (i : Int) ∧ i ≤ n ∧ S.data.toList = repD [97, 123] i ∧ wr = w1) (fun _ v23 _ => n - (intOf v23).toNat)
  case atStart => exact ⟨0, ⟨#[]⟩, rfl, rfl, Nat.zero_le _, rfl, rfl⟩
  case round =>
    obtain ⟨i, S, rfl, rfl, hi, hS, rfl⟩ := hrel
    have hsz : S.size ≤ 100 := by show S.data.toList.length ≤ _; rw [hS, repD_len]; simp; omega
    by_cases hlt : i < n
    · have HS := hid (show (S ++ ⟨#[97, 123]⟩).data.toList = repD [97, 123] (i + 1) by rw [app_list, hS]; rfl)
      clear hS
      go_wp2
      exact ⟨⟨i + 1, _, rfl, by go_num, by omega, HS.out, trivial⟩, by simp [intOf]; omega⟩
    · obtain rfl : i = n := by omega
      have HS := hid hS
      clear hS
      obtain ⟨w1, hw1⟩ : ∃ w1, w1 = wr := ⟨_, rfl⟩
      subst hw1
      have hbs : (S ++ ⟨#[98, 59]⟩ : ByteArray).size ≤ 100 := by rw [ByteArray.size_append]; have : (⟨#[98, 59]⟩ : ByteArray).size = 2 := rfl; have : S.size = i * 2 := (by show S.data.toList.length = _; rw [HS.out, repD_len]; rfl); omega
      go_wp2
      go_loopw [7, 31] (fun v7 v31 wr => ∃ (j : Nat) (T : ByteArray), v7 = .string T ∧ v31 = .int .i64 (j : Int) ∧ j ≤ i ∧ T.data.toList = (repD [97, 123] i ++ [98, 59]) ++ repD [125] j ∧ wr = w1) (fun _ v31 _ => i - (intOf v31).toNat)
      case atStart => exact ⟨0, _, rfl, rfl, Nat.zero_le _, by rw [app_list, HS.out]; simp [repD], rfl⟩
      case round =>
        obtain ⟨j, T, rfl, rfl, hj, hT, rfl⟩ := hrel
        have hszT : T.size ≤ 100 := by show T.data.toList.length ≤ _; rw [hT, List.length_append, List.length_append, repD_len, repD_len]; simp; have := HN9.out; omega
        by_cases hlt2 : j < i
        · have HT := hid (show (T ++ ⟨#[125]⟩).data.toList = (repD [97, 123] i ++ [98, 59]) ++ repD [125] (j + 1) by rw [app_list, hT]; simp [repD])
          clear hT
          go_wp2
          exact ⟨⟨j + 1, _, rfl, by go_num, by omega, HT.out, trivial⟩, by simp [intOf]; omega⟩
        · obtain rfl : j = i := by omega
          have hT : T.data.toList = txtD j := hT
          obtain ⟨w1, hw1⟩ : ∃ w1, w1 = wr := ⟨_, rfl⟩
          subst hw1
          have HP := parse_any T w1 (HL.out.below G1.out) (by omega)
          rw [hT] at HP
          clear hT HS hszT hsz hbs
          by_cases h5 : j ≤ 5
          · obtain ⟨F, hF, hF1, hF2⟩ := deep_ok hn9 h5
            rw [hF] at HP
            have HP := hid HP
            have HF := hid (And.intro hF1 hF2)
            have hj5 : (j : Int) ≤ 5 := by omega
            clear hF hF1 hF2 hi hlt hj hlt2 h5 hn9
            go_upto_region 21 with (first
            | (go_at_call 8; have h9 := count_any F w5 _ A m c (T2.out.below (B24.out.trans (B45.out.mono B24.out.size))) (by rw [HF.out.2]; omega); rw [HF.out.2] at h9; (with_reducible refine h9.mono ?_); rintro e w6 ⟨rfl, b6⟩; have BW := hid (B5.out.trans (b6.mono B5.out.size)); clear b6)
            | (go_at_call 10; have h9 := depth_any F w4 _ A m c (T2.out.below B24.out) (by rw [HF.out.2]; omega); rw [HF.out.1] at h9; (with_reducible refine h9.mono ?_); rintro e w5 ⟨rfl, b5⟩; have B45 := hid b5; have B5 := hid (B4.out.trans (b5.mono B4.out.size)); clear b5)
            | (refine Sh.wp_sv plS (x := ⟨0, 0⟩) rfl (.tmp 9) (.tmp 40) rfl rfl (by rfl) q3 ?_; intro w4 q4 b4 o4 s4; have B24 := hid (B23.out.trans (b4.mono (Nat.le_refl _))); have B4 := hid (B2.out.trans (B24.out.mono B2.out.size)); clear q3 b4 o4 s4 q4)
            | (have hk0 := B2.out; clear hk0; refine Sh.wp_al plS rfl rfl ?_; intro w3 q3 b3 s3; have B23 := hid b3; clear b3 s3)
            | (go_at_call 6; refine HP.out.mono ?_; rintro e w2 ⟨b2, A, m, c, rfl, t2⟩; have B2 := hid (G1.out.trans (b2.mono G1.out.size)); have B12 := hid b2; have T2 := hid t2; clear b2 t2))
            generalize w6 = W at *
            clear HP
            go_wp2
            go_loopw [12, 72] (fun v12 v72 wr => ∃ (i : Nat) (S : ByteArray), v12 = .string S ∧ v72 = .int .i64 (i : Int) ∧ i ≤ k ∧ S.data.toList = [119] ++ repD [32, 49] i ∧ wr = W) (fun _ v72 _ => k - (intOf v72).toNat)
            case atStart => exact ⟨0, _, rfl, rfl, Nat.zero_le _, rfl, rfl⟩
            case round =>
              obtain ⟨i, S, rfl, rfl, hi, hS, rfl⟩ := hrel
              have hsz : S.size ≤ 100 := by show S.data.toList.length ≤ _; rw [hS, List.length_append, repD_len]; simp; omega
              by_cases hlt : i < k
              · have HS := hid (show (S ++ ⟨#[32, 49]⟩).data.toList = [119] ++ repD [32, 49] (i + 1) by rw [app_list, hS]; simp [repD])
                clear hS
                go_wp2
                exact ⟨⟨i + 1, _, rfl, by go_num, by omega, HS.out, trivial⟩, by simp [intOf]; omega⟩
              · obtain rfl : i = k := by omega
                obtain ⟨W, hW⟩ : ∃ W, W = wr := ⟨_, rfl⟩
                subst hW
                have hT : (S ++ ⟨#[59]⟩ : ByteArray).data.toList = txtN i := by rw [app_list, hS]; rfl
                have hsz2 : (S ++ ⟨#[59]⟩ : ByteArray).size ≤ 101 := by rw [ByteArray.size_append]; have : (⟨#[59]⟩ : ByteArray).size = 1 := rfl; omega
                generalize hU : S ++ (⟨#[59]⟩ : ByteArray) = U at *
                have HP := parse_any U W (HL.out.below BW.out) (by omega)
                rw [hT] at HP
                clear hT hS
                by_cases h8 : i ≤ 8
                · obtain ⟨F3, hF, hF1, hF2⟩ := nums_ok hk12 h8
                  rw [hF] at HP
                  have HP := hid HP
                  have HF3 := hid (And.intro hF1 hF2)
                  have hj8 : (i : Int) ≤ 8 := by omega
                  clear hF hF1 hF2 hi hlt h8 hk12
                  go_upto_region 28 with (first
                    | (refine Sh.wp_sv plS (x := ⟨0, 0⟩) rfl (.tmp 14) (.tmp 82) rfl rfl (by rfl) q9 ?_; intro wa qa ba oa sa; have Bda := hid (Bd9.out.trans (ba.mono (Nat.le_refl _))); have Ba := hid (Bd.out.trans (Bda.out.mono Bd.out.size)); clear q9 ba oa sa qa)
                    | (have hk0 := Bd.out; clear hk0; refine Sh.wp_al plS rfl rfl ?_; intro w9 q9 b9 s9; have Bd9 := hid b9; clear b9 s9)
                    | (go_at_call 6; refine HP.out.mono ?_; rintro e wd ⟨bd, A3, m3, c3, rfl, t3⟩; have Bd := hid (BW.out.trans (bd.mono BW.out.size)); have T3 := hid t3; clear bd t3))
                  obtain ⟨xs, hx, htr⟩ := T3.out.below Bda.out
                  obtain ⟨⟩ | ⟨wd3, ns, bl, y, nx⟩ := F3
                  · have := HF3.out.1; simp [Fo.len] at this
                  obtain ⟨x, xs', rfl, _, _, hns, _, hnx⟩ := htr
                  have hnl : nx = .nil := by have := HF3.out.1; cases nx with | nil => rfl | cons _ _ _ _ _ => simp [Fo.len] at this
                  rw [hnl] at hnx
                  have hxs : xs' = [] := hnx
                  rw [hxs] at hx
                  obtain rfl : m3 = 1 := hx.1.symm
                  obtain ⟨b5, o5, rfl, hb5, hc5⟩ := hx.cells (by omega)
                  have hxn : x.nn = i := by rw [← hns.1]; exact HF3.out.2
                  have y1 : wa.cell? ⟨b5, o5 + 1, none⟩ = some (.slice x.nA i x.nc) := by rw [← hxn]; exact hc5 1 _ rfl
                  clear hx hns hnx hc5 hb5 hxn hxs hnl
                  go_wp2_with fail
                  go_ret
                  exact ⟨rfl, Ba.out⟩
                · rw [nums_no hk12 h8] at HP
                  have HP := hid HP
                  have hj8 : ¬ (i : Int) ≤ 8 := by omega
                  have hj9 : (8 : Int) < i := by omega
                  clear hi hlt h8 hk12
                  go_upto_region 28 with (first
                    | (refine Sh.wp_sv plS (x := ⟨1, 19⟩) rfl (.tmp 14) (.tmp 82) rfl rfl (by rfl) q9 ?_; intro wa qa ba oa sa; have Bda := hid (Bd9.out.trans (ba.mono (Nat.le_refl _))); have Ba := hid (Bd.out.trans (Bda.out.mono Bd.out.size)); have y0 : wa.cell? ⟨wd.heap.size, 0, none⟩ = some (.int .i64 1) := qa.cell (j := 0) rfl; have y1 : wa.cell? ⟨wd.heap.size, 1, none⟩ = some (.int .i64 19) := qa.cell (j := 1) rfl; clear q9 ba oa sa qa)
                    | (have hk0 := Bd.out; clear hk0; refine Sh.wp_al plS rfl rfl ?_; intro w9 q9 b9 s9; have Bd9 := hid b9; clear b9 s9)
                    | (go_at_call 6; refine HP.out.mono ?_; rintro e wd ⟨bd, _, rfl⟩; have Bd := hid (BW.out.trans (bd.mono BW.out.size)); clear bd))
                  go_wp2_with fail
                  go_ret
                  exact ⟨rfl, Ba.out⟩
          · rw [deep_no hn9 h5] at HP
            have HP := hid HP
            have hj6 : ¬ (j : Int) ≤ 5 := by omega
            have hj7 : (5 : Int) < j := by omega
            clear hi hlt hj hlt2 h5 hn9
            go_upto_region 21 with (first
            | (refine Sh.wp_sv plS (x := ⟨1, 12⟩) rfl (.tmp 9) (.tmp 40) rfl rfl (by rfl) q3 ?_; intro w4 q4 b4 o4 s4; have B24 := hid (B23.out.trans (b4.mono (Nat.le_refl _))); have BW := hid (B2.out.trans (B24.out.mono B2.out.size)); have y0 : w4.cell? ⟨w2.heap.size, 0, none⟩ = some (.int .i64 1) := q4.cell (j := 0) rfl; have y1 : w4.cell? ⟨w2.heap.size, 1, none⟩ = some (.int .i64 12) := q4.cell (j := 1) rfl; clear q3 b4 o4 s4 q4)
            | (have hk0 := B2.out; clear hk0; refine Sh.wp_al plS rfl rfl ?_; intro w3 q3 b3 s3; have B23 := hid b3; clear b3 s3)
            | (go_at_call 6; refine HP.out.mono ?_; rintro e w2 ⟨b2, _, rfl⟩; have B2 := hid (G1.out.trans (b2.mono G1.out.size)); have B12 := hid b2; clear b2))
            clear y0 y1
            generalize w4 = W at *
            clear HP
            go_wp2
            go_loopw [12, 72] (fun v12 v72 wr => ∃ (i : Nat) (S : ByteArray), v12 = .string S ∧ v72 = .int .i64 (i : Int) ∧ i ≤ k ∧ S.data.toList = [119] ++ repD [32, 49] i ∧ wr = W) (fun _ v72 _ => k - (intOf v72).toNat)
            case atStart => exact ⟨0, _, rfl, rfl, Nat.zero_le _, rfl, rfl⟩
            case round =>
              obtain ⟨i, S, rfl, rfl, hi, hS, rfl⟩ := hrel
              have hsz : S.size ≤ 100 := by show S.data.toList.length ≤ _; rw [hS, List.length_append, repD_len]; simp; omega
              by_cases hlt : i < k
              · have HS := hid (show (S ++ ⟨#[32, 49]⟩).data.toList = [119] ++ repD [32, 49] (i + 1) by rw [app_list, hS]; simp [repD])
                clear hS
                go_wp2
                exact ⟨⟨i + 1, _, rfl, by go_num, by omega, HS.out, trivial⟩, by simp [intOf]; omega⟩
              · obtain rfl : i = k := by omega
                obtain ⟨W, hW⟩ : ∃ W, W = wr := ⟨_, rfl⟩
                subst hW
                have hT : (S ++ ⟨#[59]⟩ : ByteArray).data.toList = txtN i := by rw [app_list, hS]; rfl
                have hsz2 : (S ++ ⟨#[59]⟩ : ByteArray).size ≤ 101 := by rw [ByteArray.size_append]; have : (⟨#[59]⟩ : ByteArray).size = 1 := rfl; omega
                generalize hU : S ++ (⟨#[59]⟩ : ByteArray) = U at *
                have HP := parse_any U W (HL.out.below BW.out) (by omega)
                rw [hT] at HP
                clear hT hS
                by_cases h8 : i ≤ 8
                · obtain ⟨F3, hF, hF1, hF2⟩ := nums_ok hk12 h8
                  rw [hF] at HP
                  have HP := hid HP
                  have HF3 := hid (And.intro hF1 hF2)
                  have hj8 : (i : Int) ≤ 8 := by omega
                  clear hF hF1 hF2 hi hlt h8 hk12
                  go_upto_region 28 with (first
                    | (refine Sh.wp_sv plS (x := ⟨0, 0⟩) rfl (.tmp 14) (.tmp 82) rfl rfl (by rfl) q9 ?_; intro wa qa ba oa sa; have Bda := hid (Bd9.out.trans (ba.mono (Nat.le_refl _))); have Ba := hid (Bd.out.trans (Bda.out.mono Bd.out.size)); clear q9 ba oa sa qa)
                    | (have hk0 := Bd.out; clear hk0; refine Sh.wp_al plS rfl rfl ?_; intro w9 q9 b9 s9; have Bd9 := hid b9; clear b9 s9)
                    | (go_at_call 6; refine HP.out.mono ?_; rintro e wd ⟨bd, A3, m3, c3, rfl, t3⟩; have Bd := hid (BW.out.trans (bd.mono BW.out.size)); have T3 := hid t3; clear bd t3))
                  obtain ⟨xs, hx, htr⟩ := T3.out.below Bda.out
                  obtain ⟨⟩ | ⟨wd3, ns, bl, y, nx⟩ := F3
                  · have := HF3.out.1; simp [Fo.len] at this
                  obtain ⟨x, xs', rfl, _, _, hns, _, hnx⟩ := htr
                  have hnl : nx = .nil := by have := HF3.out.1; cases nx with | nil => rfl | cons _ _ _ _ _ => simp [Fo.len] at this
                  rw [hnl] at hnx
                  have hxs : xs' = [] := hnx
                  rw [hxs] at hx
                  obtain rfl : m3 = 1 := hx.1.symm
                  obtain ⟨b5, o5, rfl, hb5, hc5⟩ := hx.cells (by omega)
                  have hxn : x.nn = i := by rw [← hns.1]; exact HF3.out.2
                  have y1 : wa.cell? ⟨b5, o5 + 1, none⟩ = some (.slice x.nA i x.nc) := by rw [← hxn]; exact hc5 1 _ rfl
                  clear hx hns hnx hc5 hb5 hxn hxs hnl
                  go_wp2_with fail
                  go_ret
                  exact ⟨rfl, Ba.out⟩
                · rw [nums_no hk12 h8] at HP
                  have HP := hid HP
                  have hj8 : ¬ (i : Int) ≤ 8 := by omega
                  have hj9 : (8 : Int) < i := by omega
                  clear hi hlt h8 hk12
                  go_upto_region 28 with (first
                    | (refine Sh.wp_sv plS (x := ⟨1, 19⟩) rfl (.tmp 14) (.tmp 82) rfl rfl (by rfl) q9 ?_; intro wa qa ba oa sa; have Bda := hid (Bd9.out.trans (ba.mono (Nat.le_refl _))); have Ba := hid (Bd.out.trans (Bda.out.mono Bd.out.size)); have y0 : wa.cell? ⟨wd.heap.size, 0, none⟩ = some (.int .i64 1) := qa.cell (j := 0) rfl; have y1 : wa.cell? ⟨wd.heap.size, 1, none⟩ = some (.int .i64 19) := qa.cell (j := 1) rfl; clear q9 ba oa sa qa)
                    | (have hk0 := Bd.out; clear hk0; refine Sh.wp_al plS rfl rfl ?_; intro w9 q9 b9 s9; have Bd9 := hid b9; clear b9 s9)
                    | (go_at_call 6; refine HP.out.mono ?_; rintro e wd ⟨bd, _, rfl⟩; have Bd := hid (BW.out.trans (bd.mono BW.out.size)); clear bd))
                  go_wp2_with fail
                  go_ret
                  exact ⟨rfl, Ba.out⟩
theorem deep_row (d u : Int) (w : World) (hL : LaidW w) (h0 : 0 ≤ d) (h1 : d ≤ 255) (h2 : 0 ≤ u) (h3 : u ≤ 255) :
    Calls Tryd.prog 4 #[.int .u8 d, .int .u8 u] w fun e w' => e = .returned (.bool true) ∧ Below w.heap.size w w' := by
  have := deep_any d.toNat u.toNat w hL (by omega) (by omega)
  rwa [Int.toNat_of_nonneg h0, Int.toNat_of_nonneg h2] at this
end Go.Proofs.YtinjhnflnfpoeaaDoor
