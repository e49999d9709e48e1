/-
  What fta.Trim, fta.Average, fta.Spread and fta.Correct answer, of numbers in a slice that reads as a list: what is left of them, their mean, how far apart they are. What is asked stands in each head.
-/
import Derived.Test.YteccfocngpdnnaaC
import Derived.BigQuiet
namespace Go.Proofs.Yteccfocngpdnnaa
open Go Go.RowKit

theorem sv_cut (l : List Int) (i j : Nat) : ((sv l).take i).drop j = sv ((l.take i).drop j) := by simp [sv, List.map_take, List.map_drop]
theorem trim_ok (A : Option Addr) (n c B : Nat) (l : List Int) (w : World) (ha : Row w B A n (sv l)) (hB : B ≤ w.heap.size) (hn : n ≤ 64) :
    Calls Try.prog 10 #[.slice A n c] w fun e w' => ∃ A' k c', e = .returned (.tuple #[.slice A' k c', .int .i64 0]) ∧ k = (kept l).length ∧ Row w' w'.heap.size A' k (sv (kept l)) ∧ Below w.heap.size w w' := by
  have hl : l.length = n := by have := ha.1; rwa [sv_len] at this
  have HL := hid hl
  have HA := hid ha
  have HK := hid (kept_len l)
  clear ha hl
  by_cases h2 : 2 < n
  · have HKK : Hid (kept l = ((srt l).take (n - 1)).drop 1) := hid (by unfold kept; rw [HL.out, if_pos h2])
    have HKL : Hid (n - 1 - 1 = (kept l).length) := hid (by rw [HK.out, HL.out, if_pos h2]; omega)
    clear HK
    go_enter Try.func10, Try.ntmps10
    go_wp2_with (first
      | (go_at_call 15; (with_reducible refine (clone_any A n c B l w HA.out hB (by omega)).mono ?_); rintro e w1 ⟨A1, c1, rfl, own1, bel1⟩; have O1 := hid own1; have B1 := hid bel1; have hb1 := bel1.size; have hcap := own1.cap; clear own1 bel1)
      | (go_at_call 16; (with_reducible refine (sort_any w.heap.size n c1 A1 l w1 O1.out (by omega)).mono ?_); rintro e w2 ⟨rfl, own2, bel2⟩; have O2 := hid own2; have B2 := hid (B1.out.trans bel2); clear own2 bel2))
    go_ret2
    have RC := O2.out.row.cut (l := 1) (r := n - 1) (by omega) (by omega) hcap
    rw [if_neg (by omega), sv_cut, HKK.out.symm] at RC
    obtain ⟨g, rfl, _⟩ := O2.out.some (by omega)
    refine ⟨_, _, _, rfl, HKL.out, ?_, B2.out⟩
    simpa [plain_add] using RC
  · have HKK : Hid (kept l = srt l) := hid (by unfold kept; rw [HL.out, if_neg h2])
    have HKL : Hid (n = (kept l).length) := hid (by rw [HK.out, HL.out, if_neg h2])
    clear HK
    go_enter Try.func10, Try.ntmps10
    go_wp2_with (first
      | (go_at_call 15; (with_reducible refine (clone_any A n c B l w HA.out hB (by omega)).mono ?_); rintro e w1 ⟨A1, c1, rfl, own1, bel1⟩; have O1 := hid own1; have B1 := hid bel1; have hb1 := bel1.size; have hcap := own1.cap; clear own1 bel1)
      | (go_at_call 16; (with_reducible refine (sort_any w.heap.size n c1 A1 l w1 O1.out (by omega)).mono ?_); rintro e w2 ⟨rfl, own2, bel2⟩; have O2 := hid own2; have B2 := hid (B1.out.trans bel2); clear own2 bel2))
    go_ret2
    exact ⟨A1, n, c1, rfl, HKL.out, by rw [HKK.out]; exact O2.out.row, B2.out⟩
theorem trim_full (A : Option Addr) (n c : Nat) (w : World) (hn : 64 < n) (hb : n ≤ 4611686018427387904) :
    Calls Try.prog 10 #[.slice A n c] w fun e w' => e = .returned (.tuple #[.slice none 0 0, .int .i64 7]) ∧ w' = w := by
  go_enter Try.func10, Try.ntmps10
  go_wp2
  go_ret2
  exact ⟨rfl, rfl⟩
/-- What Average answers. -/
def mean (l : List Int) : Int := if 64 < l.length then 0 else if l = [] then 0 else avg l
def meanE (l : List Int) : Int := if 64 < l.length then 7 else if l = [] then 8 else 0
def RetM (v : Int) (E : Int) (w : World) (e : Ending) (w' : World) : Prop := e = .returned (.tuple #[.int .i64 v, .int .i64 E]) ∧ Below w.heap.size w w'
set_option maxHeartbeats 1000000 in
theorem average_any (A : Option Addr) (n c B : Nat) (l : List Int) (w : World) (ha : Row w B A n (sv l)) (hB : B ≤ w.heap.size) (hb : B64 l) (hn : n ≤ 4611686018427387904) (v E : Int) (hv : mean l = v) (hE : meanE l = E) :
    Calls Try.prog 7 #[.slice A n c] w (RetM v E w) := by
  have hl : l.length = n := by have := ha.1; rwa [sv_len] at this
  by_cases h64 : 64 < n
  · have e1 : v = 0 := by rw [← hv]; unfold mean; rw [if_pos (by omega)]
    have e2 : E = 7 := by rw [← hE]; unfold meanE; rw [if_pos (by omega)]
    subst e1; subst e2
    clear hv hE ha hb hl
    go_enter Try.func7, Try.ntmps7
    go_wp2_with (go_at_call 10; refine (trim_full A n c w h64 hn).mono ?_; rintro e w1 ⟨rfl, rfl⟩)
    go_ret2
    exact ⟨rfl, Below.refl _ _⟩
  · have HT := hid (trim_ok A n c B l w ha hB (by omega))
    by_cases h0 : l = []
    · have e1 : v = 0 := by rw [← hv]; unfold mean; rw [if_neg (by omega), if_pos h0]
      have e2 : E = 8 := by rw [← hE]; unfold meanE; rw [if_neg (by omega), if_pos h0]
      have hk : (kept l).length = 0 := by rw [h0, kept_len]; rfl
      subst e1; subst e2
      clear hv hE ha hb hl
      rw [hk] at HT
      go_enter Try.func7, Try.ntmps7
      go_wp2_with (go_at_call 10; refine (HT.out).mono ?_; rintro e w1 ⟨A1, k, c1, rfl, rfl, row1, bel1⟩; clear row1)
      go_ret2
      exact ⟨rfl, bel1⟩
    · have e1 : v = avg l := by rw [← hv]; unfold mean; rw [if_neg (by omega), if_neg h0]
      have e2 : E = 0 := by rw [← hE]; unfold meanE; rw [if_neg (by omega), if_neg h0]
      have HK := hid (kept_pos h0)
      have HL := hid hl
      have HKB : Hid (B64 (kept l)) := hid fun x hx => hb x (kept_mem hx)
      have HV : Hid (v = ((kept l).getD 0 0 + (kept l).getD ((kept l).length - 1) 0) / 2) := hid (by rw [e1]; rfl)
      subst e2
      clear hv hE ha hb hl e1
      go_enter Try.func7, Try.ntmps7
      go_upto_region 4 with (go_at_call 10; refine (HT.out).mono ?_; rintro e w1 ⟨A1, k, c1, rfl, hk, row1, bel1⟩; have HKK := hid hk; clear hk; have hk1 : 0 < k := (by rw [HKK.out]; exact HK.out); have hk2 : k ≤ 64 := (by have := kept_len l; have := HKK.out; have := HL.out; split at * <;> omega); have R1 := hid row1; have B1 := hid bel1; clear row1 bel1)
      obtain ⟨b, o, u, rfl, hbb, hu, hcell⟩ := R1.out.at_ (k := 0) hk1
      obtain rfl := sv_get (by rw [← HKK.out]; exact hk1) hu
      obtain ⟨b', o', u, e', _, hu', hcell'⟩ := R1.out.at_ (k := k - 1) (by omega)
      injection e' with e'; injection e' with e1 e2
      subst e1; subst e2
      obtain rfl := sv_get (by rw [← HKK.out]; omega) hu'
      rw [Nat.add_zero] at hcell
      rw [← HKK.out] at HV
      have X0 := getD_b64 HKB.out 0
      have Y0 := getD_b64 HKB.out (k - 1)
      generalize (kept l).getD 0 0 = x at *
      generalize (kept l).getD (k - 1) 0 = y at *
      have x1 := X0.1
      have x2 := X0.2
      have y1 := Y0.1
      have y2 := Y0.2
      have HM := hid (fun w => middle_any x y w x1 x2 y1 y2)
      have HH := hid hbb
      clear hu hu' X0 Y0 hbb
      go_upto_region 6 with fail
      have hwr : IntKind.i64.wrap ((k : Int) - 1) = ((k - 1 : Nat) : Int) := by rw [IntKind.wrap_i64]; omega
      have hj : k - 1 < k := by omega
      generalize k - 1 = j at *
      have hj0 : (0 : Int) ≤ (j : Int) := by omega
      have hj2 : (j : Int) < (k : Int) := by omega
      go_quiet (first | (go_at_call 11; exact Calls.quiet_of_same (HM.out _)))
      go_wp2_with fail
      go_ret2
      exact ⟨by rw [HV.out]; rfl, B1.out.trans ⟨rfl, rfl, rfl, Nat.le_refl _, fun _ _ => rfl⟩⟩
theorem apart_eq (M m : Int) (h0 : m ≤ M) (m0 : -9223372036854775808 ≤ m) (M1 : M ≤ 9223372036854775807) : IntKind.u64.wrap (IntKind.u64.wrap M - IntKind.u64.wrap m) = M - m := by
  rw [IntKind.wrap_u64, IntKind.wrap_u64, IntKind.wrap_u64]; omega
/-- What Spread answers. -/
def far (l : List Int) : Int := if 64 < l.length then 0 else if l = [] then 0 else mx l - mn l
def RetU (v : Int) (E : Int) (w : World) (e : Ending) (w' : World) : Prop := e = .returned (.tuple #[.int .u64 v, .int .i64 E]) ∧ w' = w
set_option maxHeartbeats 1000000 in
theorem spread_any (A : Option Addr) (n c B : Nat) (l : List Int) (w : World) (ha : Row w B A n (sv l)) (hb : B64 l) (hn : n ≤ 4611686018427387904) (v E : Int) (hv : far l = v) (hE : meanE l = E) :
    Calls Try.prog 8 #[.slice A n c] w (RetU v E w) := by
  have hl : l.length = n := by have := ha.1; rwa [sv_len] at this
  by_cases h64 : 64 < n
  · have e1 : v = 0 := by rw [← hv]; unfold far; rw [if_pos (by omega)]
    have e2 : E = 7 := by rw [← hE]; unfold meanE; rw [if_pos (by omega)]
    subst e1; subst e2
    clear hv hE ha hb hl
    go_enter Try.func8, Try.ntmps8
    go_wp2
    go_ret2
    exact ⟨rfl, rfl⟩
  · by_cases h0 : l = []
    · have e1 : v = 0 := by rw [← hv]; unfold far; rw [if_neg (by omega), if_pos h0]
      have e2 : E = 8 := by rw [← hE]; unfold meanE; rw [if_neg (by omega), if_pos h0]
      have e3 : n = 0 := by rw [← hl, h0]; rfl
      subst e1; subst e2; subst e3
      clear hv hE ha hb hl
      go_enter Try.func8, Try.ntmps8
      go_wp2
      go_ret2
      exact ⟨rfl, rfl⟩
    · have e1 : v = mx l - mn l := by rw [← hv]; unfold far; rw [if_neg (by omega), if_neg h0]
      have e2 : E = 0 := by rw [← hE]; unfold meanE; rw [if_neg (by omega), if_neg h0]
      have hp : 1 ≤ n := by
        have := List.length_pos_iff.2 h0
        omega
      have HX := hid (max_any A n c B l w ha hb hp (by omega))
      have HN := hid (min_any A n c B l w ha hb hp (by omega))
      have hM := hb _ (mx_mem h0)
      have hm := hb _ (mn_mem h0)
      have hle := mn_le (mx_mem h0)
      have HV := hid e1
      subst e2
      clear hv hE ha hb hl e1 h0
      generalize mx l = M at *
      generalize mn l = m at *
      have hap := apart_eq M m hle hm.1 hM.2
      clear hM hm hle
      go_enter Try.func8, Try.ntmps8
      go_wp2_with (first
        | (go_at_call 12; (with_reducible refine (HX.out).mono ?_); rintro e w1 ⟨rfl, rfl⟩)
        | (go_at_call 13; (with_reducible refine (HN.out).mono ?_); rintro e w1 ⟨rfl, rfl⟩))
      go_ret2
      exact ⟨by rw [HV.out]; rfl, rfl⟩
/-- What Correct answers. -/
def corr (win : Int) (l : List Int) : Int := if win < 0 then 0 else if 64 < l.length then 0 else if l = [] then 0 else min (max (avg l) (-win)) win
def corrE (win : Int) (l : List Int) : Int := if win < 0 then 1 else if 64 < l.length then 7 else 0
theorem avg_b64 {l : List Int} (h0 : l ≠ []) (h : B64 l) : -9223372036854775808 ≤ avg l ∧ avg l ≤ 9223372036854775807 := avg_within h0 h
set_option maxHeartbeats 1000000 in
theorem correct_any (win : Int) (A : Option Addr) (n c B : Nat) (l : List Int) (w : World) (ha : Row w B A n (sv l)) (hB : B ≤ w.heap.size) (hb : B64 l) (hn : n ≤ 4611686018427387904) (g0 : -9223372036854775808 ≤ win) (g1 : win ≤ 9223372036854775807)
    (v E : Int) (hv : corr win l = v) (hE : corrE win l = E) :
    Calls Try.prog 9 #[.int .i64 win, .slice A n c] w (RetM v E w) := by
  have hl : l.length = n := by have := ha.1; rwa [sv_len] at this
  by_cases hw : win < 0
  · have e1 : v = 0 := by rw [← hv]; unfold corr; rw [if_pos hw]
    have e2 : E = 1 := by rw [← hE]; unfold corrE; rw [if_pos hw]
    subst e1; subst e2
    clear hv hE ha hb hl
    go_enter Try.func9, Try.ntmps9
    go_wp2
    go_ret2
    exact ⟨rfl, Below.refl _ _⟩
  · by_cases h64 : 64 < n
    · have e1 : v = 0 := by rw [← hv]; unfold corr; rw [if_neg hw, if_pos (by omega)]
      have e2 : E = 7 := by rw [← hE]; unfold corrE; rw [if_neg hw, if_pos (by omega)]
      have HA := hid (average_any A n c B l w ha hB hb hn 0 7 (by unfold mean; rw [if_pos (by omega)]) (by unfold meanE; rw [if_pos (by omega)]))
      subst e1; subst e2
      clear hv hE ha hb hl
      go_enter Try.func9, Try.ntmps9
      go_wp2_with (go_at_call 7; refine (HA.out).mono ?_; rintro e w1 ⟨rfl, bel1⟩)
      go_ret2
      exact ⟨rfl, bel1⟩
    · by_cases h0 : l = []
      · have e1 : v = 0 := by rw [← hv]; unfold corr; rw [if_neg hw, if_neg (by omega), if_pos h0]
        have e2 : E = 0 := by rw [← hE]; unfold corrE; rw [if_neg hw, if_neg (by omega)]
        have HA := hid (average_any A n c B l w ha hB hb hn 0 8 (by unfold mean; rw [if_neg (by omega), if_pos h0]) (by unfold meanE; rw [if_neg (by omega), if_pos h0]))
        subst e1; subst e2
        clear hv hE ha hb hl
        go_enter Try.func9, Try.ntmps9
        go_wp2_with (go_at_call 7; refine (HA.out).mono ?_; rintro e w1 ⟨rfl, bel1⟩)
        go_ret2
        exact ⟨rfl, bel1⟩
      · have HV : Hid (v = min (max (avg l) (-win)) win) := hid (by rw [← hv]; unfold corr; rw [if_neg hw, if_neg (by omega), if_neg h0])
        have e2 : E = 0 := by rw [← hE]; unfold corrE; rw [if_neg hw, if_neg (by omega)]
        have HA := hid (average_any A n c B l w ha hB hb hn (avg l) 0 (by unfold mean; rw [if_neg (by omega), if_neg h0]) (by unfold meanE; rw [if_neg (by omega), if_neg h0]))
        have hab := avg_b64 h0 hb
        subst e2
        clear hv hE ha hb hl h0
        generalize avg l = m at *
        have HC := hid (fun w => clip_any m win w hab.1 hab.2 g0 g1)
        rw [if_neg hw] at HC
        go_enter Try.func9, Try.ntmps9
        go_wp2_with (first
          | (go_at_call 7; (with_reducible refine (HA.out).mono ?_); rintro e w1 ⟨rfl, bel1⟩)
          | (go_at_call 14; (with_reducible refine (HC.out _).mono ?_); rintro e w2 ⟨rfl, rfl⟩))
        go_ret2
        exact ⟨by rw [HV.out]; rfl, bel1⟩
end Go.Proofs.Yteccfocngpdnnaa
