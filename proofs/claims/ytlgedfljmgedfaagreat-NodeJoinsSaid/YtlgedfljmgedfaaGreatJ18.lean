/-
  Texts Tb of this seat, as far as they are used.
-/
import Derived.Test.YtlgedfljmgedfaaGreatJ1
import Derived.Test.YtlgedfljmgedfaaGreatJ17
import Derived.Lib.RowBridge
import Derived.Lib.SliceRun
import Derived.Lib.QuietBelow
import Derived.LoopN
import Derived.BigQuiet
namespace Go.Proofs.YtlgedfljmgedfaaGreat.T9
open Go Go.RowKit

/-- Numbers of 64 bits. -/
def B64 (l : List Int) : Prop := ∀ x ∈ l, -9223372036854775808 ≤ x ∧ x ≤ 9223372036854775807
theorem sv_get {l : List Int} {k : Nat} (hk : k < l.length) {u : Value} (h : (sv l)[k]? = some u) : u = .int .i64 (l.getD k 0) := by
  simp only [sv, List.getElem?_map, List.getElem?_eq_getElem hk] at h
  have : u = .int .i64 l[k] := by simpa using h.symm
  rw [this]; simp [List.getD, List.getElem?_eq_getElem hk]
theorem getD_b64 {l : List Int} (h : B64 l) (k : Nat) : -9223372036854775808 ≤ l.getD k 0 ∧ l.getD k 0 ≤ 9223372036854775807 := by
  by_cases hk : k < l.length
  · exact h _ (getD_mem hk)
  · simp [List.getD, List.getElem?_eq_none (by omega : l.length ≤ k)]

theorem middle_any (a b : Int) (w : World) (a0 : -9223372036854775808 ≤ a) (a1 : a ≤ 9223372036854775807) (b0 : -9223372036854775808 ≤ b) (b1 : b ≤ 9223372036854775807) :
    Calls Tryz.prog 176 #[.int .i64 a, .int .i64 b] w fun e w' => e = .returned (.int .i64 ((a + b) / 2)) ∧ w' = w := by
  have h := mid_eq a b a0 a1 b0 b1
  have hw : IntKind.i64.wrap (bits .and .i64 a b + bits .xor .i64 a b / 2) = (a + b) / 2 := by
    rw [h, IntKind.wrap_i64]; omega
  clear h
  go_enter Tryz.func176, Tryz.ntmps176
  go_wp2
  go_ret
  exact ⟨rfl, rfl⟩
theorem clip_any (n m : Int) (w : World) (_ : -9223372036854775808 ≤ n) (_ : n ≤ 9223372036854775807) (m0 : -9223372036854775808 ≤ m) (m1 : m ≤ 9223372036854775807) :
    Calls Tryz.prog 155 #[.int .i64 n, .int .i64 m] w fun e w' => e = .returned (.tuple (if m < 0 then #[.int .i64 0, .int .i64 1] else #[.int .i64 (min (max n (-m)) m), .int .i64 0])) ∧ w' = w := by
  by_cases h : m < 0
  · rw [if_pos h]
    go_enter Tryz.func155, Tryz.ntmps155
    go_wp2
    go_ret2
    exact ⟨rfl, rfl⟩
  · rw [if_neg h]
    go_enter Tryz.func155, Tryz.ntmps155
    go_wp2
    go_ret2
    exact ⟨rfl, rfl⟩
theorem clone_any (A : Option Addr) (n c B : Nat) (l : List Int) (w : World) (ha : Row w B A n (sv l)) (hB : B ≤ w.heap.size) (hn : n ≤ 100) :
    Calls Tryz.prog 121 #[.slice A n c] w fun e w' => ∃ A' c', e = .returned (.slice A' n c') ∧ Own w' w.heap.size 2 A' n c' (sv l) ∧ Below w.heap.size w w' := by
  have HA := hid ha
  have q22 : ∀ (w : World) (a : Option Addr) (n c n' c' : Nat), (binOp .eql 30 (.slice a n c) (.slice none n' c')).run Tryz.prog w = .ok (.bool a.isNone) w := fun w a n c n' c' => Lib.run_eql_slice_nil w _ _ a n c n' c' Tryz.underlying30
  cases A with
  | none =>
    have h0 : n = 0 := by
      by_cases hp : 0 < n
      · obtain ⟨b, o, e, _⟩ := ha.2 hp; cases e
      · omega
    subst h0
    have hl : l = [] := List.eq_nil_of_length_eq_zero (by have := ha.1; rwa [sv_len] at this)
    subst hl
    clear ha HA
    go_enter Tryz.func121, Tryz.ntmps121
    go_wp2
    go_ret
    exact ⟨none, 0, rfl, Own.nil _ _ _, Below.refl _ _⟩
  | some x =>
    clear ha
    go_enter Tryz.func121, Tryz.ntmps121
    go_wp2_with (at_builtin; refine wpList_app _ rfl (.tmp 5) (.tmp 6) 30 rfl w.heap.size 2 (.int .i64 0) 8 Tryz.underlying30 info2 rfl _ 0 0 [] rfl (World.ownsRow_made w #[] 0 (Nat.le_refl _) (Nat.zero_le _) rfl) B (some x) n c (sv l) rfl (HA.out.alloc hB _) (sv_one l) (by omega) (by omega) (by simp) ?_; intro A2 c2 w2 own2 bel2)
    go_ret
    rw [Nat.zero_add, List.nil_append] at own2
    exact ⟨A2, c2, rfl, own2, ((Below.refl _ w).alloc (Nat.le_refl _) _).trans bel2⟩
/-- Cells of a list set one by one. -/
def setL (xs : List Value) : Nat → List Value → List Value
  | _, [] => xs
  | o, v :: r => setL (xs.set o v) (o + 1) r
theorem setL_mid : ∀ (vs a b c : List Value), b.length = vs.length → setL (a ++ (b ++ c)) a.length vs = a ++ (vs ++ c)
  | [], a, b, c, h => by
    have : b = [] := List.eq_nil_of_length_eq_zero (by simpa using h)
    subst this; rfl
  | v :: vs, a, b, c, h => by
    obtain ⟨u, b, rfl⟩ : ∃ u b', b = u :: b' := by cases b with
      | nil => simp at h
      | cons u b => exact ⟨u, b, rfl⟩
    unfold setL
    have e : (a ++ (u :: b ++ c)).set a.length v = (a ++ [v]) ++ (b ++ c) := by
      rw [List.set_append_right _ _ (Nat.le_refl _)]; simp
    rw [e, show a.length + 1 = (a ++ [v]).length by simp, setL_mid vs (a ++ [v]) b c (by simpa using h)]
    simp
theorem setL_all (xs vs : List Value) (h : xs.length = vs.length) : setL xs 0 vs = vs := by
  have := setL_mid vs [] xs [] h
  simpa using this
theorem ownsRow_setCells {base e size g n cap : Nat} : ∀ (vs : List Value) (o : Nat) (w : World) (xs : List Value), w.ownsRow base e size (.slice (some ⟨g, 0, none⟩) n cap) n xs → base ≤ g →
    (w.setCells g o vs).ownsRow base e size (.slice (some ⟨g, 0, none⟩) n cap) n (setL xs o vs) ∧ Below base w (w.setCells g o vs)
  | [], _, w, _, h, _ => ⟨h, Below.refl _ _⟩
  | v :: r, o, w, xs, h, hb => by
    obtain ⟨a, b⟩ := ownsRow_setCells r (o + 1) _ _ (h.stored o v).1 hb
    exact ⟨a, ((Below.refl _ _).setCell (p := ⟨g, o, none⟩) hb v).trans b⟩
theorem below_grow (w : World) (os : Array Obj) : Below w.heap.size w (Sort.grow w os) := below_regrown w w.drawn os
theorem Own.some {w : World} {base n c : Nat} {e : TypeId} {A : Option Addr} {vs : List Value} (h : Own w base e A n c vs) (hn : 0 < n) : ∃ g, A = some ⟨g, 0, none⟩ ∧ base ≤ g ∧ g < w.heap.size := by
  rcases h.2 with ⟨_, h0⟩ | ⟨g, cap, cur, hv, hb, hg, _⟩
  · omega
  · injection hv with h1
    exact ⟨g, h1, hb, (Array.getElem?_eq_some_iff.1 hg).1⟩
theorem own_holds {w : World} {base g n c : Nat} {l : List Int} (h : Own w base 2 (some ⟨g, 0, none⟩) n c (sv l)) : Sort.Holds (Value.int .i64) w g 0 l.toArray := by
  intro j hj
  have hj' : j < l.length := by simpa using hj
  have hl := h.len
  rw [sv_len] at hl
  refine ⟨?_, World.ownsRow.frozenAt h _⟩
  rw [Nat.zero_add, World.ownsRow.cellAt h j (by omega)]
  simp [sv, List.getElem?_eq_getElem hj']
theorem sort_any (base n c : Nat) (A : Option Addr) (l : List Int) (w : World) (h : Own w base 2 A n c (sv l)) (hn : n ≤ 100000) :
    Calls Tryz.prog 185 #[.slice A n c] w fun e w' => e = .returned (.tuple #[]) ∧ Own w' base 2 A n c (sv (srt l)) ∧ Below base w w' := by
  have hl := h.len
  rw [sv_len] at hl
  by_cases h0 : n = 0
  · subst h0
    have hl0 : l = [] := List.eq_nil_of_length_eq_zero hl
    subst hl0
    refine (show Calls Tryz.prog 185 _ _ _ from AnyM.slices_Sort_int_none Tryz.laysSlM5_f185 A c w).mono ?_
    rintro e w' ⟨rfl, rfl⟩
    exact ⟨rfl, by simpa [srt] using h, Below.refl _ _⟩
  · obtain ⟨g, rfl, hg1, hg2⟩ := h.some (by omega)
    have hcon := AnyM.slices_Sort_int Tryz.laysSlM5_f185 g 0 c l w (own_holds h) hg2 (by omega)
    rw [hl] at hcon
    refine (show Calls Tryz.prog 185 _ _ _ from hcon).mono ?_
    rintro e w' ⟨he, q, os, hw⟩
    refine ⟨he, ?_⟩
    have hw2 : w' = Sort.grow ((w.drewN q).setCells g 0 (sv (srt l))) os := by
      rw [hw]
      have := Lib.putRow_eq_setCells (Value.int .i64) w g 0 l.toArray (srt l) q (own_holds h) (by rw [srt_len]; simp)
      exact congrArg (fun x => Sort.grow x os) this
    have hown : Own (w.drewN q) base 2 (some ⟨g, 0, none⟩) n c (sv l) := h
    obtain ⟨h1, h2⟩ := ownsRow_setCells (sv (srt l)) 0 (w.drewN q) _ hown hg1
    rw [setL_all _ _ (by rw [sv_len, sv_len, srt_len])] at h1
    have hbd : Below base w (w.drewN q) := ⟨rfl, rfl, rfl, Nat.le_refl _, fun _ _ => rfl⟩
    have hsz2 : base ≤ ((w.drewN q).setCells g 0 (sv (srt l))).heap.size := Nat.le_trans (Nat.le_trans hg1 (Nat.le_of_lt hg2)) (hbd.trans h2).size
    rw [hw2]
    exact ⟨Own.below h1 (below_grow _ os), (hbd.trans h2).trans ((below_grow _ os).mono hsz2)⟩

def maxRel (l : List Int) (w : World) (m i : Value) (wr : World) : Prop := ∃ k : Nat, 1 ≤ k ∧ k ≤ l.length ∧ m = .int .i64 (mx (l.take k)) ∧ i = .int .i64 (k : Int) ∧ wr = w
set_option maxHeartbeats 400000 in
def minRel (l : List Int) (w : World) (m i : Value) (wr : World) : Prop := ∃ k : Nat, 1 ≤ k ∧ k ≤ l.length ∧ m = .int .i64 (mn (l.take k)) ∧ i = .int .i64 (k : Int) ∧ wr = w
end Go.Proofs.YtlgedfljmgedfaaGreat.T9
namespace Go.Proofs.YtlgedfljmgedfaaGreat.T9
open Go Go.RowKit

theorem sv_cut (l : List Int) (i j : Nat) : ((sv l).take i).drop j = sv ((l.take i).drop j) := by simp [sv, List.map_take, List.map_drop]
theorem trim_ok (A : Option Addr) (n c B : Nat) (l : List Int) (w : World) (ha : Row w B A n (sv l)) (hB : B ≤ w.heap.size) (hn : n ≤ 64) :
    Calls Tryz.prog 175 #[.slice A n c] w fun e w' => ∃ A' k c', e = .returned (.tuple #[.slice A' k c', .int .i64 0]) ∧ k = (kept l).length ∧ Row w' w'.heap.size A' k (sv (kept l)) ∧ Below w.heap.size w w' := by
  have hl : l.length = n := by have := ha.1; rwa [sv_len] at this
  have HL := hid hl
  have HA := hid ha
  have HK := hid (kept_len l)
  clear ha hl
  by_cases h2 : 2 < n
  · have HKK : Hid (kept l = ((srt l).take (n - 1)).drop 1) := hid (by unfold kept; rw [HL.out, if_pos h2])
    have HKL : Hid (n - 1 - 1 = (kept l).length) := hid (by rw [HK.out, HL.out, if_pos h2]; omega)
    clear HK
    go_enter Tryz.func175, Tryz.ntmps175
    go_wp2_with (first
      | (go_at_call 121; (with_reducible refine (clone_any A n c B l w HA.out hB (by omega)).mono ?_); rintro e w1 ⟨A1, c1, rfl, own1, bel1⟩; have O1 := hid own1; have B1 := hid bel1; have hb1 := bel1.size; have hcap := own1.cap; clear own1 bel1)
      | (go_at_call 185; (with_reducible refine (sort_any w.heap.size n c1 A1 l w1 O1.out (by omega)).mono ?_); rintro e w2 ⟨rfl, own2, bel2⟩; have O2 := hid own2; have B2 := hid (B1.out.trans bel2); clear own2 bel2))
    go_ret2
    have RC := O2.out.row.cut (l := 1) (r := n - 1) (by omega) (by omega) hcap
    rw [if_neg (by omega), sv_cut, HKK.out.symm] at RC
    obtain ⟨g, rfl, _⟩ := O2.out.some (by omega)
    refine ⟨_, _, _, rfl, HKL.out, ?_, B2.out⟩
    simpa [plain_add] using RC
  · have HKK : Hid (kept l = srt l) := hid (by unfold kept; rw [HL.out, if_neg h2])
    have HKL : Hid (n = (kept l).length) := hid (by rw [HK.out, HL.out, if_neg h2])
    clear HK
    go_enter Tryz.func175, Tryz.ntmps175
    go_wp2_with (first
      | (go_at_call 121; (with_reducible refine (clone_any A n c B l w HA.out hB (by omega)).mono ?_); rintro e w1 ⟨A1, c1, rfl, own1, bel1⟩; have O1 := hid own1; have B1 := hid bel1; have hb1 := bel1.size; have hcap := own1.cap; clear own1 bel1)
      | (go_at_call 185; (with_reducible refine (sort_any w.heap.size n c1 A1 l w1 O1.out (by omega)).mono ?_); rintro e w2 ⟨rfl, own2, bel2⟩; have O2 := hid own2; have B2 := hid (B1.out.trans bel2); clear own2 bel2))
    go_ret2
    exact ⟨A1, n, c1, rfl, HKL.out, by rw [HKK.out]; exact O2.out.row, B2.out⟩
theorem trim_full (A : Option Addr) (n c : Nat) (w : World) (hn : 64 < n) (hb : n ≤ 4611686018427387904) :
    Calls Tryz.prog 175 #[.slice A n c] w fun e w' => e = .returned (.tuple #[.slice none 0 0, .int .i64 7]) ∧ w' = w := by
  go_enter Tryz.func175, Tryz.ntmps175
  go_wp2
  go_ret2
  exact ⟨rfl, rfl⟩
/-- What Average answers. -/
def mean (l : List Int) : Int := if 64 < l.length then 0 else if l = [] then 0 else avg l
def meanE (l : List Int) : Int := if 64 < l.length then 7 else if l = [] then 8 else 0
def RetM (v : Int) (E : Int) (w : World) (e : Ending) (w' : World) : Prop := e = .returned (.tuple #[.int .i64 v, .int .i64 E]) ∧ Below w.heap.size w w'
set_option maxHeartbeats 1000000 in
theorem average_any (A : Option Addr) (n c B : Nat) (l : List Int) (w : World) (ha : Row w B A n (sv l)) (hB : B ≤ w.heap.size) (hb : B64 l) (hn : n ≤ 4611686018427387904) (v E : Int) (hv : mean l = v) (hE : meanE l = E) :
    Calls Tryz.prog 154 #[.slice A n c] w (RetM v E w) := by
  have hl : l.length = n := by have := ha.1; rwa [sv_len] at this
  by_cases h64 : 64 < n
  · have e1 : v = 0 := by rw [← hv]; unfold mean; rw [if_pos (by omega)]
    have e2 : E = 7 := by rw [← hE]; unfold meanE; rw [if_pos (by omega)]
    subst e1; subst e2
    clear hv hE ha hb hl
    go_enter Tryz.func154, Tryz.ntmps154
    go_wp2_with (go_at_call 175; refine (trim_full A n c w h64 hn).mono ?_; rintro e w1 ⟨rfl, rfl⟩)
    go_ret2
    exact ⟨rfl, Below.refl _ _⟩
  · have HT := hid (trim_ok A n c B l w ha hB (by omega))
    by_cases h0 : l = []
    · have e1 : v = 0 := by rw [← hv]; unfold mean; rw [if_neg (by omega), if_pos h0]
      have e2 : E = 8 := by rw [← hE]; unfold meanE; rw [if_neg (by omega), if_pos h0]
      have hk : (kept l).length = 0 := by rw [h0, kept_len]; rfl
      subst e1; subst e2
      clear hv hE ha hb hl
      rw [hk] at HT
      go_enter Tryz.func154, Tryz.ntmps154
      go_wp2_with (go_at_call 175; refine (HT.out).mono ?_; rintro e w1 ⟨A1, k, c1, rfl, rfl, row1, bel1⟩; clear row1)
      go_ret2
      exact ⟨rfl, bel1⟩
    · have e1 : v = avg l := by rw [← hv]; unfold mean; rw [if_neg (by omega), if_neg h0]
      have e2 : E = 0 := by rw [← hE]; unfold meanE; rw [if_neg (by omega), if_neg h0]
      have HK := hid (kept_pos h0)
      have HL := hid hl
      have HKB : Hid (B64 (kept l)) := hid fun x hx => hb x (kept_mem hx)
      have HV : Hid (v = ((kept l).getD 0 0 + (kept l).getD ((kept l).length - 1) 0) / 2) := hid (by rw [e1]; rfl)
      subst e2
      clear hv hE ha hb hl e1
      go_enter Tryz.func154, Tryz.ntmps154
      go_upto_region 4 with (go_at_call 175; refine (HT.out).mono ?_; rintro e w1 ⟨A1, k, c1, rfl, hk, row1, bel1⟩; have HKK := hid hk; clear hk; have hk1 : 0 < k := (by rw [HKK.out]; exact HK.out); have hk2 : k ≤ 64 := (by have := kept_len l; have := HKK.out; have := HL.out; split at * <;> omega); have R1 := hid row1; have B1 := hid bel1; clear row1 bel1)
      obtain ⟨b, o, u, rfl, hbb, hu, hcell⟩ := R1.out.at_ (k := 0) hk1
      obtain rfl := sv_get (by rw [← HKK.out]; exact hk1) hu
      obtain ⟨b', o', u, e', _, hu', hcell'⟩ := R1.out.at_ (k := k - 1) (by omega)
      injection e' with e'; injection e' with e1 e2
      subst e1; subst e2
      obtain rfl := sv_get (by rw [← HKK.out]; omega) hu'
      rw [Nat.add_zero] at hcell
      rw [← HKK.out] at HV
      have X0 := getD_b64 HKB.out 0
      have Y0 := getD_b64 HKB.out (k - 1)
      generalize (kept l).getD 0 0 = x at *
      generalize (kept l).getD (k - 1) 0 = y at *
      have x1 := X0.1
      have x2 := X0.2
      have y1 := Y0.1
      have y2 := Y0.2
      have HM := hid (fun w => middle_any x y w x1 x2 y1 y2)
      have HH := hid hbb
      clear hu hu' X0 Y0 hbb
      go_upto_region 6 with fail
      have hwr : IntKind.i64.wrap ((k : Int) - 1) = ((k - 1 : Nat) : Int) := by rw [IntKind.wrap_i64]; omega
      have hj : k - 1 < k := by omega
      generalize k - 1 = j at *
      have hj0 : (0 : Int) ≤ (j : Int) := by omega
      have hj2 : (j : Int) < (k : Int) := by omega
      go_quiet (first | (go_at_call 176; exact Calls.quiet_of_same (HM.out _)))
      go_wp2_with fail
      go_ret2
      exact ⟨by rw [HV.out]; rfl, B1.out.trans ⟨rfl, rfl, rfl, Nat.le_refl _, fun _ _ => rfl⟩⟩
/-- What Spread answers. -/
def far (l : List Int) : Int := if 64 < l.length then 0 else if l = [] then 0 else mx l - mn l
def RetU (v : Int) (E : Int) (w : World) (e : Ending) (w' : World) : Prop := e = .returned (.tuple #[.int .u64 v, .int .i64 E]) ∧ w' = w
set_option maxHeartbeats 1000000 in
/-- What Correct answers. -/
def corr (win : Int) (l : List Int) : Int := if win < 0 then 0 else if 64 < l.length then 0 else if l = [] then 0 else min (max (avg l) (-win)) win
def corrE (win : Int) (l : List Int) : Int := if win < 0 then 1 else if 64 < l.length then 7 else 0
theorem avg_b64 {l : List Int} (h0 : l ≠ []) (h : B64 l) : -9223372036854775808 ≤ avg l ∧ avg l ≤ 9223372036854775807 := avg_within h0 h
set_option maxHeartbeats 1000000 in
theorem correct_any (win : Int) (A : Option Addr) (n c B : Nat) (l : List Int) (w : World) (ha : Row w B A n (sv l)) (hB : B ≤ w.heap.size) (hb : B64 l) (hn : n ≤ 4611686018427387904) (g0 : -9223372036854775808 ≤ win) (g1 : win ≤ 9223372036854775807)
    (v E : Int) (hv : corr win l = v) (hE : corrE win l = E) :
    Calls Tryz.prog 127 #[.int .i64 win, .slice A n c] w (RetM v E w) := by
  have hl : l.length = n := by have := ha.1; rwa [sv_len] at this
  by_cases hw : win < 0
  · have e1 : v = 0 := by rw [← hv]; unfold corr; rw [if_pos hw]
    have e2 : E = 1 := by rw [← hE]; unfold corrE; rw [if_pos hw]
    subst e1; subst e2
    clear hv hE ha hb hl
    go_enter Tryz.func127, Tryz.ntmps127
    go_wp2
    go_ret2
    exact ⟨rfl, Below.refl _ _⟩
  · by_cases h64 : 64 < n
    · have e1 : v = 0 := by rw [← hv]; unfold corr; rw [if_neg hw, if_pos (by omega)]
      have e2 : E = 7 := by rw [← hE]; unfold corrE; rw [if_neg hw, if_pos (by omega)]
      have HA := hid (average_any A n c B l w ha hB hb hn 0 7 (by unfold mean; rw [if_pos (by omega)]) (by unfold meanE; rw [if_pos (by omega)]))
      subst e1; subst e2
      clear hv hE ha hb hl
      go_enter Tryz.func127, Tryz.ntmps127
      go_wp2_with (go_at_call 154; refine (HA.out).mono ?_; rintro e w1 ⟨rfl, bel1⟩)
      go_ret2
      exact ⟨rfl, bel1⟩
    · by_cases h0 : l = []
      · have e1 : v = 0 := by rw [← hv]; unfold corr; rw [if_neg hw, if_neg (by omega), if_pos h0]
        have e2 : E = 0 := by rw [← hE]; unfold corrE; rw [if_neg hw, if_neg (by omega)]
        have HA := hid (average_any A n c B l w ha hB hb hn 0 8 (by unfold mean; rw [if_neg (by omega), if_pos h0]) (by unfold meanE; rw [if_neg (by omega), if_pos h0]))
        subst e1; subst e2
        clear hv hE ha hb hl
        go_enter Tryz.func127, Tryz.ntmps127
        go_wp2_with (go_at_call 154; refine (HA.out).mono ?_; rintro e w1 ⟨rfl, bel1⟩)
        go_ret2
        exact ⟨rfl, bel1⟩
      · have HV : Hid (v = min (max (avg l) (-win)) win) := hid (by rw [← hv]; unfold corr; rw [if_neg hw, if_neg (by omega), if_neg h0])
        have e2 : E = 0 := by rw [← hE]; unfold corrE; rw [if_neg hw, if_neg (by omega)]
        have HA := hid (average_any A n c B l w ha hB hb hn (avg l) 0 (by unfold mean; rw [if_neg (by omega), if_neg h0]) (by unfold meanE; rw [if_neg (by omega), if_neg h0]))
        have hab := avg_b64 h0 hb
        subst e2
        clear hv hE ha hb hl h0
        generalize avg l = m at *
        have HC := hid (fun w => clip_any m win w hab.1 hab.2 g0 g1)
        rw [if_neg hw] at HC
        go_enter Tryz.func127, Tryz.ntmps127
        go_wp2_with (first
          | (go_at_call 154; (with_reducible refine (HA.out).mono ?_); rintro e w1 ⟨rfl, bel1⟩)
          | (go_at_call 155; (with_reducible refine (HC.out _).mono ?_); rintro e w2 ⟨rfl, rfl⟩))
        go_ret2
        exact ⟨by rw [HV.out]; rfl, bel1⟩
end Go.Proofs.YtlgedfljmgedfaaGreat.T9
