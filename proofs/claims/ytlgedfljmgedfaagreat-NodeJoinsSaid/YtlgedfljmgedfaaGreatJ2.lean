/-
  Texts Oa of this seat, as far as they are used.
-/
import Derived.Test.YtlgedfljmgedfaaGreatJ1
import Derived.Test.YtlgedfljmgedfaaGreatProg
import Derived.WalkKit
import Derived.WalkSpells
import Derived.WalkLawsBesides
import Derived.LoopTactic
import Derived.RegionTactic
import Derived.Deep.QuietTactic
import Derived.BigQuiet
import Derived.Deep.Light
namespace Go.Proofs.YtlgedfljmgedfaaGreat.O6
open Go Go.RowKit

def timeB (x : Int) : Bool := decide (-1152921504606846976 ≤ x ∧ x ≤ 1152921504606846976)

theorem hid {p : Prop} (h : p) : Hid p := h
theorem ret_bool {a b : Bool} (h : a = b) : Ending.returned (.bool a) = .returned (.bool b) := by rw [h]
theorem ret_int {k : IntKind} {a b : Int} (h : a = b) : Ending.returned (.int k a) = .returned (.int k b) := by rw [h]

theorem may1_yes (x : Int) (w : World) (h1 : -1152921504606846976 ≤ x) (h2 : x ≤ 1152921504606846976) : Calls Tryz.prog 163 #[.int .i64 x] w fun e w' => e = .returned (.bool false) ∧ w = w' := by
  go_enter Tryz.func163, Tryz.ntmps163
  go_wp2
  all_goals (go_ret; exact ⟨ret_bool (by simp; omega), rfl⟩)

theorem may1_no (x : Int) (w : World) (h1 : x < -1152921504606846976 ∨ 1152921504606846976 < x) : Calls Tryz.prog 163 #[.int .i64 x] w fun e w' => e = .returned (.bool true) ∧ w = w' := by
  rcases h1 with h | h
  · go_enter Tryz.func163, Tryz.ntmps163
    go_wp2
    all_goals (go_ret; exact ⟨rfl, rfl⟩)
  · have h' : ¬ x < -1152921504606846976 := by omega
    go_enter Tryz.func163, Tryz.ntmps163
    go_wp2
    all_goals (go_ret; exact ⟨ret_bool (by simp <;> omega), rfl⟩)

theorem size_any (t : Int) (w : World) (h1 : -1152921504606846976 ≤ t) (h2 : t ≤ 1152921504606846976) : Calls Tryz.prog 160 #[.int .i64 t] w fun e w' => e = .returned (.int .u64 (t.natAbs : Nat)) ∧ w = w' := by
  go_enter Tryz.func160, Tryz.ntmps160
  go_wp2
  all_goals (go_ret; exact ⟨ret_int (by omega), rfl⟩)

/-- all of the first k are times -/
def allB (zs : List Int) : Bool := zs.all timeB

def IdxPost (zs : List Int) (w : World) (e : Ending) (w' : World) : Prop := ∃ r : Int, e = .returned (.int .i64 r) ∧ decide (0 ≤ r) = !allB zs ∧ w = w'

theorem allB_of {zs : List Int} (h : ∀ j, j < zs.length → timeB zs[j]! = true) : allB zs = true := by
  unfold allB; rw [List.all_eq_true]; intro x hx
  obtain ⟨j, hj, rfl⟩ := List.getElem_of_mem hx
  have := h j hj
  rwa [getElem!_pos zs j hj] at this
theorem not_allB_of {zs : List Int} (k : Nat) (hk : k < zs.length) (h : timeB zs[k]! = false) : allB zs = false := by
  unfold allB
  rw [getElem!_pos zs k hk] at h
  rw [List.all_eq_false]; exact ⟨zs[k], List.getElem_mem hk, by simp [h]⟩

set_option maxHeartbeats 400000 in
theorem idx_any (b off c : Nat) (zs : List Int) (w : World) (hn : zs.length ≤ 9223372036854775807) (hc : ∀ j, j < zs.length → w.cell? ⟨b, off + j, none⟩ = some (.int .i64 zs[j]!)) :
    Calls Tryz.prog 144 #[.slice (some ⟨b, off, none⟩) zs.length c, .func (.func 163) #[] #[]] w (IdxPost zs w) := by
  go_enter Tryz.func144, Tryz.ntmps144
  go_wp2
  go_loop [8] (fun i => ∃ k : Nat, k ≤ zs.length ∧ i = .int .i64 k ∧ (∀ j, j < k → timeB zs[j]! = true)) (fun i => zs.length - (intOf i).toNat)
  case atStart => exact ⟨0, Nat.zero_le _, rfl, by intro j hj; omega⟩
  case round =>
    obtain ⟨k, hk, rfl, hall⟩ := hrel
    by_cases hlt : k < zs.length
    · have hcell := hc k hlt
      by_cases ht : -1152921504606846976 ≤ zs[k]! ∧ zs[k]! ≤ 1152921504606846976
      · have HC : Hid (∀ j, j < k + 1 → timeB zs[j]! = true) := by
          refine hid (fun j hj => ?_)
          rcases Nat.lt_succ_iff_lt_or_eq.1 hj with h | rfl
          · exact hall j h
          · simp only [timeB, decide_eq_true_eq]; exact ht
        clear hc hall
        obtain ⟨h1, h2⟩ := ht
        generalize zs[k]! = z at h1 h2 hcell
        go_wp2_with (go_at_call 163; refine (may1_yes _ _ h1 h2).mono ?_; rintro e w' ⟨rfl, rfl⟩)
        exact ⟨⟨k + 1, by omega, by go_num, HC.out⟩, by simp [intOf]; omega⟩
      · have HF : Hid (allB zs = false) := hid (not_allB_of k hlt (by simp only [timeB, decide_eq_false_iff_not]; exact ht))
        have h1 : zs[k]! < -1152921504606846976 ∨ 1152921504606846976 < zs[k]! := by omega
        clear hc hall ht
        generalize zs[k]! = z at h1 hcell
        have H1 : Hid (z < -1152921504606846976 ∨ 1152921504606846976 < z) := hid h1
        clear h1
        go_wp2_with (go_at_call 163; refine (may1_no _ _ H1.out).mono ?_; rintro e w' ⟨rfl, rfl⟩)
        go_ret
        exact ⟨(k : Int), rfl, by rw [HF.out]; simp, rfl⟩
    · have HF : Hid (allB zs = true) := hid (allB_of fun j hj => hall j (by omega))
      clear hc hall
      go_wp2
      go_ret
      exact ⟨-1, rfl, by rw [HF.out]; decide, rfl⟩

theorem contains_any (b off c : Nat) (zs : List Int) (ok : Bool) (hok : allB zs = ok) (w : World) (hn : zs.length ≤ 9223372036854775807) (hc : ∀ j, j < zs.length → w.cell? ⟨b, off + j, none⟩ = some (.int .i64 zs[j]!)) :
    Calls Tryz.prog 110 #[.slice (some ⟨b, off, none⟩) zs.length c, .func (.func 163) #[] #[]] w fun e w' => e = .returned (.bool (!ok)) ∧ w = w' := by
  have HI := hid (idx_any b off c zs w hn hc)
  have HK := hid hok
  clear hc hok
  go_enter Tryz.func110, Tryz.ntmps110
  go_wp2_with fail
  refine HI.out.mono ?_
  rintro e w' ⟨r, rfl, hr, rfl⟩
  have HR := hid hr
  clear hr
  go_wp2
  go_ret
  exact ⟨ret_bool (by rw [← HK.out, ← HR.out]), rfl⟩

theorem may_any (b off c : Nat) (zs : List Int) (ok : Bool) (hok : allB zs = ok) (w : World) (hn : zs.length ≤ 9223372036854775807) (hc : ∀ j, j < zs.length → w.cell? ⟨b, off + j, none⟩ = some (.int .i64 zs[j]!)) :
    Calls Tryz.prog 135 #[.slice (some ⟨b, off, none⟩) zs.length c] w fun e w' => e = .returned (.bool ok) ∧ w = w' := by
  have HI := hid (contains_any b off c zs ok hok w hn hc)
  clear hc hok
  go_enter Tryz.func135, Tryz.ntmps135
  go_wp2_with fail
  refine HI.out.mono ?_
  rintro e w' ⟨rfl, rfl⟩
  go_wp2
  go_ret
  exact ⟨ret_bool (by simp), rfl⟩

theorem may_1 (b c : Nat) (x : Int) (ok : Bool) (hok : timeB x = ok) (w : World) (hc : w.cell? ⟨b, 0, none⟩ = some (.int .i64 x)) :
    Calls Tryz.prog 135 #[.slice (some ⟨b, 0, none⟩) 1 c] w fun e w' => e = .returned (.bool ok) ∧ w = w' :=
  may_any b 0 c [x] ok (by simp [allB, hok]) w (by simp) (fun j hj => by
    match j, hj with
    | 0, _ => exact hc)
theorem may_2 (b c : Nat) (x y : Int) (ok : Bool) (hok : (timeB x && timeB y) = ok) (w : World) (hc : w.cell? ⟨b, 0, none⟩ = some (.int .i64 x)) (hc1 : w.cell? ⟨b, 1, none⟩ = some (.int .i64 y)) :
    Calls Tryz.prog 135 #[.slice (some ⟨b, 0, none⟩) 2 c] w fun e w' => e = .returned (.bool ok) ∧ w = w' :=
  may_any b 0 c [x, y] ok (by simpa [allB] using hok) w (by simp) (fun j hj => by
    match j, hj with
    | 0, _ => exact hc
    | 1, _ => exact hc1)
theorem may_3 (b c : Nat) (x y z : Int) (ok : Bool) (hok : (timeB x && (timeB y && timeB z)) = ok) (w : World) (hc : w.cell? ⟨b, 0, none⟩ = some (.int .i64 x)) (hc1 : w.cell? ⟨b, 1, none⟩ = some (.int .i64 y)) (hc2 : w.cell? ⟨b, 2, none⟩ = some (.int .i64 z)) :
    Calls Tryz.prog 135 #[.slice (some ⟨b, 0, none⟩) 3 c] w fun e w' => e = .returned (.bool ok) ∧ w = w' :=
  may_any b 0 c [x, y, z] ok (by simpa [allB] using hok) w (by simp) (fun j hj => by
    match j, hj with
    | 0, _ => exact hc
    | 1, _ => exact hc1
    | 2, _ => exact hc2)
end Go.Proofs.YtlgedfljmgedfaaGreat.O6
namespace Go.Proofs.YtlgedfljmgedfaaGreat.O6
open Go Go.RowKit

theorem bel_drewN {B : Nat} {a w : World} (h : Below B a w) (n : Nat) : Below B a (w.drewN n) := h.trans ⟨rfl, rfl, rfl, Nat.le_refl _, fun _ _ => rfl⟩
theorem ret_two {k1 k2 : IntKind} {a b c d : Int} (h : a = b) (h' : c = d) : Ending.returned (.tuple #[.int k1 a, .int k2 c]) = .returned (.tuple #[.int k1 b, .int k2 d]) := by rw [h, h']
theorem ret_three {k1 k2 k3 : IntKind} {a b c d e f : Int} (h : a = b) (h' : c = d) (h'' : e = f) : Ending.returned (.tuple #[.int k1 a, .int k2 c, .int k3 e]) = .returned (.tuple #[.int k1 b, .int k2 d, .int k3 f]) := by rw [h, h', h'']

theorem timeB_yes {n : Int} (h1 : -1152921504606846976 ≤ n) (h2 : n ≤ 1152921504606846976) : timeB n = true := by
  simp only [timeB, decide_eq_true_eq]; omega
theorem timeB_no {n : Int} (h1 : n < -1152921504606846976 ∨ 1152921504606846976 < n) : timeB n = false := by
  simp only [timeB, decide_eq_false_iff_not]; omega

theorem bounded_ok (n : Int) (w : World) (h1 : -1152921504606846976 ≤ n) (h2 : n ≤ 1152921504606846976) :
    Calls Tryz.prog 152 #[.int .i64 n] w fun e w' => e = .returned (.tuple #[.int .i64 n, .int .i64 0]) ∧ Below w.heap.size w w' := by
  go_enter Tryz.func152, Tryz.ntmps152
  go_wp2_with fail
  refine (may_1 _ _ n true (timeB_yes h1 h2) _ (by simp)).mono ?_
  rintro e w' ⟨rfl, rfl⟩
  go_wp2
  go_ret2
  exact ⟨rfl, (Below.refl _ _).alloc (Nat.le_refl _) _⟩

theorem bounded_no (n : Int) (w : World) (h : n < -1152921504606846976 ∨ 1152921504606846976 < n) :
    Calls Tryz.prog 152 #[.int .i64 n] w fun e w' => e = .returned (.tuple #[.int .i64 0, .int .i64 2]) ∧ Below w.heap.size w w' := by
  have H := hid h
  clear h
  go_enter Tryz.func152, Tryz.ntmps152
  go_wp2_with fail
  refine (may_1 _ _ n false (timeB_no H.out) _ (by simp)).mono ?_
  rintro e w' ⟨rfl, rfl⟩
  go_wp2
  go_ret2
  exact ⟨rfl, (Below.refl _ _).alloc (Nat.le_refl _) _⟩

-- below: n, rest, den with 0 ≤ n ≤ 2^60, 0 ≤ rest < den ≤ 2^60
theorem below_zero_ok (n den : Int) (w : World) (h1 : 0 ≤ n) (h2 : n ≤ 1152921504606846976) :
    Calls Tryz.prog 162 #[.int .i64 n, .int .i64 0, .int .i64 den] w fun e w' => e = .returned (.tuple #[.int .i64 (-n), .int .i64 0, .int .i64 0]) ∧ Below w.heap.size w w' := by
  go_enter Tryz.func162, Tryz.ntmps162
  go_wp2_with fail
  refine (bounded_ok (-n) _ (by omega) (by omega)).mono ?_
  rintro e w' ⟨rfl, hb⟩
  go_wp2
  go_ret3
  exact ⟨rfl, hb⟩

theorem below_ok (n rest den : Int) (w : World) (h1 : 0 ≤ n) (h2 : n < 1152921504606846976) (h3 : 0 < rest) (h4 : rest < den) (h5 : den ≤ 1152921504606846976) :
    Calls Tryz.prog 162 #[.int .i64 n, .int .i64 rest, .int .i64 den] w fun e w' => e = .returned (.tuple #[.int .i64 (-(n + 1)), .int .i64 (den - rest), .int .i64 0]) ∧ Below w.heap.size w w' := by
  go_enter Tryz.func162, Tryz.ntmps162
  go_wp2_with fail
  refine (bounded_ok (-(n + 1)) _ (by omega) (by omega)).mono ?_
  rintro e w' ⟨rfl, hb⟩
  go_wp2
  go_ret3
  exact ⟨rfl, hb⟩

theorem below_over (n rest den : Int) (w : World) (h1 : n = 1152921504606846976) (h3 : 0 < rest) (h4 : rest < den) (h5 : den ≤ 1152921504606846976) :
    Calls Tryz.prog 162 #[.int .i64 n, .int .i64 rest, .int .i64 den] w fun e w' => e = .returned (.tuple #[.int .i64 0, .int .i64 0, .int .i64 2]) ∧ Below w.heap.size w w' := by
  subst h1
  go_enter Tryz.func162, Tryz.ntmps162
  go_wp2_with fail
  refine (bounded_no _ _ (by omega)).mono ?_
  rintro e w' ⟨rfl, hb⟩
  go_wp2
  go_ret3
  exact ⟨rfl, hb⟩

-- Div64 where the high word is 0
theorem div64_low (lo y : Nat) (w : World) (h1 : lo < 18446744073709551616) (h2 : 0 < y) (h3 : y < 18446744073709551616) :
    Calls Tryz.prog 161 #[.int .u64 0, .int .u64 lo, .int .u64 y] w fun e w' => e = .returned (.tuple #[.int .u64 ((lo / y : Nat) : Int), .int .u64 ((lo % y : Nat) : Int)]) ∧ Below w.heap.size w w' := by
  have hy : ((y : Int) == 0) = false := beq_eq_false_iff_ne.2 (by omega)
  have hy2 : decide ((y : Int) ≤ 0) = false := by simp; omega
  go_enter Tryz.func161, Tryz.ntmps161
  go_wp2
  go_quiet (fail)
  go_wp2
  go_ret2
  refine ⟨ret_two (by rw [← Int.natCast_ediv]; exact Go.Proofs.Mul64.wrapN _ (Nat.lt_of_le_of_lt (Nat.div_le_self _ _) h1)) (by omega), bel_drewN (Below.refl _ _) _⟩

/-- what Div64 answers at a high word that is less than what it divides by -/
def DivSaid (p d : Nat) : Prop := ∀ w : World, Calls Tryz.prog 161 #[.int .u64 ((p / 18446744073709551616 : Nat) : Int), .int .u64 ((p % 18446744073709551616 : Nat) : Int), .int .u64 (d : Int)] w fun e w' => e = .returned (.tuple #[.int .u64 ((p / d : Nat) : Int), .int .u64 ((p % d : Nat) : Int)]) ∧ Below w.heap.size w w'

set_option maxHeartbeats 400000 in
theorem scale_same (a b : Int) (d : Nat) (w : World) (ha1 : -1152921504606846976 ≤ a) (ha2 : a ≤ 1152921504606846976) (hb1 : -1152921504606846976 ≤ b) (hb2 : b ≤ 1152921504606846976)
    (hd1 : 1 ≤ d) (hd2 : d ≤ 1152921504606846976) (hs : (a < 0 ↔ b < 0)) (hD : DivSaid (a.natAbs * b.natAbs) d) (hhi : a.natAbs * b.natAbs / 18446744073709551616 < d) (hq : a.natAbs * b.natAbs / d ≤ 1152921504606846976) :
    Calls Tryz.prog 134 #[.int .i64 a, .int .i64 b, .int .i64 d] w fun e w' => e = .returned (.tuple #[.int .i64 ((a.natAbs * b.natAbs / d : Nat) : Int), .int .i64 ((a.natAbs * b.natAbs % d : Nat) : Int), .int .i64 0]) ∧ Below w.heap.size w w' := by
  have hr : a.natAbs * b.natAbs % d < d := Nat.mod_lt _ hd1
  have hsb : (decide (a < 0) == decide (b < 0)) = true := by simp [hs]
  clear hs
  go_enter Tryz.func134, Tryz.ntmps134
  go_wp2_with fail
  refine (may_3 _ _ a b d true (by rw [timeB_yes ha1 ha2, timeB_yes hb1 hb2, timeB_yes (by omega) (by omega)]; rfl) _ (by simp) (by simp) (by simp)).mono ?_
  rintro e w' ⟨rfl, rfl⟩
  go_wp2_with fail
  refine (size_any a _ ha1 ha2).mono ?_
  rintro e w' ⟨rfl, rfl⟩
  go_wp2_with fail
  refine (size_any b _ hb1 hb2).mono ?_
  rintro e w' ⟨rfl, rfl⟩
  go_wp2_with fail
  refine (Tryz.bits_Mul64 a.natAbs b.natAbs (by omega) (by omega) _).mono ?_
  rintro e w' ⟨rfl, rfl⟩
  generalize hp : a.natAbs * b.natAbs = p at *
  have HP := hid hp
  clear hp
  go_wp2_with fail
  refine (hD _).mono ?_
  rintro e w' ⟨rfl, hb⟩
  generalize hqq : p / d = q at *
  have HQ := hid hqq
  clear hqq
  generalize hrr : p % d = r at *
  have HR := hid hrr
  clear hrr
  go_wp2
  go_ret3
  exact ⟨ret_three (by rw [HP.out, HQ.out]) (by rw [HP.out, HR.out]) rfl, ((Below.refl _ _).alloc (Nat.le_refl _) _).trans (hb.mono (by simp))⟩

set_option maxHeartbeats 400000 in
theorem scale_opp0 (a b : Int) (d : Nat) (w : World) (ha1 : -1152921504606846976 ≤ a) (ha2 : a ≤ 1152921504606846976) (hb1 : -1152921504606846976 ≤ b) (hb2 : b ≤ 1152921504606846976)
    (hd1 : 1 ≤ d) (hd2 : d ≤ 1152921504606846976) (hs : ¬ (a < 0 ↔ b < 0)) (hD : DivSaid (a.natAbs * b.natAbs) d) (hhi : a.natAbs * b.natAbs / 18446744073709551616 < d) (hq : a.natAbs * b.natAbs / d ≤ 1152921504606846976) (hr0 : a.natAbs * b.natAbs % d = 0) :
    Calls Tryz.prog 134 #[.int .i64 a, .int .i64 b, .int .i64 d] w fun e w' => e = .returned (.tuple #[.int .i64 (-((a.natAbs * b.natAbs / d : Nat) : Int)), .int .i64 0, .int .i64 0]) ∧ Below w.heap.size w w' := by
  have hr : a.natAbs * b.natAbs % d < d := Nat.mod_lt _ hd1
  have hsb : (decide (a < 0) == decide (b < 0)) = false := by rw [beq_eq_false_iff_ne, ne_eq, decide_eq_decide]; exact hs
  clear hs
  go_enter Tryz.func134, Tryz.ntmps134
  go_wp2_with fail
  refine (may_3 _ _ a b d true (by rw [timeB_yes ha1 ha2, timeB_yes hb1 hb2, timeB_yes (by omega) (by omega)]; rfl) _ (by simp) (by simp) (by simp)).mono ?_
  rintro e w' ⟨rfl, rfl⟩
  go_wp2_with fail
  refine (size_any a _ ha1 ha2).mono ?_
  rintro e w' ⟨rfl, rfl⟩
  go_wp2_with fail
  refine (size_any b _ hb1 hb2).mono ?_
  rintro e w' ⟨rfl, rfl⟩
  go_wp2_with fail
  refine (Tryz.bits_Mul64 a.natAbs b.natAbs (by omega) (by omega) _).mono ?_
  rintro e w' ⟨rfl, rfl⟩
  generalize hp : a.natAbs * b.natAbs = p at *
  have HP := hid hp
  clear hp
  go_wp2_with fail
  refine (hD _).mono ?_
  rintro e w' ⟨rfl, hb⟩
  generalize hqq : p / d = q at *
  have HQ := hid hqq
  clear hqq
  generalize hrr : p % d = r at *
  have HR := hid hrr
  clear hrr
  subst hr0
  go_wp2_with fail
  refine (below_zero_ok (q : Int) _ _ (by omega) (by omega)).mono ?_
  rintro e w' ⟨rfl, hb'⟩
  go_wp2
  go_ret3
  exact ⟨ret_three (by rw [HP.out, HQ.out]) rfl rfl, (((Below.refl _ _).alloc (Nat.le_refl _) _).trans (hb.mono (by simp))).trans (hb'.mono (by have := hb.size; simp at this; omega))⟩

set_option maxHeartbeats 400000 in
theorem scale_opp (a b : Int) (d : Nat) (w : World) (ha1 : -1152921504606846976 ≤ a) (ha2 : a ≤ 1152921504606846976) (hb1 : -1152921504606846976 ≤ b) (hb2 : b ≤ 1152921504606846976)
    (hd1 : 1 ≤ d) (hd2 : d ≤ 1152921504606846976) (hs : ¬ (a < 0 ↔ b < 0)) (hD : DivSaid (a.natAbs * b.natAbs) d) (hhi : a.natAbs * b.natAbs / 18446744073709551616 < d) (hq : a.natAbs * b.natAbs / d < 1152921504606846976) (hr0 : 0 < a.natAbs * b.natAbs % d) :
    Calls Tryz.prog 134 #[.int .i64 a, .int .i64 b, .int .i64 d] w fun e w' => e = .returned (.tuple #[.int .i64 (-(((a.natAbs * b.natAbs / d : Nat) : Int) + 1)), .int .i64 ((d : Int) - ((a.natAbs * b.natAbs % d : Nat) : Int)), .int .i64 0]) ∧ Below w.heap.size w w' := by
  have hr : a.natAbs * b.natAbs % d < d := Nat.mod_lt _ hd1
  have hsb : (decide (a < 0) == decide (b < 0)) = false := by rw [beq_eq_false_iff_ne, ne_eq, decide_eq_decide]; exact hs
  clear hs
  go_enter Tryz.func134, Tryz.ntmps134
  go_wp2_with fail
  refine (may_3 _ _ a b d true (by rw [timeB_yes ha1 ha2, timeB_yes hb1 hb2, timeB_yes (by omega) (by omega)]; rfl) _ (by simp) (by simp) (by simp)).mono ?_
  rintro e w' ⟨rfl, rfl⟩
  go_wp2_with fail
  refine (size_any a _ ha1 ha2).mono ?_
  rintro e w' ⟨rfl, rfl⟩
  go_wp2_with fail
  refine (size_any b _ hb1 hb2).mono ?_
  rintro e w' ⟨rfl, rfl⟩
  go_wp2_with fail
  refine (Tryz.bits_Mul64 a.natAbs b.natAbs (by omega) (by omega) _).mono ?_
  rintro e w' ⟨rfl, rfl⟩
  generalize hp : a.natAbs * b.natAbs = p at *
  have HP := hid hp
  clear hp
  go_wp2_with fail
  refine (hD _).mono ?_
  rintro e w' ⟨rfl, hb⟩
  generalize hqq : p / d = q at *
  have HQ := hid hqq
  clear hqq
  generalize hrr : p % d = r at *
  have HR := hid hrr
  clear hrr
  go_wp2_with fail
  refine (below_ok (q : Int) (r : Int) d _ (by omega) (by omega) (by omega) (by omega) (by omega)).mono ?_
  rintro e w' ⟨rfl, hb'⟩
  go_wp2
  go_ret3
  exact ⟨ret_three (by rw [HP.out, HQ.out]) (by rw [HP.out, HR.out]) rfl, (((Below.refl _ _).alloc (Nat.le_refl _) _).trans (hb.mono (by simp))).trans (hb'.mono (by have := hb.size; simp at this; omega))⟩

set_option maxHeartbeats 400000 in
theorem scale_opp_over (a b : Int) (d : Nat) (w : World) (ha1 : -1152921504606846976 ≤ a) (ha2 : a ≤ 1152921504606846976) (hb1 : -1152921504606846976 ≤ b) (hb2 : b ≤ 1152921504606846976)
    (hd1 : 1 ≤ d) (hd2 : d ≤ 1152921504606846976) (hs : ¬ (a < 0 ↔ b < 0)) (hD : DivSaid (a.natAbs * b.natAbs) d) (hhi : a.natAbs * b.natAbs / 18446744073709551616 < d) (hq : a.natAbs * b.natAbs / d = 1152921504606846976) (hr0 : 0 < a.natAbs * b.natAbs % d) :
    Calls Tryz.prog 134 #[.int .i64 a, .int .i64 b, .int .i64 d] w fun e w' => e = .returned (.tuple #[.int .i64 0, .int .i64 0, .int .i64 2]) ∧ Below w.heap.size w w' := by
  have hr : a.natAbs * b.natAbs % d < d := Nat.mod_lt _ hd1
  have hsb : (decide (a < 0) == decide (b < 0)) = false := by rw [beq_eq_false_iff_ne, ne_eq, decide_eq_decide]; exact hs
  clear hs
  go_enter Tryz.func134, Tryz.ntmps134
  go_wp2_with fail
  refine (may_3 _ _ a b d true (by rw [timeB_yes ha1 ha2, timeB_yes hb1 hb2, timeB_yes (by omega) (by omega)]; rfl) _ (by simp) (by simp) (by simp)).mono ?_
  rintro e w' ⟨rfl, rfl⟩
  go_wp2_with fail
  refine (size_any a _ ha1 ha2).mono ?_
  rintro e w' ⟨rfl, rfl⟩
  go_wp2_with fail
  refine (size_any b _ hb1 hb2).mono ?_
  rintro e w' ⟨rfl, rfl⟩
  go_wp2_with fail
  refine (Tryz.bits_Mul64 a.natAbs b.natAbs (by omega) (by omega) _).mono ?_
  rintro e w' ⟨rfl, rfl⟩
  generalize hp : a.natAbs * b.natAbs = p at *
  have HP := hid hp
  clear hp
  go_wp2_with fail
  refine (hD _).mono ?_
  rintro e w' ⟨rfl, hb⟩
  generalize hqq : p / d = q at *
  have HQ := hid hqq
  clear hqq
  generalize hrr : p % d = r at *
  have HR := hid hrr
  clear hrr
  subst hq
  go_wp2_with fail
  refine (below_over _ (r : Int) d _ rfl (by omega) (by omega) (by omega)).mono ?_
  rintro e w' ⟨rfl, hb'⟩
  go_wp2
  go_ret3
  exact ⟨rfl, (((Below.refl _ _).alloc (Nat.le_refl _) _).trans (hb.mono (by simp))).trans (hb'.mono (by have := hb.size; simp at this; omega))⟩

set_option maxHeartbeats 400000 in
theorem scale_over_hi (a b : Int) (d : Nat) (w : World) (ha1 : -1152921504606846976 ≤ a) (ha2 : a ≤ 1152921504606846976) (hb1 : -1152921504606846976 ≤ b) (hb2 : b ≤ 1152921504606846976)
    (hd1 : 1 ≤ d) (hd2 : d ≤ 1152921504606846976) (hhi : d ≤ a.natAbs * b.natAbs / 18446744073709551616) :
    Calls Tryz.prog 134 #[.int .i64 a, .int .i64 b, .int .i64 d] w fun e w' => e = .returned (.tuple #[.int .i64 0, .int .i64 0, .int .i64 2]) ∧ Below w.heap.size w w' := by
  go_enter Tryz.func134, Tryz.ntmps134
  go_wp2_with fail
  refine (may_3 _ _ a b d true (by rw [timeB_yes ha1 ha2, timeB_yes hb1 hb2, timeB_yes (by omega) (by omega)]; rfl) _ (by simp) (by simp) (by simp)).mono ?_
  rintro e w' ⟨rfl, rfl⟩
  go_wp2_with fail
  refine (size_any a _ ha1 ha2).mono ?_
  rintro e w' ⟨rfl, rfl⟩
  go_wp2_with fail
  refine (size_any b _ hb1 hb2).mono ?_
  rintro e w' ⟨rfl, rfl⟩
  go_wp2_with fail
  refine (Tryz.bits_Mul64 a.natAbs b.natAbs (by omega) (by omega) _).mono ?_
  rintro e w' ⟨rfl, rfl⟩
  generalize hp : a.natAbs * b.natAbs = p at *
  have HP := hid hp
  clear hp
  go_wp2
  go_ret3
  exact ⟨rfl, (Below.refl _ _).alloc (Nat.le_refl _) _⟩

set_option maxHeartbeats 400000 in
theorem scale_over (a b : Int) (d : Nat) (w : World) (ha1 : -1152921504606846976 ≤ a) (ha2 : a ≤ 1152921504606846976) (hb1 : -1152921504606846976 ≤ b) (hb2 : b ≤ 1152921504606846976)
    (hd1 : 1 ≤ d) (hd2 : d ≤ 1152921504606846976) (hD : DivSaid (a.natAbs * b.natAbs) d) (hhi : a.natAbs * b.natAbs / 18446744073709551616 < d) (hq : 1152921504606846976 < a.natAbs * b.natAbs / d) :
    Calls Tryz.prog 134 #[.int .i64 a, .int .i64 b, .int .i64 d] w fun e w' => e = .returned (.tuple #[.int .i64 0, .int .i64 0, .int .i64 2]) ∧ Below w.heap.size w w' := by
  go_enter Tryz.func134, Tryz.ntmps134
  go_wp2_with fail
  refine (may_3 _ _ a b d true (by rw [timeB_yes ha1 ha2, timeB_yes hb1 hb2, timeB_yes (by omega) (by omega)]; rfl) _ (by simp) (by simp) (by simp)).mono ?_
  rintro e w' ⟨rfl, rfl⟩
  go_wp2_with fail
  refine (size_any a _ ha1 ha2).mono ?_
  rintro e w' ⟨rfl, rfl⟩
  go_wp2_with fail
  refine (size_any b _ hb1 hb2).mono ?_
  rintro e w' ⟨rfl, rfl⟩
  go_wp2_with fail
  refine (Tryz.bits_Mul64 a.natAbs b.natAbs (by omega) (by omega) _).mono ?_
  rintro e w' ⟨rfl, rfl⟩
  generalize hp : a.natAbs * b.natAbs = p at *
  have HP := hid hp
  clear hp
  go_wp2_with fail
  refine (hD _).mono ?_
  rintro e w' ⟨rfl, hb⟩
  generalize hqq : p / d = q at *
  have HQ := hid hqq
  clear hqq
  generalize hrr : p % d = r at *
  have HR := hid hrr
  clear hrr
  go_wp2
  go_ret3
  exact ⟨rfl, ((Below.refl _ _).alloc (Nat.le_refl _) _).trans (hb.mono (by simp))⟩

end Go.Proofs.YtlgedfljmgedfaaGreat.O6
namespace Go.Proofs.YtlgedfljmgedfaaGreat.O6
open Go Go.RowKit

theorem same_mul (a b : Int) (h : a < 0 ↔ b < 0) : a * b = ((a.natAbs * b.natAbs : Nat) : Int) := by
  rw [Int.natCast_mul]
  by_cases ha : a < 0
  · have hb := h.1 ha
    rw [show (a.natAbs : Int) = -a by omega, show (b.natAbs : Int) = -b by omega, Int.neg_mul_neg]
  · have hb : ¬ b < 0 := fun x => ha (h.2 x)
    rw [show (a.natAbs : Int) = a by omega, show (b.natAbs : Int) = b by omega]
theorem opp_mul (a b : Int) (h : ¬ (a < 0 ↔ b < 0)) : a * b = -((a.natAbs * b.natAbs : Nat) : Int) := by
  rw [Int.natCast_mul]
  by_cases ha : a < 0
  · have hb : ¬ b < 0 := fun x => h ⟨fun _ => x, fun _ => ha⟩
    rw [show (a.natAbs : Int) = -a by omega, show (b.natAbs : Int) = b by omega, Int.neg_mul, Int.neg_neg]
  · have hb : b < 0 := Classical.byContradiction fun x => h ⟨fun y => absurd y ha, fun y => absurd y x⟩
    rw [show (a.natAbs : Int) = a by omega, show (b.natAbs : Int) = -b by omega, Int.mul_neg, Int.neg_neg]

/-- division of a number below 0, down -/
theorem neg_div0 (p d : Nat) (hd : 1 ≤ d) (h : p % d = 0) : -(p : Int) / (d : Int) = -((p / d : Nat) : Int) ∧ -(p : Int) % (d : Int) = 0 := by
  have e : p = d * (p / d) := by have := Nat.div_add_mod p d; omega
  generalize p / d = q at *
  subst e
  have hd0 : (d : Int) ≠ 0 := by omega
  refine ⟨?_, ?_⟩
  · rw [show (-((d * q : Nat) : Int)) = (d : Int) * (-(q : Int)) by rw [Int.natCast_mul, Int.mul_neg], Int.mul_ediv_cancel_left _ hd0]
  · rw [show (-((d * q : Nat) : Int)) = (d : Int) * (-(q : Int)) by rw [Int.natCast_mul, Int.mul_neg], Int.mul_emod_right]
theorem neg_div1 (p d : Nat) (hd : 1 ≤ d) (h : 0 < p % d) : -(p : Int) / (d : Int) = -(((p / d : Nat) : Int) + 1) ∧ -(p : Int) % (d : Int) = (d : Int) - ((p % d : Nat) : Int) := by
  have hm : p % d < d := Nat.mod_lt _ hd
  have e : p = d * (p / d) + p % d := (Nat.div_add_mod p d).symm
  generalize p / d = q at *
  generalize p % d = r at *
  subst e
  have hd0 : 0 < (d : Int) := by omega
  have key : (-((d * q + r : Nat) : Int)) = ((d : Int) - r) + (-((q : Int) + 1)) * (d : Int) := by
    rw [Int.natCast_add, Int.natCast_mul, Int.neg_mul, Int.add_mul, Int.one_mul, Int.mul_comm (q : Int) (d : Int)]; omega
  refine ⟨?_, ?_⟩
  · rw [key, Int.add_mul_ediv_right _ _ (by omega), Int.ediv_eq_zero_of_lt (by omega) (by omega)]; omega
  · rw [key, Int.add_mul_emod_self_right, Int.emod_eq_of_lt (by omega) (by omega)]

theorem hi_lt (p d : Nat) (hd : 1 ≤ d) (h : p / d ≤ 1152921504606846976) : p / 18446744073709551616 < d := by
  have h1 : p < d * 1152921504606846977 := by
    have := (Nat.div_lt_iff_lt_mul hd).1 (Nat.lt_succ_of_le h)
    rw [Nat.mul_comm]; exact this
  exact Nat.div_lt_of_lt_mul (by omega)

/-- pico.Scale, where the parts are a time -/
theorem scale_ok (a b d : Int) (w : World) (ha1 : -1152921504606846976 ≤ a) (ha2 : a ≤ 1152921504606846976) (hb1 : -1152921504606846976 ≤ b) (hb2 : b ≤ 1152921504606846976)
    (hd1 : 1 ≤ d) (hd2 : d ≤ 1152921504606846976) (hD : DivSaid (a.natAbs * b.natAbs) d.toNat) (hq1 : -1152921504606846976 ≤ a * b / d) (hq2 : a * b / d ≤ 1152921504606846976) :
    Calls Tryz.prog 134 #[.int .i64 a, .int .i64 b, .int .i64 d] w fun e w' => e = .returned (.tuple #[.int .i64 (a * b / d), .int .i64 (a * b % d), .int .i64 0]) ∧ Below w.heap.size w w' := by
  obtain ⟨n, rfl⟩ := Int.eq_ofNat_of_zero_le (show 0 ≤ d by omega)
  rw [Int.toNat_natCast] at hD
  by_cases hs : (a < 0 ↔ b < 0)
  · have hm := same_mul a b hs
    rw [hm] at hq1 hq2 ⊢
    rw [← Int.natCast_ediv] at hq1 hq2
    rw [← Int.natCast_ediv, ← Int.natCast_emod]
    have hq : a.natAbs * b.natAbs / n ≤ 1152921504606846976 := by omega
    exact scale_same a b n w ha1 ha2 hb1 hb2 (by omega) (by omega) hs hD (hi_lt _ _ (by omega) hq) hq
  · have hm := opp_mul a b hs
    rw [hm] at hq1 hq2 ⊢
    by_cases hr : a.natAbs * b.natAbs % n = 0
    · obtain ⟨e1, e2⟩ := neg_div0 _ n (by omega) hr
      rw [e1] at hq1 hq2 ⊢
      rw [e2]
      have hq : a.natAbs * b.natAbs / n ≤ 1152921504606846976 := by omega
      exact scale_opp0 a b n w ha1 ha2 hb1 hb2 (by omega) (by omega) hs hD (hi_lt _ _ (by omega) hq) hq hr
    · obtain ⟨e1, e2⟩ := neg_div1 _ n (by omega) (Nat.pos_of_ne_zero hr)
      rw [e1] at hq1 hq2 ⊢
      rw [e2]
      have hq : a.natAbs * b.natAbs / n < 1152921504606846976 := by omega
      exact scale_opp a b n w ha1 ha2 hb1 hb2 (by omega) (by omega) hs hD (hi_lt _ _ (by omega) (by omega)) hq (Nat.pos_of_ne_zero hr)

/-- pico.Scale, where the parts are no time -/
theorem scale_ov (a b d : Int) (w : World) (ha1 : -1152921504606846976 ≤ a) (ha2 : a ≤ 1152921504606846976) (hb1 : -1152921504606846976 ≤ b) (hb2 : b ≤ 1152921504606846976)
    (hd1 : 1 ≤ d) (hd2 : d ≤ 1152921504606846976) (hD : a.natAbs * b.natAbs / 18446744073709551616 < d.toNat → DivSaid (a.natAbs * b.natAbs) d.toNat) (hq : a * b / d < -1152921504606846976 ∨ 1152921504606846976 < a * b / d) :
    Calls Tryz.prog 134 #[.int .i64 a, .int .i64 b, .int .i64 d] w fun e w' => e = .returned (.tuple #[.int .i64 0, .int .i64 0, .int .i64 2]) ∧ Below w.heap.size w w' := by
  obtain ⟨n, rfl⟩ := Int.eq_ofNat_of_zero_le (show 0 ≤ d by omega)
  rw [Int.toNat_natCast] at hD
  by_cases hh : a.natAbs * b.natAbs / 18446744073709551616 < n
  · by_cases hg : 1152921504606846976 < a.natAbs * b.natAbs / n
    · exact scale_over a b n w ha1 ha2 hb1 hb2 (by omega) (by omega) (hD hh) hh hg
    · by_cases hs : (a < 0 ↔ b < 0)
      · have hm := same_mul a b hs
        rw [hm, ← Int.natCast_ediv] at hq
        generalize a.natAbs * b.natAbs / n = q at *
        omega
      · have hm := opp_mul a b hs
        rw [hm] at hq
        by_cases hr : a.natAbs * b.natAbs % n = 0
        · obtain ⟨e1, e2⟩ := neg_div0 _ n (by omega) hr
          rw [e1] at hq
          clear e1 e2
          generalize a.natAbs * b.natAbs / n = q at *
          omega
        · obtain ⟨e1, e2⟩ := neg_div1 _ n (by omega) (Nat.pos_of_ne_zero hr)
          rw [e1] at hq
          have hv : a.natAbs * b.natAbs / n = 1152921504606846976 := by
            clear e1 e2
            generalize a.natAbs * b.natAbs / n = q at *
            omega
          exact scale_opp_over a b n w ha1 ha2 hb1 hb2 (by omega) (by omega) hs (hD hh) hh hv (Nat.pos_of_ne_zero hr)
  · exact scale_over_hi a b n w ha1 ha2 hb1 hb2 (by omega) (by omega) (by omega)

end Go.Proofs.YtlgedfljmgedfaaGreat.O6
