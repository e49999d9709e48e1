/-
  bytes.Clone, medium.own, medium.Meet, medium.may and the document's may: what they tell. What is asked: slices of bytes of at most 10 million.
-/
import Derived.Test.YtjmkhhmibkiijaaVA
import Derived.Deep.QuietTactic
import Derived.BigQuiet
import Derived.Deep.RegionHeld3
namespace Go.Proofs.Ytjmkhhmibkiijaa
open Go Go.RowKit

/-- What is told is a new row of these cells. -/
def RetB (base : Nat) (n : Nat) (vs : List Value) (w : World) (e : Ending) (w' : World) : Prop := ∃ A c, e = .returned (.slice A n c) ∧ Own w' base 5 A n c vs ∧ Below base w w'
set_option maxHeartbeats 400000 in
theorem clone_any (A : Option Addr) (n c B : Nat) (bs : List Nat) (w : World) (ha : Row w B A n (bv bs)) (hn : n ≤ 10000000) (hB : B ≤ w.heap.size) :
    Calls Try.prog 40 #[.slice A n c] w (RetB w.heap.size n (bv bs) w) := by
  have HA := hid ha
  have q22 : ∀ (w : World) (a : Option Addr) (n c : Nat), (binOp .eql 23 (.slice a n c) (.slice none 0 0)).run Try.prog w = .ok (.bool a.isNone) w := fun w a n c => by
    simp only [binOp]
    simp [run_equal_slice_nil w 23 5 a n c Try.underlying23]
  clear ha
  cases A with
  | none =>
    obtain rfl : n = 0 := by
      rcases Nat.eq_zero_or_pos n with h | h
      · exact h
      · obtain ⟨b, o, e, _⟩ := HA.out.2 h; cases e
    go_enter Try.func40, Try.ntmps40
    go_wp2
    go_ret
    have : bv bs = [] := List.eq_nil_of_length_eq_zero HA.out.1
    exact ⟨none, 0, rfl, by rw [this]; exact Own.nil _ _ _, Below.refl _ _⟩
  | some a =>
    go_enter Try.func40, Try.ntmps40
    go_wp2_with (at_builtin; refine wpList_app _ rfl (.tmp 5) (.tmp 6) 23 rfl w.heap.size 5 (.int .u8 0) 1 Try.underlying23 info5 rfl _ 0 _ [] rfl (World.ownsRow_lit w #[] 0 (Nat.le_refl _) (by decide) rfl) B (some a) n c (bv bs) rfl (HA.out.alloc hB _) (bv_one bs) (by omega) (by omega) (by simp) ?_; intro A1 c1 w2 own2 bel2; rw [Nat.zero_add] at own2; rw [Nat.zero_add])
    go_ret
    exact ⟨A1, c1, rfl, by simpa using own2, ((Below.refl _ _).alloc (Nat.le_refl _) _).trans bel2⟩
/-- It is told as it is, its bytes anew. -/
def RetO (x : Ar) (w : World) (e : Ending) (w' : World) : Prop := ∃ A c, e = .returned (itv { x with A := A, c := c }) ∧ Own w' w.heap.size 5 A x.n c (bv x.b) ∧ Below w.heap.size w w'
theorem own_any (x : Ar) (B : Nat) (w : World) (ha : Row w B x.A x.n (bv x.b)) (hB : B ≤ w.heap.size) (hn : x.n ≤ 10000000) :
    Calls Try.prog 29 #[itv x] w (RetO x w) := by
  have HA := hid ha
  have HN := hid hn
  clear ha hn
  go_enter Try.func29, Try.ntmps29
  go_wp2_with (first
    | (refine wpList_boxa (x := x) rfl (.tmp 0) rfl rfl ?_; intro w1 v1 b1 s1)
    | (refine wpList_ala rfl rfl ?_; intro w2 r2 b2 s2; have v2 := v1.below b2 v1.lt; have B2 : Hid (Below w.heap.size w w2) := hid (b1.trans (b2.mono b1.size)); have c0 : w2.cell? ⟨w.heap.size, 5, none⟩ = some (.slice x.A x.n x.c) := v2.c5)
    | (go_at_call 40; refine (clone_any x.A x.n x.c B x.b w2 (HA.out.below (B2.out.mono hB)) HN.out (Nat.le_trans hB B2.out.size)).mono ?_; rintro e w3 ⟨A3, c3, rfl, own3, b3⟩; have v3 := v2.below b3 v2.lt; have r3 := r2.below b3 r2.lt; have B3 : Hid (Below w.heap.size w w3) := hid (B2.out.trans (b3.mono B2.out.size)))
    | (refine wpList_sf { x with A := A3, c := c3 } 5 (.slice A3 x.n c3) rfl 23 (.tmp 6) (.tmp 5) rfl rfl rfl v3 rfl (by omega) rfl rfl size23 ?_; intro w4 v4 b4 o4 _; have r4 := r3.other o4 (by have := v1.lt; omega); have B4 : Hid (Below w.heap.size w w4) := hid (B3.out.trans b4); have own4 := own3.other (w' := w4) (fun g hg => o4 g (by have := v2.lt; omega)))
    | (refine wpList_lda (x := { x with A := A3, c := c3 }) rfl (.tmp 1) rfl rfl v4 ?_)
    | (refine wpList_sva (x := { x with A := A3, c := c3 }) rfl (.tmp 2) (.tmp 7) rfl rfl rfl r4 ?_; intro w5 r5 b5 o5 _; have B5 : Hid (Below w.heap.size w w5) := hid (B4.out.trans (b5.mono b1.size)); have own5 := own4.other (w' := w5) (fun g hg => o5 g (by have := r2.lt; omega))))
  refine bodyPost_ret (w := w5) (results_a Try.results29 _ rfl r5) rfl ?_
  exact ⟨A3, c3, rfl, own5.base_le B2.out.size, B5.out⟩
/-- Do two meet? -/
def meet (x y : Ar) : Bool := decide (x.ch = y.ch) && (decide (x.sa < y.en) && decide (y.sa < x.en))
theorem meet_any (x y : Ar) (w : World) : Calls Try.prog 16 #[itv x, itv y] w fun e w' => e = .returned (.bool (meet x y)) ∧ Below w.heap.size w w' := by
  have HM : Hid (meet x y = (decide (x.ch = y.ch) && (decide (x.sa < y.en) && decide (y.sa < x.en)))) := hid rfl
  go_enter Try.func16, Try.ntmps16
  go_wp2_with (first
    | (refine wpList_boxa (x := x) rfl (.tmp 0) rfl rfl ?_; intro w1 v1 b1 s1)
    | (refine wpList_boxa (x := y) rfl (.tmp 1) rfl rfl ?_; intro w2 u2 b2 s2; have v2 := v1.below b2 v1.lt; have B2 : Hid (Below w.heap.size w w2) := hid (b1.trans (b2.mono b1.size)); have q2 := v2.c2; have q3 := v2.c3; have q4 := v2.c4; have p2 := u2.c2; have p3 := u2.c3; have p4 := u2.c4; clear v1 v2 u2 b1 b2))
  all_goals
    go_ret
    exact ⟨ret_bool (by rw [HM.out]; first | (simp_all; done) | (simp_all; omega) | (simp_all; intros; omega)), B2.out⟩
end Go.Proofs.Ytjmkhhmibkiijaa
