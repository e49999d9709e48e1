/-
  medium.may and the document's may: what they tell. No condition.
-/
import Derived.Test.YtjmkhhmibkiijaaB
namespace Go.Proofs.Ytjmkhhmibkiijaa
open Go Go.RowKit

/-- May it be on a channel? -/
def mayA (x : Ar) : Bool := decide (0 ≤ x.fr) && (decide (x.fr < 16) && (decide (0 ≤ x.ch) && (decide (x.ch < 2) && ((timeB x.sa && timeB x.en) && (decide (0 ≤ x.sa) && (decide (x.sa < x.en) && (decide (x.n ≤ 64) && (decide (1 ≤ x.lf) && decide (x.lf ≤ 16)))))))))
set_option maxHeartbeats 2000000 in
theorem may_air (x : Ar) (w : World) : Calls Try.prog 31 #[itv x] w fun e w' => e = .returned (.bool (mayA x)) ∧ Below w.heap.size w w' := by
  have HM : Hid (mayA x = (decide (0 ≤ x.fr) && (decide (x.fr < 16) && (decide (0 ≤ x.ch) && (decide (x.ch < 2) && ((timeB x.sa && timeB x.en) && (decide (0 ≤ x.sa) && (decide (x.sa < x.en) && (decide (x.n ≤ 64) && (decide (1 ≤ x.lf) && decide (x.lf ≤ 16))))))))))) := hid rfl
  have HP : Hid (∀ b c w, w.cell? ⟨b, 0, none⟩ = some (.int .i64 x.sa) → w.cell? ⟨b, 1, none⟩ = some (.int .i64 x.en) → Calls Try.prog 37 #[.slice (some ⟨b, 0, none⟩) 2 c] w fun e w' => e = .returned (.bool (timeB x.sa && timeB x.en)) ∧ Below w.heap.size w w') :=
    hid (fun b c w hc hc1 => (may_2 b c x.sa x.en (timeB x.sa && timeB x.en) rfl w hc hc1).mono fun e w' ⟨he, hw⟩ => ⟨he, hw ▸ Below.refl _ _⟩)
  generalize (timeB x.sa && timeB x.en) = T at *
  generalize mayA x = R at *
  go_enter Try.func31, Try.ntmps31
  go_wp2_with (first
    | (refine wpList_boxa (x := x) rfl (.tmp 0) rfl rfl ?_; intro w1 v1 b1 s1; have q1 := v1.c1; have q2 := v1.c2; have q3 := v1.c3; have q4 := v1.c4; have B1 : Hid (Below w.heap.size w w1) := hid b1; have V1 := hid v1; clear v1 b1)
    | (go_at_call 37; refine (HP.out _ _ _ (by simp) (by simp)).mono ?_; rintro e w2 ⟨rfl, b2⟩; have b3 : Below w1.heap.size w1 w2 := ((Below.refl _ _).alloc (Nat.le_refl _) _).trans (b2.mono (by simp)); have B2 : Hid (Below w.heap.size w w2) := hid (B1.out.trans (b3.mono B1.out.size)); have v2 := V1.out.below b3 V1.out.lt; have p3 := v2.c3; have p4 := v2.c4; have p5 := v2.c5; have p7 := v2.c7; clear b2 b3 v2; cases T))
  all_goals
    go_ret
    exact ⟨ret_bool (by rw [HM.out]; first | (simp_all; done) | (simp_all; omega) | (simp_all; intros; omega)), by first | exact B2.out | exact B1.out⟩
set_option maxHeartbeats 2000000 in
theorem rmay_air (x : Ar) (w : World) : Calls Try.prog 23 #[itv x] w fun e w' => e = .returned (.bool (mayA x)) ∧ Below w.heap.size w w' := by
  have HM : Hid (mayA x = (decide (0 ≤ x.fr) && (decide (x.fr < 16) && (decide (0 ≤ x.ch) && (decide (x.ch < 2) && ((timeB x.sa && timeB x.en) && (decide (0 ≤ x.sa) && (decide (x.sa < x.en) && (decide (x.n ≤ 64) && (decide (1 ≤ x.lf) && decide (x.lf ≤ 16))))))))))) := hid rfl
  have HP : Hid (∀ b c w, w.cell? ⟨b, 0, none⟩ = some (.int .i64 x.sa) → w.cell? ⟨b, 1, none⟩ = some (.int .i64 x.en) → Calls Try.prog 39 #[.slice (some ⟨b, 0, none⟩) 2 c] w fun e w' => e = .returned (.bool (timeB x.sa && timeB x.en)) ∧ Below w.heap.size w w') :=
    hid (fun b c w hc hc1 => (rmay_2 b c x.sa x.en (timeB x.sa && timeB x.en) rfl w hc hc1).mono fun e w' ⟨he, hw⟩ => ⟨he, hw ▸ Below.refl _ _⟩)
  generalize (timeB x.sa && timeB x.en) = T at *
  generalize mayA x = R at *
  go_enter Try.func23, Try.ntmps23
  go_wp2_with (first
    | (refine wpList_boxa (x := x) rfl (.tmp 0) rfl rfl ?_; intro w1 v1 b1 s1; have q1 := v1.c1; have q2 := v1.c2; have q3 := v1.c3; have q4 := v1.c4; have B1 : Hid (Below w.heap.size w w1) := hid b1; have V1 := hid v1; clear v1 b1)
    | (go_at_call 39; refine (HP.out _ _ _ (by simp) (by simp)).mono ?_; rintro e w2 ⟨rfl, b2⟩; have b3 : Below w1.heap.size w1 w2 := ((Below.refl _ _).alloc (Nat.le_refl _) _).trans (b2.mono (by simp)); have B2 : Hid (Below w.heap.size w w2) := hid (B1.out.trans (b3.mono B1.out.size)); have v2 := V1.out.below b3 V1.out.lt; have p3 := v2.c3; have p4 := v2.c4; have p5 := v2.c5; have p7 := v2.c7; clear b2 b3 v2; cases T))
  all_goals
    go_ret
    exact ⟨ret_bool (by rw [HM.out]; rw [Bool.eq_iff_iff]; first | (simp; done) | (simp; omega) | (simp_all; done) | (simp_all; omega)), by first | exact B2.out | exact B1.out⟩
end Go.Proofs.Ytjmkhhmibkiijaa
