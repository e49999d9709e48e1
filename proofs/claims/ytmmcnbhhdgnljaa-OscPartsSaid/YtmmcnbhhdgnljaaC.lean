/-
  osc.Check and osc.Rate: what they answer, at every oscillator.
-/
import Derived.Test.YtmmcnbhhdgnljaaV
namespace Go.Proofs.Ytmmcnbhhdgnljaa
open Go Go.RowKit
def Ok (x : Oc) : Prop := 1 ≤ x.p ∧ x.p ≤ 1000000000 ∧ -1000000 ≤ x.d ∧ x.d ≤ 1000000 ∧ 0 ≤ x.r ∧ x.r < 1000000000
instance (x : Oc) : Decidable (Ok x) := by unfold Ok; infer_instance
def okE (x : Oc) : Int := if Ok x then 0 else 1

theorem check_ok (p d r : Int) (w : World) (h : Ok ⟨p, d, r⟩) : Calls Try.prog 9 #[ov ⟨p, d, r⟩] w fun e w' => e = .returned (.int .i64 0) ∧ Below w.heap.size w w' := by
  obtain ⟨h1, h2, h3, h4, h5, h6⟩ := h
  simp only at h1 h2 h3 h4 h5 h6
  go_enter Try.func9, Try.ntmps9
  go_wp2_with (first
    | (refine wpList_boxo (x := ⟨p, d, r⟩) rfl (.tmp 0) rfl rfl ?_; intro w1 v1 b1 s1; have c0 : w1.cell? ⟨w.heap.size, 0, none⟩ = some (.int .i64 p) := v1.c0; have c1 : w1.cell? ⟨w.heap.size, 1, none⟩ = some (.int .i64 d) := v1.c1; have c2 : w1.cell? ⟨w.heap.size, 2, none⟩ = some (.int .i64 r) := v1.c2))
  go_ret
  exact ⟨rfl, b1⟩
theorem check_bad (p d r : Int) (w : World) (h : ¬ Ok ⟨p, d, r⟩) : Calls Try.prog 9 #[ov ⟨p, d, r⟩] w fun e w' => e = .returned (.int .i64 1) ∧ Below w.heap.size w w' := by
  have H := hid h
  clear h
  go_enter Try.func9, Try.ntmps9
  go_wp2_with (first
    | (refine wpList_boxo (x := ⟨p, d, r⟩) rfl (.tmp 0) rfl rfl ?_; intro w1 v1 b1 s1; have c0 : w1.cell? ⟨w.heap.size, 0, none⟩ = some (.int .i64 p) := v1.c0; have c1 : w1.cell? ⟨w.heap.size, 1, none⟩ = some (.int .i64 d) := v1.c1; have c2 : w1.cell? ⟨w.heap.size, 2, none⟩ = some (.int .i64 r) := v1.c2))
  all_goals
    go_ret
    first
      | exact ⟨rfl, b1⟩
      | (exfalso; exact H.out ⟨by simp_all <;> omega, by simp_all <;> omega, by simp_all <;> omega, by simp_all <;> omega, by simp_all <;> omega, by simp_all <;> omega⟩)
theorem rate_range {p d : Int} (h1 : 1 ≤ p) (h2 : p ≤ 1000000000) (h3 : -1000000 ≤ d) (h4 : d ≤ 1000000) : 999000000 ≤ p * (1000000000 + d) ∧ p * (1000000000 + d) ≤ 1001000000000000000 := by
  have a1 : 1 * 999000000 ≤ p * (1000000000 + d) := Int.mul_le_mul h1 (by omega) (by omega) (by omega)
  have a2 : p * (1000000000 + d) ≤ 1000000000 * 1001000000 := Int.mul_le_mul h2 (by omega) (by omega) (by omega)
  omega
theorem rate_ok (p d r T : Int) (w : World) (h : Ok ⟨p, d, r⟩) (hT : p * (1000000000 + d) = T) : Calls Try.prog 14 #[ov ⟨p, d, r⟩] w fun e w' => e = .returned (.tuple #[.int .i64 T, .int .i64 0]) ∧ Below w.heap.size w w' := by
  have HK := hid h
  obtain ⟨h1, h2, h3, h4, h5, h6⟩ := h
  simp only at h1 h2 h3 h4 h5 h6
  have hr := rate_range h1 h2 h3 h4
  have HM := hid (fun w => mul_ok p (1000000000 + d) w (by omega) (by omega) (by omega) (by omega) (div_low _ _ (by
    have : ((p.natAbs * (1000000000 + d).natAbs : Nat) : Int) = p * (1000000000 + d) := by rw [Int.natCast_mul, show ((p.natAbs : Nat) : Int) = p by omega, show (((1000000000 + d).natAbs : Nat) : Int) = 1000000000 + d by omega]
    omega) (by omega) (by omega)) (by omega) (by omega))
  rw [hT] at HM
  clear hr hT
  go_enter Try.func14, Try.ntmps14
  go_wp2_with (first
    | (refine wpList_boxo (x := ⟨p, d, r⟩) rfl (.tmp 0) rfl rfl ?_; intro w1 v1 b1 s1)
    | (refine wpList_ldo rfl (.tmp 1) rfl rfl v1 ?_)
    | (go_at_call 9; refine (check_ok p d r w1 HK.out).mono ?_; rintro e w2 ⟨rfl, b2⟩; have v2 := v1.keep b2; have B2 : Hid (Below w.heap.size w w2) := hid (b1.trans (b2.mono b1.size)); have c0 : w2.cell? ⟨w.heap.size, 0, none⟩ = some (.int .i64 p) := v2.c0; have c1 : w2.cell? ⟨w.heap.size, 1, none⟩ = some (.int .i64 d) := v2.c1)
    | (go_at_call 19; refine (HM.out w2).mono ?_; rintro e w3 ⟨rfl, b3⟩; have B3 : Hid (Below w.heap.size w w3) := hid (B2.out.trans (b3.mono B2.out.size))))
  go_ret2
  exact ⟨rfl, B3.out⟩
theorem rate_bad (p d r : Int) (w : World) (h : ¬ Ok ⟨p, d, r⟩) : Calls Try.prog 14 #[ov ⟨p, d, r⟩] w fun e w' => e = .returned (.tuple #[.int .i64 0, .int .i64 1]) ∧ Below w.heap.size w w' := by
  have HK := hid h
  clear h
  go_enter Try.func14, Try.ntmps14
  go_wp2_with (first
    | (refine wpList_boxo (x := ⟨p, d, r⟩) rfl (.tmp 0) rfl rfl ?_; intro w1 v1 b1 s1)
    | (refine wpList_ldo rfl (.tmp 1) rfl rfl v1 ?_)
    | (go_at_call 9; refine (check_bad p d r w1 HK.out).mono ?_; rintro e w2 ⟨rfl, b2⟩; have B2 : Hid (Below w.heap.size w w2) := hid (b1.trans (b2.mono b1.size))))
  go_ret2
  exact ⟨rfl, B2.out⟩
end Go.Proofs.Ytmmcnbhhdgnljaa
