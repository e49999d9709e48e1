/-
  The statement FtaLies of layer 9, proved: the law function returns true at every input of its types and leaves its arguments as they were. No condition is added.
-/
import Derived.Test.YteccfocngpdnnaaJ
namespace Go.Proofs.Yteccfocngpdnnaa
open Go Go.ChangeShapes Go.WideShapes Go.ChangeAt Go.RowKit

set_option maxRecDepth 100000 in
theorem ftaLies_lifted (os : Os) (started : os.Started) (H : Type) (enc : TypeId × Value → H) :
    ReturnsInHanded {} Try.checked os 3 .any (Rows.ftaLiesSpec.pre6 enc Try.prog Try.f3 Rows.ftaLiesRow.domain false) (Rows.ftaLiesSpec.post enc Try.prog Try.f3 false true false false) := by
  refine returnsInHanded_of_change_sized (C := Try.checked) own started (by kernel_rfl) Try.func3
    (ChangeSpec.witness6 (enc := enc) (C := Try.checked) false ⟨#[], #[.slice none 0 0, .slice none 0 0, .slice none 0 0, .int .i64 0, .int .i64 0], []⟩ 8 (by kernel_rfl) (by kernel_rfl) (by kernel_rfl) (by kernel_rfl)) ?_
  intro W base args ds gs before hval0 hW _ hsz0 _
  have hval : ∀ (j : Nat) t v, Try.f3.params[j]? = some t → args[j]? = some v → Value.okWide Try.prog W .any base t v := hval0
  have hsz : (DataW.weightsEach Try.prog (Try.f3.params.toList ++ Rows.ftaLiesSpec.plain.varTypes Try.prog) (ds ++ gs)).all (· ≤ reachBytes) = true := hsz0
  have hW' := hW
  obtain ⟨p, q, hA0, hV, rfl, hfz, hnd⟩ := hW
  have hA : DataW.TrodAll enc Try.prog W 0 (fun _ => true) true Try.f3.params.toList args.toList ds p := hA0
  rw [Try.params3] at hA hval hsz
  obtain ⟨v0, vs0, d0, ds0, p0, q0, hargs, rfl, rfl, h0, r0⟩ := trodAll_cons hA
  obtain ⟨v1, vs1, d1, ds1, p1, q1, rfl, rfl, rfl, h1, r1⟩ := trodAll_cons r0
  obtain ⟨v2, vs2, d2, ds2, p2, q2, rfl, rfl, rfl, h2, r2⟩ := trodAll_cons r1
  obtain ⟨v3, vs3, d3, ds3, p3, q3, rfl, rfl, rfl, h3, r3⟩ := trodAll_cons r2
  obtain ⟨v4, vs4, d4, ds4, p4, q4, rfl, rfl, rfl, h4, r4⟩ := trodAll_cons r3
  obtain ⟨rfl, rfl, rfl⟩ := trodAll_nil r4
  obtain rfl : args = #[v0, v1, v2, v3, v4] := by cases args; simp_all
  obtain ⟨rfl, rfl⟩ := trodVars_none hV
  obtain ⟨a0, n0, c0, rfl⟩ := okWide_slice Try.underlying22 (hval 0 22 v0 rfl rfl)
  have k0 := h0
  obtain ⟨z0, w0, s0⟩ := came_of (k := .i32) Try.underlying22 Try.underlying21 (by kernel_rfl) h0
  have m0 : c0 ≤ 140737488351232 := by
    rcases s0 with ⟨_, e⟩ | ⟨l, r, rfl, hl⟩
    · omega
    · have hs := sized_slice hsz (j := 0) (t := 22) (e := 21) rfl rfl Try.underlying22
      rw [show Try.prog.bytesOf 21 = 4 from by kernel_rfl, hl] at hs
      simp only [reachBytes] at hs
      omega
  obtain ⟨a1, n1, c1, rfl⟩ := okWide_slice Try.underlying23 (hval 1 23 v1 rfl rfl)
  have k1 := h1
  obtain ⟨z1, w1, s1⟩ := came_of (k := .i16) Try.underlying23 Try.underlying26 (by kernel_rfl) h1
  have m1 : c1 ≤ 140737488351232 := by
    rcases s1 with ⟨_, e⟩ | ⟨l, r, rfl, hl⟩
    · omega
    · have hs := sized_slice hsz (j := 1) (t := 23) (e := 26) rfl rfl Try.underlying23
      rw [show Try.prog.bytesOf 26 = 2 from by kernel_rfl, hl] at hs
      simp only [reachBytes] at hs
      omega
  obtain ⟨a2, n2, c2, rfl⟩ := okWide_slice Try.underlying23 (hval 2 23 v2 rfl rfl)
  have k2 := h2
  obtain ⟨z2, w2, s2⟩ := came_of (k := .i16) Try.underlying23 Try.underlying26 (by kernel_rfl) h2
  have m2 : c2 ≤ 140737488351232 := by
    rcases s2 with ⟨_, e⟩ | ⟨l, r, rfl, hl⟩
    · omega
    · have hs := sized_slice hsz (j := 2) (t := 23) (e := 26) rfl rfl Try.underlying23
      rw [show Try.prog.bytesOf 26 = 2 from by kernel_rfl, hl] at hs
      simp only [reachBytes] at hs
      omega
  obtain ⟨a3, rfl, rfl, rfl, w3⟩ := open_int Try.underlying2 (hval 3 2 v3 rfl rfl) h3
  have b3 := bounds_i64 w3
  obtain ⟨a4, rfl, rfl, rfl, w4⟩ := open_int Try.underlying2 (hval 4 2 v4 rfl rfl) h4
  have b4 := bounds_i64 w4
  clear hA0 hval0
  refine (lies_row (w := W) a0 n0 c0 z0 w0 m0 a1 n1 c1 z1 w1 m1 a2 n2 c2 z2 w2 m2 a3 b3.1 b3.2 a4 b4.1 b4.2).mono fun e W' ⟨he, bel⟩ => ?_
  subst he
  exact ⟨_, rfl, _, _, _, [], _, [], hW', trodAll_mk1 (shut_bool Try.underlying4 _), (trodAll_cons_mk (Below.trod laidOut (by kernel_rfl) (of_decide_eq_true (by kernel_rfl)) k0 bel (trod_lt0 k0)) (trodAll_cons_mk (Below.trod laidOut (by kernel_rfl) (of_decide_eq_true (by kernel_rfl)) k1 bel (trod_lt0 k1)) (trodAll_cons_mk (Below.trod laidOut (by kernel_rfl) (of_decide_eq_true (by kernel_rfl)) k2 bel (trod_lt0 k2)) (trodAll_cons_mk (shut_int Try.underlying2 w3) (trodAll_cons_mk (shut_int Try.underlying2 w4) trodAll_mk0))))), rfl, bel.frame _, fun h => by cases h⟩

theorem ftaLies_holds : Rows.FtaLiesSaid :=
  OpenClaim.holds_of_wide 3 Try.f3 rfl rfl rfl rfl rfl rfl rfl ⟨rfl, rfl, rfl, rfl, rfl⟩ rfl rfl rfl rfl rfl (by kernel_rfl) Try.func3 (by kernel_rfl)
    (of_decide_eq_true (by kernel_rfl)) (by unfold Func.isWrapper; first | (rw [if_pos (by decide +kernel)]; kernel_rfl) | (rw [if_neg (by decide +kernel)]; exact ⟨rfl, rfl⟩))
    (fun os started H enc _ => ftaLies_lifted os started H enc)
#print axioms ftaLies_holds
end Go.Proofs.Yteccfocngpdnnaa
