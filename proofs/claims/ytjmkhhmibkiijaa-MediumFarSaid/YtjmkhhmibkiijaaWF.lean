/-
  The walk of MediumFar, whatever came in.
-/
import Derived.Test.YtjmkhhmibkiijaaAR
import Derived.Test.YtjmkhhmibkiijaaG
import Derived.Test.YtjmkhhmibkiijaaR
namespace Go.Proofs.Ytjmkhhmibkiijaa
open Go Go.RowKit

theorem and39 (t : Int) : 0 ≤ bits .and .i64 t 549755813887 ∧ bits .and .i64 t 549755813887 ≤ 549755813887 := by
  have e : bits .and .i64 t 549755813887 = IntKind.i64.wrap (((BitVec.ofInt 64 t).toNat &&& 549755813887 : Nat) : Int) := by
    simp only [bits, BitVec.toNat_and]; rfl
  have a : (BitVec.ofInt 64 t).toNat &&& 549755813887 ≤ 549755813887 := Nat.and_le_right
  rw [e, IntKind.wrap_i64]
  omega
/-- Two rows of two numbers. -/
def far2 (g : Nat) (F : Int) : List Ro := [⟨some ⟨g, 0, none⟩, 2, 2, [0, F]⟩, ⟨some ⟨g + 1, 0, none⟩, 2, 2, [0, 0]⟩]
theorem far_del (g : Nat) (F : Int) (h1 : 0 ≤ F) (h2 : F ≤ 1099511627776) : delB ((2 : Nat) : Int) (far2 g F) = true := by
  have e : anyB (rowW 2 (far2 g F)) 2 = false := anyB_no fun i hi => by
    have e1 : decide (0 ≤ F) = true := decide_eq_true h1
    have e2 : decide (F ≤ 1099511627776) = true := decide_eq_true h2
    have hi2 : i = 0 ∨ i = 1 := by omega
    rcases hi2 with rfl | rfl
    · refine rowW_ok rfl fun k hk => ?_
      have hk2 : k = 0 ∨ k = 1 := by omega
      rcases hk2 with rfl | rfl
      · rfl
      · show mb ((0 : Nat) : Int) ((1 : Nat) : Int) F = true
        unfold mb; rw [if_neg (by decide), e1, e2]; rfl
    · refine rowW_ok rfl fun k hk => ?_
      have hk2 : k = 0 ∨ k = 1 := by omega
      rcases hk2 with rfl | rfl
      · rfl
      · rfl
  have e' : (far2 g F).length = 2 := rfl
  unfold delB; rw [e', e]; rfl
theorem far_arr (x : Ar) (g : Nat) (F : Int) (h1 : 0 ≤ F) (h2 : F ≤ 1099511627776) (h3 : x.fr = 0) :
    arr x 1 (far2 g F) = if mayA x then (if 1152921504606846976 < x.en + F then (0, 0, 2) else (x.sa + F, x.en + F, 0)) else (0, 0, 1) := by
  have e' : (far2 g F).length = 2 := rfl
  have hb : arrB x 1 (far2 g F) = mayA x := by
    unfold arrB
    rw [e', far_del g F h1 h2, h3]
    cases mayA x <;> rfl
  have hz : arrZ x 1 (far2 g F) = F := by unfold arrZ; rw [h3]; rfl
  unfold arr
  rw [hb, hz]
theorem far_call (x : Ar) (F : Int) (w : World) (T : Int × Int × Int) (h1 : 0 ≤ F) (h2 : F ≤ 1099511627776) (h3 : x.fr = 0) (hT : (if mayA x then (if 1152921504606846976 < x.en + F then (0, 0, 2) else (x.sa + F, x.en + F, 0)) else (0, 0, 1)) = T) :
    Calls Try.prog 10 #[itv x, .int .i64 1, .slice (some ⟨w.heap.size + 1 + 1, 0, none⟩) 2 2] (((w.alloc (.cells #[.int .i64 0, .int .i64 F] 2)).alloc (.cells #[.int .i64 0, .int .i64 0] 2)).alloc (.cells #[.slice (some ⟨w.heap.size, 0, none⟩) 2 2, .slice (some ⟨w.heap.size + 1, 0, none⟩) 2 2] 46)) (RetT w T) := by
  have hmx : Mx (((w.alloc (.cells #[.int .i64 0, .int .i64 F] 2)).alloc (.cells #[.int .i64 0, .int .i64 0] 2)).alloc (.cells #[.slice (some ⟨w.heap.size, 0, none⟩) 2 2, .slice (some ⟨w.heap.size + 1, 0, none⟩) 2 2] 46)) (w.heap.size + 1 + 1 + 1) (some ⟨w.heap.size + 1 + 1, 0, none⟩) 2 (far2 w.heap.size F) := by
    refine ⟨Row.laid' ((w.alloc (.cells #[.int .i64 0, .int .i64 F] 2)).alloc (.cells #[.int .i64 0, .int .i64 0] 2)) 46 ((far2 w.heap.size F).map rv) (w.heap.size + 1 + 1) (by simp), fun r hr => ?_⟩
    have h0 : Row (((w.alloc (.cells #[.int .i64 0, .int .i64 F] 2)).alloc (.cells #[.int .i64 0, .int .i64 0] 2)).alloc (.cells #[.slice (some ⟨w.heap.size, 0, none⟩) 2 2, .slice (some ⟨w.heap.size + 1, 0, none⟩) 2 2] 46)) (w.heap.size + 1) (some ⟨w.heap.size, 0, none⟩) 2 (sv [0, F]) :=
      ((Row.laid' w 2 (sv [0, F]) w.heap.size rfl).alloc (by simp) _).alloc (by simp) _
    have h1 : Row (((w.alloc (.cells #[.int .i64 0, .int .i64 F] 2)).alloc (.cells #[.int .i64 0, .int .i64 0] 2)).alloc (.cells #[.slice (some ⟨w.heap.size, 0, none⟩) 2 2, .slice (some ⟨w.heap.size + 1, 0, none⟩) 2 2] 46)) (w.heap.size + 1 + 1) (some ⟨w.heap.size + 1, 0, none⟩) 2 (sv [0, 0]) :=
      (Row.laid' (w.alloc (.cells #[.int .i64 0, .int .i64 F] 2)) 2 (sv [0, 0]) (w.heap.size + 1) (by simp)).alloc (by simp) _
    simp only [far2, List.mem_cons, List.not_mem_nil, or_false] at hr
    rcases hr with rfl | rfl
    · exact h0.more (by omega)
    · exact h1.more (by omega)
  have hs : (((w.alloc (.cells #[.int .i64 0, .int .i64 F] 2)).alloc (.cells #[.int .i64 0, .int .i64 0] 2)).alloc (.cells #[.slice (some ⟨w.heap.size, 0, none⟩) 2 2, .slice (some ⟨w.heap.size + 1, 0, none⟩) 2 2] 46)).heap.size = w.heap.size + 1 + 1 + 1 := by simp
  have hbel : Below w.heap.size w (((w.alloc (.cells #[.int .i64 0, .int .i64 F] 2)).alloc (.cells #[.int .i64 0, .int .i64 0] 2)).alloc (.cells #[.slice (some ⟨w.heap.size, 0, none⟩) 2 2, .slice (some ⟨w.heap.size + 1, 0, none⟩) 2 2] 46)) :=
    (((Below.refl _ _).alloc (Nat.le_refl _) _).alloc (by simp) _).alloc (by simp; omega) _
  have h := arrive_any x 1 (some ⟨w.heap.size + 1 + 1, 0, none⟩) 2 2 (w.heap.size + 1 + 1 + 1) (far2 w.heap.size F) _ hmx (by rw [hs]; omega) (by omega)
  rw [far_arr x _ F h1 h2 h3, hT] at h
  exact h.mono fun e w' ⟨he, hb⟩ => ⟨he, hbel.trans (hb.mono hbel.size)⟩

set_option maxRecDepth 100000 in
set_option maxHeartbeats 4000000 in
theorem far_row {w : World} (x : Ar) (_hx : Row w w.heap.size x.A x.n (bv x.b)) (_ho : AirOk x) (to : Int) (_t1 : -9223372036854775808 ≤ to) (_t2 : to ≤ 9223372036854775807) (far : Int) (_f1 : -9223372036854775808 ≤ far) (_f2 : far ≤ 9223372036854775807) (more : Int) (_m1 : -9223372036854775808 ≤ more) (_m2 : more ≤ 9223372036854775807) :
    Calls Try.prog 6 #[itv x, .int .i64 to, .int .i64 far, .int .i64 more] w fun e w' => e = .returned (.bool true) ∧ Below w.heap.size w w' := by
  clear _hx _ho _t1 _t2 _f1 _f2 _m1 _m2
  by_cases hn : 200 < x.n
  · have d : decide ((200 : Int) < (x.n : Int)) = true := decide_eq_true (by omega)
    clear hn
    go_enter Try.func6, Try.ntmps6
    go_wp2_with (first
      | (go_at_call 8; refine (live_any w1).mono ?_; rintro e w2 ⟨rfl, b2⟩; have B2 : Hid (Below w.heap.size w w2) := hid (b1.trans (b2.mono b1.size)); have v2 := v1.below b2 v1.lt; have q5 := v2.c5; have V2 := hid v2; clear v2)
      | (refine wpList_boxa (x := x) rfl (.tmp 0) rfl rfl ?_; intro w1 v1 b1 s1))
    go_ret
    exact ⟨rfl, B2.out⟩
  · have d : decide ((200 : Int) < (x.n : Int)) = false := decide_eq_false (by omega)
    clear hn
    obtain ⟨F, hF⟩ : ∃ F, bits .and .i64 far 549755813887 = F := ⟨_, rfl⟩
    obtain ⟨M, hM⟩ : ∃ M, bits .and .i64 more 549755813887 = M := ⟨_, rfl⟩
    have fF : 0 ≤ F ∧ F ≤ 549755813887 := hF ▸ and39 far
    have fM : 0 ≤ M ∧ M ≤ 549755813887 := hM ▸ and39 more
    obtain ⟨FM, hFM⟩ : ∃ FM, IntKind.i64.wrap (F + M) = FM := ⟨_, rfl⟩
    have hFM2 : FM = F + M := by rw [← hFM, IntKind.wrap_i64]; omega
    have HF : Hid (0 ≤ F ∧ F ≤ 1099511627776) := hid (by omega)
    have HFM : Hid (0 ≤ FM ∧ FM ≤ 1099511627776) := hid (by omega)
    obtain ⟨y, hy⟩ : ∃ y : Ar, { x with fr := 0 } = y := ⟨_, rfl⟩
    have hy0 : y.fr = 0 := by rw [← hy]
    have HY : Hid (enc y = (enc x).set 1 (.int .i64 0)) := hid (by rw [← hy]; rfl)
    have HC : Hid (∀ w (F : Int) T, 0 ≤ F → F ≤ 1099511627776 → (if mayA y then (if 1152921504606846976 < y.en + F then (0, 0, 2) else (y.sa + F, y.en + F, 0)) else (0, 0, 1)) = T →
      Calls Try.prog 10 #[itv y, .int .i64 1, .slice (some ⟨w.heap.size + 1 + 1, 0, none⟩) 2 2] (((w.alloc (.cells #[.int .i64 0, .int .i64 F] 2)).alloc (.cells #[.int .i64 0, .int .i64 0] 2)).alloc (.cells #[.slice (some ⟨w.heap.size, 0, none⟩) 2 2, .slice (some ⟨w.heap.size + 1, 0, none⟩) 2 2] 46)) (RetT w T)) := hid fun w F T h1 h2 hT => far_call y F w T h1 h2 hy0 hT
    clear hy hy0
    cases hm : mayA y with
    | false =>
        have HT1 : Hid ((if mayA y then (if 1152921504606846976 < y.en + F then ((0 : Int), (0 : Int), (2 : Int)) else (y.sa + F, y.en + F, 0)) else (0, 0, 1)) = (0, 0, 1)) := hid (by rw [hm]; rfl)
        have HT2 : Hid ((if mayA y then (if 1152921504606846976 < y.en + FM then ((0 : Int), (0 : Int), (2 : Int)) else (y.sa + FM, y.en + FM, 0)) else (0, 0, 1)) = (0, 0, 1)) := hid (by rw [hm]; rfl)
        have HT3 : Hid ((if mayA y then (if 1152921504606846976 < y.en + 0 then ((0 : Int), (0 : Int), (2 : Int)) else (y.sa + 0, y.en + 0, 0)) else (0, 0, 1)) = (0, 0, 1)) := hid (by rw [hm]; rfl)
        have K1 : Hid (∀ w, Calls Try.prog 10 #[itv y, .int .i64 1, .slice (some ⟨w.heap.size + 1 + 1, 0, none⟩) 2 2] (((w.alloc (.cells #[.int .i64 0, .int .i64 F] 2)).alloc (.cells #[.int .i64 0, .int .i64 0] 2)).alloc (.cells #[.slice (some ⟨w.heap.size, 0, none⟩) 2 2, .slice (some ⟨w.heap.size + 1, 0, none⟩) 2 2] 46)) (RetT w (0, 0, 1))) := hid fun w => HC.out w F _ HF.out.1 HF.out.2 HT1.out
        have K2 : Hid (∀ w, Calls Try.prog 10 #[itv y, .int .i64 1, .slice (some ⟨w.heap.size + 1 + 1, 0, none⟩) 2 2] (((w.alloc (.cells #[.int .i64 0, .int .i64 FM] 2)).alloc (.cells #[.int .i64 0, .int .i64 0] 2)).alloc (.cells #[.slice (some ⟨w.heap.size, 0, none⟩) 2 2, .slice (some ⟨w.heap.size + 1, 0, none⟩) 2 2] 46)) (RetT w (0, 0, 1))) := hid fun w => HC.out w FM _ HFM.out.1 HFM.out.2 HT2.out
        have K3 : Hid (∀ w, Calls Try.prog 10 #[itv y, .int .i64 1, .slice (some ⟨w.heap.size + 1 + 1, 0, none⟩) 2 2] (((w.alloc (.cells #[.int .i64 0, .int .i64 0] 2)).alloc (.cells #[.int .i64 0, .int .i64 0] 2)).alloc (.cells #[.slice (some ⟨w.heap.size, 0, none⟩) 2 2, .slice (some ⟨w.heap.size + 1, 0, none⟩) 2 2] 46)) (RetT w (0, 0, 1))) := hid fun w => HC.out w 0 _ (by omega) (by omega) HT3.out
        clear HT1 HT2 HT3 HC
        clear hm fF fM hFM2
        go_enter Try.func6, Try.ntmps6
        go_wp2_with (first
          | (go_at_call 10; refine (K3.out w5).mono ?_; rintro e w6 ⟨rfl, b6⟩; have B6 : Hid (Below w.heap.size w w6) := hid (B5.out.trans (b6.mono B5.out.size)); have v6 := v5.below b6 v5.lt; have k3 := v6.c3; have k4 := v6.c4)
          | (refine wpList_lda (x := y) rfl (.tmp 4) rfl rfl v5 ?_)
          | (go_at_call 10; refine (K2.out w4).mono ?_; rintro e w5 ⟨rfl, b5⟩; have B5 : Hid (Below w.heap.size w w5) := hid (B4.out.trans (b5.mono B4.out.size)); have v5 := v4.below b5 v4.lt)
          | (refine wpList_lda (x := y) rfl (.tmp 4) rfl rfl v4 ?_)
          | (go_at_call 10; refine (K1.out w3).mono ?_; rintro e w4 ⟨rfl, b4⟩; have B4 : Hid (Below w.heap.size w w4) := hid (B3.out.trans (b4.mono B3.out.size)); have v4 := v3.below b4 v3.lt)
          | (refine wpList_lda (x := y) rfl (.tmp 4) rfl rfl v3 ?_)
          | (refine wpList_sf y 1 (.int .i64 0) rfl 3 (.tmp 31) (.const (.int .i64 0)) rfl rfl rfl V2.out HY.out (by omega) rfl rfl size3 ?_; intro w3 v3 b3 o3 s3; have B3 : Hid (Below w.heap.size w w3) := hid (B2.out.trans b3); clear q5)
          | (go_at_call 8; refine (live_any w1).mono ?_; rintro e w2 ⟨rfl, b2⟩; have B2 : Hid (Below w.heap.size w w2) := hid (b1.trans (b2.mono b1.size)); have v2 := v1.below b2 v1.lt; have q5 := v2.c5; have V2 := hid v2; clear v2)
          | (refine wpList_boxa (x := x) rfl (.tmp 0) rfl rfl ?_; intro w1 v1 b1 s1))
        go_ret
        exact ⟨rfl, B6.out⟩

    | true =>
      obtain ⟨_, s1, s2, s3⟩ := may_parts hm
      by_cases u : 1152921504606846976 < y.en + FM
      · have HT2 : Hid ((if mayA y then (if 1152921504606846976 < y.en + FM then ((0 : Int), (0 : Int), (2 : Int)) else (y.sa + FM, y.en + FM, 0)) else (0, 0, 1)) = (0, 0, 2)) := hid (by rw [hm, if_pos rfl, if_pos u])
        have HT3 : Hid ((if mayA y then (if 1152921504606846976 < y.en + 0 then ((0 : Int), (0 : Int), (2 : Int)) else (y.sa + 0, y.en + 0, 0)) else (0, 0, 1)) = (y.sa, y.en, 0)) := hid (by rw [hm, if_pos rfl, if_neg (by omega)]; simp)
        by_cases u1 : 1152921504606846976 < y.en + F
        · have HT1 : Hid ((if mayA y then (if 1152921504606846976 < y.en + F then ((0 : Int), (0 : Int), (2 : Int)) else (y.sa + F, y.en + F, 0)) else (0, 0, 1)) = (0, 0, 2)) := hid (by rw [hm, if_pos rfl, if_pos u1])
          have K1 : Hid (∀ w, Calls Try.prog 10 #[itv y, .int .i64 1, .slice (some ⟨w.heap.size + 1 + 1, 0, none⟩) 2 2] (((w.alloc (.cells #[.int .i64 0, .int .i64 F] 2)).alloc (.cells #[.int .i64 0, .int .i64 0] 2)).alloc (.cells #[.slice (some ⟨w.heap.size, 0, none⟩) 2 2, .slice (some ⟨w.heap.size + 1, 0, none⟩) 2 2] 46)) (RetT w (0, 0, 2))) := hid fun w => HC.out w F _ HF.out.1 HF.out.2 HT1.out
          have K2 : Hid (∀ w, Calls Try.prog 10 #[itv y, .int .i64 1, .slice (some ⟨w.heap.size + 1 + 1, 0, none⟩) 2 2] (((w.alloc (.cells #[.int .i64 0, .int .i64 FM] 2)).alloc (.cells #[.int .i64 0, .int .i64 0] 2)).alloc (.cells #[.slice (some ⟨w.heap.size, 0, none⟩) 2 2, .slice (some ⟨w.heap.size + 1, 0, none⟩) 2 2] 46)) (RetT w (0, 0, 2))) := hid fun w => HC.out w FM _ HFM.out.1 HFM.out.2 HT2.out
          have K3 : Hid (∀ w, Calls Try.prog 10 #[itv y, .int .i64 1, .slice (some ⟨w.heap.size + 1 + 1, 0, none⟩) 2 2] (((w.alloc (.cells #[.int .i64 0, .int .i64 0] 2)).alloc (.cells #[.int .i64 0, .int .i64 0] 2)).alloc (.cells #[.slice (some ⟨w.heap.size, 0, none⟩) 2 2, .slice (some ⟨w.heap.size + 1, 0, none⟩) 2 2] 46)) (RetT w (y.sa, y.en, 0))) := hid fun w => HC.out w 0 _ (by omega) (by omega) HT3.out
          clear HT1 HT2 HT3 HC
          clear hm fF fM hFM2 u u1 s1 s2 s3
          go_enter Try.func6, Try.ntmps6
          go_wp2_with (first
            | (go_at_call 10; refine (K3.out w5).mono ?_; rintro e w6 ⟨rfl, b6⟩; have B6 : Hid (Below w.heap.size w w6) := hid (B5.out.trans (b6.mono B5.out.size)); have v6 := v5.below b6 v5.lt; have k3 := v6.c3; have k4 := v6.c4)
            | (refine wpList_lda (x := y) rfl (.tmp 4) rfl rfl v5 ?_)
            | (go_at_call 10; refine (K2.out w4).mono ?_; rintro e w5 ⟨rfl, b5⟩; have B5 : Hid (Below w.heap.size w w5) := hid (B4.out.trans (b5.mono B4.out.size)); have v5 := v4.below b5 v4.lt)
            | (refine wpList_lda (x := y) rfl (.tmp 4) rfl rfl v4 ?_)
            | (go_at_call 10; refine (K1.out w3).mono ?_; rintro e w4 ⟨rfl, b4⟩; have B4 : Hid (Below w.heap.size w w4) := hid (B3.out.trans (b4.mono B3.out.size)); have v4 := v3.below b4 v3.lt)
            | (refine wpList_lda (x := y) rfl (.tmp 4) rfl rfl v3 ?_)
            | (refine wpList_sf y 1 (.int .i64 0) rfl 3 (.tmp 31) (.const (.int .i64 0)) rfl rfl rfl V2.out HY.out (by omega) rfl rfl size3 ?_; intro w3 v3 b3 o3 s3; have B3 : Hid (Below w.heap.size w w3) := hid (B2.out.trans b3); clear q5)
            | (go_at_call 8; refine (live_any w1).mono ?_; rintro e w2 ⟨rfl, b2⟩; have B2 : Hid (Below w.heap.size w w2) := hid (b1.trans (b2.mono b1.size)); have v2 := v1.below b2 v1.lt; have q5 := v2.c5; have V2 := hid v2; clear v2)
            | (refine wpList_boxa (x := x) rfl (.tmp 0) rfl rfl ?_; intro w1 v1 b1 s1))
          go_ret
          exact ⟨rfl, B6.out⟩

        · have HT1 : Hid ((if mayA y then (if 1152921504606846976 < y.en + F then ((0 : Int), (0 : Int), (2 : Int)) else (y.sa + F, y.en + F, 0)) else (0, 0, 1)) = (y.sa + F, y.en + F, 0)) := hid (by rw [hm, if_pos rfl, if_neg u1])
          have K1 : Hid (∀ w, Calls Try.prog 10 #[itv y, .int .i64 1, .slice (some ⟨w.heap.size + 1 + 1, 0, none⟩) 2 2] (((w.alloc (.cells #[.int .i64 0, .int .i64 F] 2)).alloc (.cells #[.int .i64 0, .int .i64 0] 2)).alloc (.cells #[.slice (some ⟨w.heap.size, 0, none⟩) 2 2, .slice (some ⟨w.heap.size + 1, 0, none⟩) 2 2] 46)) (RetT w (y.sa + F, y.en + F, 0))) := hid fun w => HC.out w F _ HF.out.1 HF.out.2 HT1.out
          have K2 : Hid (∀ w, Calls Try.prog 10 #[itv y, .int .i64 1, .slice (some ⟨w.heap.size + 1 + 1, 0, none⟩) 2 2] (((w.alloc (.cells #[.int .i64 0, .int .i64 FM] 2)).alloc (.cells #[.int .i64 0, .int .i64 0] 2)).alloc (.cells #[.slice (some ⟨w.heap.size, 0, none⟩) 2 2, .slice (some ⟨w.heap.size + 1, 0, none⟩) 2 2] 46)) (RetT w (0, 0, 2))) := hid fun w => HC.out w FM _ HFM.out.1 HFM.out.2 HT2.out
          have K3 : Hid (∀ w, Calls Try.prog 10 #[itv y, .int .i64 1, .slice (some ⟨w.heap.size + 1 + 1, 0, none⟩) 2 2] (((w.alloc (.cells #[.int .i64 0, .int .i64 0] 2)).alloc (.cells #[.int .i64 0, .int .i64 0] 2)).alloc (.cells #[.slice (some ⟨w.heap.size, 0, none⟩) 2 2, .slice (some ⟨w.heap.size + 1, 0, none⟩) 2 2] 46)) (RetT w (y.sa, y.en, 0))) := hid fun w => HC.out w 0 _ (by omega) (by omega) HT3.out
          clear HT1 HT2 HT3 HC
          generalize y.sa + F = pa at *
          generalize y.en + F = pb at *
          clear hm fF fM hFM2 u u1 s1 s2 s3
          go_enter Try.func6, Try.ntmps6
          go_wp2_with (first
            | (go_at_call 10; refine (K3.out w5).mono ?_; rintro e w6 ⟨rfl, b6⟩; have B6 : Hid (Below w.heap.size w w6) := hid (B5.out.trans (b6.mono B5.out.size)); have v6 := v5.below b6 v5.lt; have k3 := v6.c3; have k4 := v6.c4)
            | (refine wpList_lda (x := y) rfl (.tmp 4) rfl rfl v5 ?_)
            | (go_at_call 10; refine (K2.out w4).mono ?_; rintro e w5 ⟨rfl, b5⟩; have B5 : Hid (Below w.heap.size w w5) := hid (B4.out.trans (b5.mono B4.out.size)); have v5 := v4.below b5 v4.lt)
            | (refine wpList_lda (x := y) rfl (.tmp 4) rfl rfl v4 ?_)
            | (go_at_call 10; refine (K1.out w3).mono ?_; rintro e w4 ⟨rfl, b4⟩; have B4 : Hid (Below w.heap.size w w4) := hid (B3.out.trans (b4.mono B3.out.size)); have v4 := v3.below b4 v3.lt)
            | (refine wpList_lda (x := y) rfl (.tmp 4) rfl rfl v3 ?_)
            | (refine wpList_sf y 1 (.int .i64 0) rfl 3 (.tmp 31) (.const (.int .i64 0)) rfl rfl rfl V2.out HY.out (by omega) rfl rfl size3 ?_; intro w3 v3 b3 o3 s3; have B3 : Hid (Below w.heap.size w w3) := hid (B2.out.trans b3); clear q5)
            | (go_at_call 8; refine (live_any w1).mono ?_; rintro e w2 ⟨rfl, b2⟩; have B2 : Hid (Below w.heap.size w w2) := hid (b1.trans (b2.mono b1.size)); have v2 := v1.below b2 v1.lt; have q5 := v2.c5; have V2 := hid v2; clear v2)
            | (refine wpList_boxa (x := x) rfl (.tmp 0) rfl rfl ?_; intro w1 v1 b1 s1))
          go_ret
          exact ⟨rfl, B6.out⟩

      · have HT2 : Hid ((if mayA y then (if 1152921504606846976 < y.en + FM then ((0 : Int), (0 : Int), (2 : Int)) else (y.sa + FM, y.en + FM, 0)) else (0, 0, 1)) = (y.sa + FM, y.en + FM, 0)) := hid (by rw [hm, if_pos rfl, if_neg u])
        have HT3 : Hid ((if mayA y then (if 1152921504606846976 < y.en + 0 then ((0 : Int), (0 : Int), (2 : Int)) else (y.sa + 0, y.en + 0, 0)) else (0, 0, 1)) = (y.sa, y.en, 0)) := hid (by rw [hm, if_pos rfl, if_neg (by omega)]; simp)
        have HT1 : Hid ((if mayA y then (if 1152921504606846976 < y.en + F then ((0 : Int), (0 : Int), (2 : Int)) else (y.sa + F, y.en + F, 0)) else (0, 0, 1)) = (y.sa + F, y.en + F, 0)) := hid (by rw [hm, if_pos rfl, if_neg (by omega)])
        have K1 : Hid (∀ w, Calls Try.prog 10 #[itv y, .int .i64 1, .slice (some ⟨w.heap.size + 1 + 1, 0, none⟩) 2 2] (((w.alloc (.cells #[.int .i64 0, .int .i64 F] 2)).alloc (.cells #[.int .i64 0, .int .i64 0] 2)).alloc (.cells #[.slice (some ⟨w.heap.size, 0, none⟩) 2 2, .slice (some ⟨w.heap.size + 1, 0, none⟩) 2 2] 46)) (RetT w (y.sa + F, y.en + F, 0))) := hid fun w => HC.out w F _ HF.out.1 HF.out.2 HT1.out
        have K2 : Hid (∀ w, Calls Try.prog 10 #[itv y, .int .i64 1, .slice (some ⟨w.heap.size + 1 + 1, 0, none⟩) 2 2] (((w.alloc (.cells #[.int .i64 0, .int .i64 FM] 2)).alloc (.cells #[.int .i64 0, .int .i64 0] 2)).alloc (.cells #[.slice (some ⟨w.heap.size, 0, none⟩) 2 2, .slice (some ⟨w.heap.size + 1, 0, none⟩) 2 2] 46)) (RetT w (y.sa + FM, y.en + FM, 0))) := hid fun w => HC.out w FM _ HFM.out.1 HFM.out.2 HT2.out
        have K3 : Hid (∀ w, Calls Try.prog 10 #[itv y, .int .i64 1, .slice (some ⟨w.heap.size + 1 + 1, 0, none⟩) 2 2] (((w.alloc (.cells #[.int .i64 0, .int .i64 0] 2)).alloc (.cells #[.int .i64 0, .int .i64 0] 2)).alloc (.cells #[.slice (some ⟨w.heap.size, 0, none⟩) 2 2, .slice (some ⟨w.heap.size + 1, 0, none⟩) 2 2] 46)) (RetT w (y.sa, y.en, 0))) := hid fun w => HC.out w 0 _ (by omega) (by omega) HT3.out
        clear HT1 HT2 HT3 HC
        obtain ⟨D, hD⟩ : ∃ D, IntKind.i64.wrap (y.en - y.sa) = D := ⟨_, rfl⟩
        have g1 : IntKind.i64.wrap ((y.en + F) - (y.sa + F)) = D := by rw [← hD]; congr 1; omega
        have g2 : IntKind.i64.wrap (y.sa + F) = y.sa + F := by rw [IntKind.wrap_i64]; omega
        have g3 : IntKind.i64.wrap ((y.sa + F) + M) = y.sa + FM := by rw [IntKind.wrap_i64]; omega
        have G2 := hid g2
        clear g2
        obtain ⟨pa, hpa⟩ : ∃ pa, y.sa + F = pa := ⟨_, rfl⟩
        have g2 : IntKind.i64.wrap (y.sa + F) = pa := by rw [G2.out, hpa]
        rw [hpa] at g1 g3 K1
        generalize y.sa + FM = pc at *
        generalize y.en + FM = pd at *
        generalize y.en + F = pb at *
        clear hm fF fM hFM2 u s1 s2 s3 G2 hpa
        go_enter Try.func6, Try.ntmps6
        go_wp2_with (first
          | (go_at_call 10; refine (K3.out w5).mono ?_; rintro e w6 ⟨rfl, b6⟩; have B6 : Hid (Below w.heap.size w w6) := hid (B5.out.trans (b6.mono B5.out.size)); have v6 := v5.below b6 v5.lt; have k3 := v6.c3; have k4 := v6.c4)
          | (refine wpList_lda (x := y) rfl (.tmp 4) rfl rfl v5 ?_)
          | (go_at_call 10; refine (K2.out w4).mono ?_; rintro e w5 ⟨rfl, b5⟩; have B5 : Hid (Below w.heap.size w w5) := hid (B4.out.trans (b5.mono B4.out.size)); have v5 := v4.below b5 v4.lt)
          | (refine wpList_lda (x := y) rfl (.tmp 4) rfl rfl v4 ?_)
          | (go_at_call 10; refine (K1.out w3).mono ?_; rintro e w4 ⟨rfl, b4⟩; have B4 : Hid (Below w.heap.size w w4) := hid (B3.out.trans (b4.mono B3.out.size)); have v4 := v3.below b4 v3.lt)
          | (refine wpList_lda (x := y) rfl (.tmp 4) rfl rfl v3 ?_)
          | (refine wpList_sf y 1 (.int .i64 0) rfl 3 (.tmp 31) (.const (.int .i64 0)) rfl rfl rfl V2.out HY.out (by omega) rfl rfl size3 ?_; intro w3 v3 b3 o3 s3; have B3 : Hid (Below w.heap.size w w3) := hid (B2.out.trans b3); clear q5)
          | (go_at_call 8; refine (live_any w1).mono ?_; rintro e w2 ⟨rfl, b2⟩; have B2 : Hid (Below w.heap.size w w2) := hid (b1.trans (b2.mono b1.size)); have v2 := v1.below b2 v1.lt; have q5 := v2.c5; have V2 := hid v2; clear v2)
          | (refine wpList_boxa (x := x) rfl (.tmp 0) rfl rfl ?_; intro w1 v1 b1 s1))
        go_ret
        exact ⟨rfl, B6.out⟩

end Go.Proofs.Ytjmkhhmibkiijaa
