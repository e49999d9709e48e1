/-
  guard.Check, guard.fits, guard.owns, guard.told: what each answers, at every argument.
-/
import Derived.Test.YtpncbfhbiifncaaK
namespace Go.Proofs.Ytpncbfhbiifncaa
open Go Go.RowKit
/-- A guardian may be. -/
def OkG (x : Gd) : Prop := x.s ≤ 4294967296 ∧ timeB x.a = true ∧ knB x = x.k
instance (x : Gd) : Decidable (OkG x) := by unfold OkG; infer_instance
def okgE (x : Gd) : Int := if OkG x then 0 else 1
theorem knows_lit (o k : Bool) (s a : Int) (B : Bool) (h : knB ⟨o, k, s, a⟩ = B) (w : World) : Calls Try.prog 17 #[.agg #[.bool o, .bool k, .int .u64 s, .int .i64 a]] w fun e w' => e = .returned (.bool B) ∧ Below w.heap.size w w' := by
  subst h; exact knows_any ⟨o, k, s, a⟩ w
set_option maxHeartbeats 1000000 in
theorem gcheck_slot (o k : Bool) (s a : Int) (w : World) (h : decide (4294967296 < s) = true) : Calls Try.prog 14 #[gv ⟨o, k, s, a⟩] w fun e w' => e = .returned (.int .i64 1) ∧ Below w.heap.size w w' := by
  go_enter Try.func14, Try.ntmps14
  go_wp2_with (first
    | (refine wpList_boxg (x := ⟨o, k, s, a⟩) rfl (.tmp 0) rfl rfl ?_; intro w1 v1 b1 s1; have c0 : w1.cell? ⟨w.heap.size, 0, none⟩ = some (.bool o) := v1.c0; have c1 : w1.cell? ⟨w.heap.size, 1, none⟩ = some (.bool k) := v1.c1; have c2 : w1.cell? ⟨w.heap.size, 2, none⟩ = some (.int .u64 s) := v1.c2; have c3 : w1.cell? ⟨w.heap.size, 3, none⟩ = some (.int .i64 a) := v1.c3))
  go_region
  go_wp2
  go_ret
  exact ⟨rfl, b1.drew⟩
set_option maxHeartbeats 1000000 in
theorem gcheck_time (o k : Bool) (s a : Int) (w : World) (h : decide (4294967296 < s) = false) (ht : timeB a = false) : Calls Try.prog 14 #[gv ⟨o, k, s, a⟩] w fun e w' => e = .returned (.int .i64 1) ∧ Below w.heap.size w w' := by
  have HT := hid ht
  clear ht
  go_enter Try.func14, Try.ntmps14
  go_wp2_with (first
    | (refine wpList_boxg (x := ⟨o, k, s, a⟩) rfl (.tmp 0) rfl rfl ?_; intro w1 v1 b1 s1; have c0 : w1.cell? ⟨w.heap.size, 0, none⟩ = some (.bool o) := v1.c0; have c1 : w1.cell? ⟨w.heap.size, 1, none⟩ = some (.bool k) := v1.c1; have c2 : w1.cell? ⟨w.heap.size, 2, none⟩ = some (.int .u64 s) := v1.c2; have c3 : w1.cell? ⟨w.heap.size, 3, none⟩ = some (.int .i64 a) := v1.c3))
  first
  | (go_region_with (first
      | (go_at_call 21; refine (may_1 _ _ a false HT.out _ (by simp)).mono ?_; rintro e w' ⟨rfl, rfl⟩)))
  | fail
  all_goals
    go_wp2
    go_ret
    exact ⟨rfl, ((b1.alloc b1.size _).drew)⟩
set_option maxHeartbeats 2000000 in
theorem gcheck_in (o k B : Bool) (s a : Int) (w : World) (h : decide (4294967296 < s) = false) (ht : timeB a = true) (hB : knB ⟨o, k, s, a⟩ = B) : Calls Try.prog 14 #[gv ⟨o, k, s, a⟩] w fun e w' => e = .returned (.int .i64 (if B = k then 0 else 1)) ∧ Below w.heap.size w w' := by
  have HT := hid ht
  have HB := hid hB
  clear ht hB
  go_enter Try.func14, Try.ntmps14
  go_wp2_with (first
    | (refine wpList_boxg (x := ⟨o, k, s, a⟩) rfl (.tmp 0) rfl rfl ?_; intro w1 v1 b1 s1; have c0 : w1.cell? ⟨w.heap.size, 0, none⟩ = some (.bool o) := v1.c0; have c1 : w1.cell? ⟨w.heap.size, 1, none⟩ = some (.bool k) := v1.c1; have c2 : w1.cell? ⟨w.heap.size, 2, none⟩ = some (.int .u64 s) := v1.c2; have c3 : w1.cell? ⟨w.heap.size, 3, none⟩ = some (.int .i64 a) := v1.c3))
  first
  | (go_region_held3 (fun w' => w'.cell? ⟨w.heap.size, 0, none⟩ = some (.bool o) ∧ w'.cell? ⟨w.heap.size, 1, none⟩ = some (.bool k) ∧ w'.cell? ⟨w.heap.size, 2, none⟩ = some (.int .u64 s) ∧ w'.cell? ⟨w.heap.size, 3, none⟩ = some (.int .i64 a))
      (first | with_reducible exact ⟨c0, c1, c2, c3⟩ | with_reducible exact ⟨e0, e1, e2, e3⟩ | go_keep)
      (first
        | (go_at_call 21; refine (may_1 _ _ a true HT.out _ (by simp)).mono ?_; rintro e w' ⟨rfl, rfl⟩; dsimp only)
        | (go_at_call 17; (with_reducible refine (knows_lit o k s a B HB.out ((w1.alloc (Obj.cells #[Value.int IntKind.i64 a] 2)).drew)).mono ?_); rintro e w2 ⟨rfl, b2⟩; have b3 : Below w1.heap.size w1 w2 := (((Below.refl w1.heap.size w1).alloc (Nat.le_refl _) _).drew.trans (b2.mono (by simp))); have e0 := (v1.keep b3).c0; have e1 := (v1.keep b3).c1; have e2 := (v1.keep b3).c2; have e3 := (v1.keep b3).c3; dsimp only)))
  | fail
  all_goals
    cases B <;> cases k
  all_goals
    go_wp2
    go_ret
    exact ⟨rfl, b1.trans (b3.mono b1.size)⟩
theorem gcheck_any (x : Gd) (w : World) : Calls Try.prog 14 #[gv x] w fun e w' => e = .returned (.int .i64 (okgE x)) ∧ Below w.heap.size w w' := by
  obtain ⟨o, k, s, a⟩ := x
  by_cases h : s ≤ 4294967296
  · cases ht : timeB a with
    | false =>
      rw [show okgE ⟨o, k, s, a⟩ = 1 from if_neg (fun hh => by have := hh.2.1; simp only at this; rw [ht] at this; cases this)]
      exact gcheck_time o k s a w (by simp; omega) ht
    | true =>
      have e : okgE ⟨o, k, s, a⟩ = (if knB ⟨o, k, s, a⟩ = k then 0 else 1) := by
        unfold okgE OkG; simp only [ht]
        by_cases hk : knB ⟨o, k, s, a⟩ = k
        · rw [if_pos ⟨h, trivial, hk⟩, if_pos hk]
        · rw [if_neg (fun hh => hk hh.2.2), if_neg hk]
      rw [e]
      exact gcheck_in o k _ s a w (by simp; omega) ht rfl
  · rw [show okgE ⟨o, k, s, a⟩ = 1 from if_neg (fun hh => h hh.1)]
    exact gcheck_slot o k s a w (by simp; omega)
/-- A guardian, a schedule, a period and a node may be. -/
def Fit (g : Gd) (m : Md) (p q : Int) : Prop := OkG g ∧ Ok m ∧ 1 ≤ p ∧ p ≤ 1000000000 ∧ 0 ≤ q ∧ q < m.n
instance (g : Gd) (m : Md) (p q : Int) : Decidable (Fit g m p q) := by unfold Fit; infer_instance
theorem fits_any (g : Gd) (m : Md) (p q : Int) (w : World) : Calls Try.prog 16 #[gv g, mv m, .int .i64 p, .int .i64 q] w fun e w' => e = .returned (.bool (decide (Fit g m p q))) ∧ Below w.heap.size w w' := by
  have HF : Hid (decide (Fit g m p q) = (decide (okgE g = 0) && (decide (okT m p = 0) && (decide (0 ≤ q) && decide (q < m.n))))) := hid (by
    unfold Fit okgE okT
    by_cases h1 : OkG g <;> by_cases h2 : Ok m ∧ 1 ≤ p ∧ p ≤ 1000000000
    · simp [h1, h2]
    · rw [if_neg h2, if_pos h1]
      have : ¬ (OkG g ∧ Ok m ∧ 1 ≤ p ∧ p ≤ 1000000000 ∧ 0 ≤ q ∧ q < m.n) := fun hh => h2 ⟨hh.2.1, hh.2.2.1, hh.2.2.2.1⟩
      simp [this]
    · simp [h1]
    · simp [h1])
  have HC := hid (fun w => gcheck_any g w)
  have HT := hid (fun w => checkTicks_any m p w)
  generalize decide (Fit g m p q) = R at *
  rcases (show okgE g = 0 ∨ okgE g = 1 by unfold okgE; split <;> simp) with e1 | e1 <;> rcases (show okT m p = 0 ∨ okT m p = 1 by unfold okT; split <;> simp) with e2 | e2
  all_goals
    rw [e1] at HC HF
    rw [e2] at HT HF
    clear e1 e2
    go_enter Try.func16, Try.ntmps16
    go_wp2_with (first
      | (go_at_call 23; (with_reducible refine (HT.out w3).mono ?_); rintro e w4 ⟨rfl, b4⟩; have vm4 := vm3.keep b4; have d0 : w4.cell? ⟨w1.heap.size, 0, none⟩ = some (.int .i64 m.n) := vm4.c0; have B4 : Hid (Below w.heap.size w w4) := hid (B3.out.trans (b4.mono B3.out.size)); clear b4)
      | (refine wpList_ldm rfl (.tmp 5) rfl rfl vm3 ?_)
      | (go_at_call 14; (with_reducible refine (HC.out w2).mono ?_); rintro e w3 ⟨rfl, b3⟩; have vm3 := vm2.keep b3; have B3 : Hid (Below w.heap.size w w3) := hid (B2.out.trans (b3.mono B2.out.size)); clear b3)
      | (refine wpList_ldg rfl (.tmp 4) rfl rfl vg2 ?_)
      | (refine wpList_boxm (x := m) rfl (.tmp 1) rfl rfl ?_; intro w2 vm2 b2 s2; have vg2 := vg1.keep b2; have B2 : Hid (Below w.heap.size w w2) := hid (b1.trans (b2.mono b1.size)); clear b2 s2)
      | (refine wpList_boxg (x := g) rfl (.tmp 0) rfl rfl ?_; intro w1 vg1 b1 s1))
  all_goals
    go_ret
    exact ⟨ret_bool (by rw [HF.out]; first | (simp; done) | (simp_all; done) | (simp; omega)), by first | exact B4.out | exact B3.out⟩
/-- A slot is a node's, and there is such a one. -/
def ownB (m : Md) (q k : Int) : Bool := decide (Ok m ∧ k ≤ 4294967296 ∧ k % m.n = q)
theorem owns_any (m : Md) (q k : Int) (w : World) (hk : 0 ≤ k) : Calls Try.prog 38 #[mv m, .int .i64 q, .int .u64 k] w fun e w' => e = .returned (.bool (ownB m q k)) ∧ Below w.heap.size w w' := by
  obtain ⟨n, s, l, f, d⟩ := m
  by_cases h : Ok ⟨n, s, l, f, d⟩ ∧ k ≤ 4294967296
  · have HB : Hid ((k % n == q) = ownB ⟨n, s, l, f, d⟩ q k) := hid (by unfold ownB; rw [Bool.eq_iff_iff]; simp [h.1, h.2])
    have HO := hid (fun w => own_ok n s l f d k _ w h.1 hk h.2 rfl)
    clear h
    generalize k % n = O at *
    go_enter Try.func38, Try.ntmps38
    go_wp2_with (first
      | (go_at_call 13; (with_reducible refine (HO.out w1).mono ?_); rintro e w2 ⟨rfl, b2⟩; have B2 : Hid (Below w.heap.size w w2) := hid (b1.trans (b2.mono b1.size)))
      | (refine wpList_ldm rfl (.tmp 3) rfl rfl v1 ?_)
      | (refine wpList_boxm (x := ⟨n, s, l, f, d⟩) rfl (.tmp 0) rfl rfl ?_; intro w1 v1 b1 s1))
    go_ret
    exact ⟨ret_bool HB.out, B2.out⟩
  · have HB : Hid (ownB ⟨n, s, l, f, d⟩ q k = false) := hid (by unfold ownB; rw [decide_eq_false]; exact fun hh => h ⟨hh.1, hh.2.1⟩)
    have HO := hid (fun w => own_bad ⟨n, s, l, f, d⟩ k w h)
    clear h
    go_enter Try.func38, Try.ntmps38
    go_wp2_with (first
      | (go_at_call 13; (with_reducible refine (HO.out w1).mono ?_); rintro e w2 ⟨rfl, b2⟩; have B2 : Hid (Below w.heap.size w w2) := hid (b1.trans (b2.mono b1.size)))
      | (refine wpList_ldm rfl (.tmp 3) rfl rfl v1 ?_)
      | (refine wpList_boxm (x := ⟨n, s, l, f, d⟩) rfl (.tmp 0) rfl rfl ?_; intro w1 v1 b1 s1))
    go_ret
    exact ⟨ret_bool HB.out.symm, B2.out⟩
end Go.Proofs.Ytpncbfhbiifncaa
