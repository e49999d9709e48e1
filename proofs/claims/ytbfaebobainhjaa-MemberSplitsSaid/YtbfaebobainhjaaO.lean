/-
  member.ownerSeen and the may, Owner of the document: whose a slot is, and whether schedule, node and slot may be.
-/
import Derived.Test.YtbfaebobainhjaaL
namespace Go.Proofs.Ytbfaebobainhjaa
open Go Go.RowKit Go.Maps
/-- What medl.Owner gives. -/
def RetO (O E : Int) (w : World) (e : Ending) (w' : World) : Prop := e = .returned (.tuple #[.int .i64 O, .int .i64 E]) ∧ Below w.heap.size w w'
def owO (x : Md) (k : Int) : Int := if Ok x ∧ k ≤ 4294967296 then k % x.n else 0
def owE (x : Md) (k : Int) : Int := if Ok x ∧ k ≤ 4294967296 then 0 else 1
theorem owner_any (x : Md) (k : Int) (w : World) (hk : 0 ≤ k) : Calls Try.prog 21 #[mv x, .int .u64 k] w (RetO (owO x k) (owE x k) w) := by
  by_cases h : Ok x ∧ k ≤ 4294967296
  · have e1 : owO x k = k % x.n := if_pos h
    have e2 : owE x k = 0 := if_pos h
    rw [e1, e2]
    obtain ⟨n, s, l, f, d⟩ := x
    exact own_ok n s l f d k _ w h.1 hk h.2 rfl
  · have e1 : owO x k = 0 := if_neg h
    have e2 : owE x k = 1 := if_neg h
    rw [e1, e2]
    exact own_bad x k w h
/-- A schedule, a node and a slot that may be. -/
def May (x : Md) (me k : Int) : Prop := Ok x ∧ k ≤ 4294967296 ∧ 0 ≤ me ∧ me < x.n
instance (x : Md) (me k : Int) : Decidable (May x me k) := by unfold May; infer_instance
theorem seen_ok (n s l f d me k : Int) (w : World) (hk : 0 ≤ k) (h : May ⟨n, s, l, f, d⟩ me k) : Calls Try.prog 27 #[mv ⟨n, s, l, f, d⟩, .int .i64 me, .int .u64 k] w (RetO (k % n) 0 w) := by
  obtain ⟨hx, h4, h1, h2⟩ := h
  simp only at h2
  have HO := hid (fun w => own_ok n s l f d k _ w hx hk h4 rfl)
  clear hx h4 hk
  generalize k % n = O at *
  go_enter Try.func27, Try.ntmps27
  go_wp2_with (first
    | (go_at_call 21; refine (HO.out _).mono ?_; rintro e w2 ⟨rfl, b2⟩; have c0 : w2.cell? ⟨w.heap.size, 0, none⟩ = some (.int .i64 n) := (v1.keep b2).c0; have B2 : Hid (Below w.heap.size w w2) := hid (b1.trans (b2.mono b1.size)))
    | (refine wpList_ldm rfl (.tmp 3) rfl rfl v1 ?_)
    | (refine wpList_boxm (x := ⟨n, s, l, f, d⟩) rfl (.tmp 0) rfl rfl ?_; intro w1 v1 b1 s1))
  go_ret2
  exact ⟨rfl, B2.out⟩
theorem seen_me (n s l f d me k : Int) (w : World) (hk : 0 ≤ k) (hx : Ok ⟨n, s, l, f, d⟩) (h4 : k ≤ 4294967296) (h : me < 0 ∨ n ≤ me) : Calls Try.prog 27 #[mv ⟨n, s, l, f, d⟩, .int .i64 me, .int .u64 k] w (RetO 0 1 w) := by
  have HO := hid (fun w => own_ok n s l f d k _ w hx hk h4 rfl)
  clear hx h4 hk
  generalize k % n = O at *
  rcases h with h | h
  · go_enter Try.func27, Try.ntmps27
    go_wp2_with (first
      | (go_at_call 21; refine (HO.out _).mono ?_; rintro e w2 ⟨rfl, b2⟩; have c0 : w2.cell? ⟨w.heap.size, 0, none⟩ = some (.int .i64 n) := (v1.keep b2).c0; have B2 : Hid (Below w.heap.size w w2) := hid (b1.trans (b2.mono b1.size)))
      | (refine wpList_ldm rfl (.tmp 3) rfl rfl v1 ?_)
      | (refine wpList_boxm (x := ⟨n, s, l, f, d⟩) rfl (.tmp 0) rfl rfl ?_; intro w1 v1 b1 s1))
    go_ret2
    exact ⟨rfl, B2.out⟩
  · by_cases h0 : 0 ≤ me
    · go_enter Try.func27, Try.ntmps27
      go_wp2_with (first
        | (go_at_call 21; refine (HO.out _).mono ?_; rintro e w2 ⟨rfl, b2⟩; have c0 : w2.cell? ⟨w.heap.size, 0, none⟩ = some (.int .i64 n) := (v1.keep b2).c0; have B2 : Hid (Below w.heap.size w w2) := hid (b1.trans (b2.mono b1.size)))
        | (refine wpList_ldm rfl (.tmp 3) rfl rfl v1 ?_)
        | (refine wpList_boxm (x := ⟨n, s, l, f, d⟩) rfl (.tmp 0) rfl rfl ?_; intro w1 v1 b1 s1))
      go_ret2
      exact ⟨rfl, B2.out⟩
    · go_enter Try.func27, Try.ntmps27
      go_wp2_with (first
        | (go_at_call 21; refine (HO.out _).mono ?_; rintro e w2 ⟨rfl, b2⟩; have c0 : w2.cell? ⟨w.heap.size, 0, none⟩ = some (.int .i64 n) := (v1.keep b2).c0; have B2 : Hid (Below w.heap.size w w2) := hid (b1.trans (b2.mono b1.size)))
        | (refine wpList_ldm rfl (.tmp 3) rfl rfl v1 ?_)
        | (refine wpList_boxm (x := ⟨n, s, l, f, d⟩) rfl (.tmp 0) rfl rfl ?_; intro w1 v1 b1 s1))
      go_ret2
      exact ⟨rfl, B2.out⟩
theorem seen_bad (x : Md) (me k : Int) (w : World) (h : ¬ (Ok x ∧ k ≤ 4294967296)) : Calls Try.prog 27 #[mv x, .int .i64 me, .int .u64 k] w (RetO 0 1 w) := by
  have HO := hid (fun w => own_bad x k w h)
  clear h
  go_enter Try.func27, Try.ntmps27
  go_wp2_with (first
    | (go_at_call 21; refine (HO.out _).mono ?_; rintro e w2 ⟨rfl, b2⟩; have B2 : Hid (Below w.heap.size w w2) := hid (b1.trans (b2.mono b1.size)))
    | (refine wpList_ldm rfl (.tmp 3) rfl rfl v1 ?_)
    | (refine wpList_boxm (x := x) rfl (.tmp 0) rfl rfl ?_; intro w1 v1 b1 s1))
  go_ret2
  exact ⟨rfl, B2.out⟩
theorem seen_no (x : Md) (me k : Int) (w : World) (hk : 0 ≤ k) (h : ¬ May x me k) : Calls Try.prog 27 #[mv x, .int .i64 me, .int .u64 k] w (RetO 0 1 w) := by
  by_cases h1 : Ok x ∧ k ≤ 4294967296
  · obtain ⟨n, s, l, f, d⟩ := x
    refine seen_me n s l f d me k w hk h1.1 h1.2 ?_
    unfold May at h
    simp only at h
    by_cases a : me < 0
    · exact .inl a
    · exact .inr (Int.not_lt.1 fun c => h ⟨h1.1, h1.2, by omega, c⟩)
  · exact seen_bad x me k w h1
/-! ### The document's own -/
theorem rmay_any (x : Md) (k : Int) (w : World) (b : Bool) (hb : decide (Ok x ∧ k ≤ 4294967296) = b) : Calls Try.prog 48 #[mv x, .int .u64 k] w fun e w' => e = .returned (.bool b) ∧ Below w.heap.size w w' := by
  have HC := hid (fun w => rcheck_any x w)
  by_cases h : Ok x
  · rw [okE_ok h] at HC
    have hb2 : decide (k ≤ 4294967296) = b := by rw [← hb]; simp [h]
    clear hb h
    go_enter Try.func48, Try.ntmps48
    go_wp2_with (first
      | (go_at_call 49; refine (HC.out _).mono ?_; rintro e w2 ⟨rfl, b2⟩; have B2 : Hid (Below w.heap.size w w2) := hid (b1.trans (b2.mono b1.size)))
      | (refine wpList_ldm rfl (.tmp 2) rfl rfl v1 ?_)
      | (refine wpList_boxm (x := x) rfl (.tmp 0) rfl rfl ?_; intro w1 v1 b1 s1))
    go_ret
    exact ⟨ret_bool (by first | rfl | exact hb2), B2.out⟩
  · rw [okE_bad h] at HC
    have hb2 : b = false := by rw [← hb]; simp [h]
    subst hb2
    clear hb h
    go_enter Try.func48, Try.ntmps48
    go_wp2_with (first
      | (go_at_call 49; refine (HC.out _).mono ?_; rintro e w2 ⟨rfl, b2⟩; have B2 : Hid (Below w.heap.size w w2) := hid (b1.trans (b2.mono b1.size)))
      | (refine wpList_ldm rfl (.tmp 2) rfl rfl v1 ?_)
      | (refine wpList_boxm (x := x) rfl (.tmp 0) rfl rfl ?_; intro w1 v1 b1 s1))
    go_ret
    exact ⟨rfl, B2.out⟩
theorem rown_ok (n s l f d k O : Int) (w : World) (h : Ok ⟨n, s, l, f, d⟩) (hk : 0 ≤ k) (hk2 : k ≤ 4294967296) (hO : k % n = O) : Calls Try.prog 41 #[mv ⟨n, s, l, f, d⟩, .int .u64 k] w (RetO O 0 w) := by
  have HC := hid (fun w => rmay_any ⟨n, s, l, f, d⟩ k w true (decide_eq_true ⟨h, hk2⟩))
  obtain ⟨h1, h2, h3, h4, h5, h6, h7, h8, h9⟩ := h
  simp only at h1 h2 h3 h4 h5 h6 h7 h8 h9
  clear h3 h4 h5 h6 h7 h8 h9
  have a1 := Int.emod_nonneg k (show n ≠ 0 by omega)
  have a2 := Int.emod_lt_of_pos k (show 0 < n by omega)
  rw [hO] at a1 a2
  go_enter Try.func41, Try.ntmps41
  go_wp2_with (first
    | (go_at_call 48; refine (HC.out _).mono ?_; rintro e w2 ⟨rfl, b2⟩; have c0 : w2.cell? ⟨w.heap.size, 0, none⟩ = some (.int .i64 n) := (v1.keep b2).c0; have B2 : Hid (Below w.heap.size w w2) := hid (b1.trans (b2.mono b1.size)))
    | (refine wpList_ldm rfl (.tmp 2) rfl rfl v1 ?_)
    | (refine wpList_boxm (x := ⟨n, s, l, f, d⟩) rfl (.tmp 0) rfl rfl ?_; intro w1 v1 b1 s1))
  go_ret2
  exact ⟨by first | rfl | exact ret_two (by first | exact hO | omega) rfl, B2.out⟩
theorem rown_bad (x : Md) (k : Int) (w : World) (h : ¬ (Ok x ∧ k ≤ 4294967296)) : Calls Try.prog 41 #[mv x, .int .u64 k] w (RetO 0 1 w) := by
  have HC := hid (fun w => rmay_any x k w false (decide_eq_false h))
  clear h
  go_enter Try.func41, Try.ntmps41
  go_wp2_with (first
    | (go_at_call 48; refine (HC.out _).mono ?_; rintro e w2 ⟨rfl, b2⟩; have B2 : Hid (Below w.heap.size w w2) := hid (b1.trans (b2.mono b1.size)))
    | (refine wpList_ldm rfl (.tmp 2) rfl rfl v1 ?_)
    | (refine wpList_boxm (x := x) rfl (.tmp 0) rfl rfl ?_; intro w1 v1 b1 s1))
  go_ret2
  exact ⟨rfl, B2.out⟩
def RetB (O : Int) (b : Bool) (w : World) (e : Ending) (w' : World) : Prop := e = .returned (.tuple #[.int .i64 O, .bool b]) ∧ Below w.heap.size w w'
theorem ret_ib {k : IntKind} {a b : Int} {c d : Bool} (h : a = b) (h' : c = d) : Ending.returned (.tuple #[.int k a, .bool c]) = .returned (.tuple #[.int k b, .bool d]) := by rw [h, h']
theorem rseen_ok (n s l f d me k : Int) (w : World) (hk : 0 ≤ k) (h : May ⟨n, s, l, f, d⟩ me k) : Calls Try.prog 29 #[mv ⟨n, s, l, f, d⟩, .int .i64 me, .int .u64 k] w (RetB (k % n) true w) := by
  obtain ⟨hx, h4, h1, h2⟩ := h
  simp only at h2
  have HO := hid (fun w => rown_ok n s l f d k _ w hx hk h4 rfl)
  clear hx h4 hk
  generalize k % n = O at *
  go_enter Try.func29, Try.ntmps29
  go_wp2_with (first
    | (go_at_call 41; refine (HO.out _).mono ?_; rintro e w2 ⟨rfl, b2⟩; have c0 : w2.cell? ⟨w.heap.size, 0, none⟩ = some (.int .i64 n) := (v1.keep b2).c0; have B2 : Hid (Below w.heap.size w w2) := hid (b1.trans (b2.mono b1.size)))
    | (refine wpList_ldm rfl (.tmp 3) rfl rfl v1 ?_)
    | (refine wpList_boxm (x := ⟨n, s, l, f, d⟩) rfl (.tmp 0) rfl rfl ?_; intro w1 v1 b1 s1))
  go_quiet (fail)
  go_wp2_with fail
  go_ret2
  exact ⟨by first | rfl | exact ret_ib rfl (by first | rfl | (simp; omega) | simp), bel_drewN B2.out _⟩
theorem rseen_me (n s l f d me k : Int) (w : World) (hk : 0 ≤ k) (hx : Ok ⟨n, s, l, f, d⟩) (h4 : k ≤ 4294967296) (h : me < 0 ∨ n ≤ me) : Calls Try.prog 29 #[mv ⟨n, s, l, f, d⟩, .int .i64 me, .int .u64 k] w (RetB (k % n) false w) := by
  have HO := hid (fun w => rown_ok n s l f d k _ w hx hk h4 rfl)
  clear hx h4 hk
  generalize k % n = O at *
  by_cases h0 : 0 ≤ me
  · have h2 : n ≤ me := by omega
    clear h
    go_enter Try.func29, Try.ntmps29
    go_wp2_with (first
      | (go_at_call 41; refine (HO.out _).mono ?_; rintro e w2 ⟨rfl, b2⟩; have c0 : w2.cell? ⟨w.heap.size, 0, none⟩ = some (.int .i64 n) := (v1.keep b2).c0; have B2 : Hid (Below w.heap.size w w2) := hid (b1.trans (b2.mono b1.size)))
      | (refine wpList_ldm rfl (.tmp 3) rfl rfl v1 ?_)
      | (refine wpList_boxm (x := ⟨n, s, l, f, d⟩) rfl (.tmp 0) rfl rfl ?_; intro w1 v1 b1 s1))
    go_quiet (fail)
    go_wp2_with fail
    go_ret2
    exact ⟨by first | rfl | exact ret_ib rfl (by first | rfl | (simp; omega) | simp), bel_drewN B2.out _⟩
  · have hd : decide (0 ≤ me) = false := by simp; omega
    have h0' : me < 0 := by omega
    clear h h0
    go_enter Try.func29, Try.ntmps29
    go_wp2_with (first
      | (go_at_call 41; refine (HO.out _).mono ?_; rintro e w2 ⟨rfl, b2⟩; have c0 : w2.cell? ⟨w.heap.size, 0, none⟩ = some (.int .i64 n) := (v1.keep b2).c0; have B2 : Hid (Below w.heap.size w w2) := hid (b1.trans (b2.mono b1.size)))
      | (refine wpList_ldm rfl (.tmp 3) rfl rfl v1 ?_)
      | (refine wpList_boxm (x := ⟨n, s, l, f, d⟩) rfl (.tmp 0) rfl rfl ?_; intro w1 v1 b1 s1))
    go_quiet (fail)
    go_wp2_with fail
    go_ret2
    exact ⟨by first | rfl | exact ret_ib rfl (by simp), bel_drewN B2.out _⟩
theorem rseen_bad (x : Md) (me k : Int) (w : World) (h : ¬ (Ok x ∧ k ≤ 4294967296)) : Calls Try.prog 29 #[mv x, .int .i64 me, .int .u64 k] w (RetB 0 false w) := by
  have HO := hid (fun w => rown_bad x k w h)
  clear h
  go_enter Try.func29, Try.ntmps29
  go_wp2_with (first
    | (go_at_call 41; refine (HO.out _).mono ?_; rintro e w2 ⟨rfl, b2⟩; have B2 : Hid (Below w.heap.size w w2) := hid (b1.trans (b2.mono b1.size)))
    | (refine wpList_ldm rfl (.tmp 3) rfl rfl v1 ?_)
    | (refine wpList_boxm (x := x) rfl (.tmp 0) rfl rfl ?_; intro w1 v1 b1 s1))
  go_quiet (fail)
  go_wp2_with fail
  go_ret2
  exact ⟨rfl, bel_drewN B2.out _⟩
def RetN (w : World) (e : Ending) (w' : World) : Prop := ∃ O, RetB O false w e w'
theorem rseen_no (x : Md) (me k : Int) (w : World) (hk : 0 ≤ k) (h : ¬ May x me k) : Calls Try.prog 29 #[mv x, .int .i64 me, .int .u64 k] w (RetN w) := by
  by_cases h1 : Ok x ∧ k ≤ 4294967296
  · obtain ⟨n, s, l, f, d⟩ := x
    refine (rseen_me n s l f d me k w hk h1.1 h1.2 ?_).mono fun _ _ h => ⟨_, h⟩
    unfold May at h
    simp only at h
    by_cases a : me < 0
    · exact .inl a
    · exact .inr (Int.not_lt.1 fun c => h ⟨h1.1, h1.2, by omega, c⟩)
  · exact (rseen_bad x me k w h1).mono fun _ _ h => ⟨_, h⟩
end Go.Proofs.Ytbfaebobainhjaa
