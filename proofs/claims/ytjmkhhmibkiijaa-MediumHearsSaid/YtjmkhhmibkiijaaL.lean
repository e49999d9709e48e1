/-
  medium.Launch: what it tells. What is asked: at most 100,000 things.
-/
import Derived.Test.YtjmkhhmibkiijaaD
import Derived.Test.YtjmkhhmibkiijaaF
import Derived.Deep.QuietTactic
import Derived.BigQuiet
namespace Go.Proofs.Ytjmkhhmibkiijaa
open Go Go.RowKit

/-- The number of its error. -/
def lauE (xs : List Ar) (x : Ar) : Int := if okA xs && okA [x] then (if decide (0 < xs.length) && decide (x.id ≤ (nth xs (xs.length - 1)).id) then 1 else if xs.length = 256 then 7 else 0) else 1
/-- What is there then. -/
def bads (xs : List Ar) (x : Ar) (k : Nat) : Bool := x.bad || anyB (fun i => meet x (nth xs i)) k
def lauP (xs : List Ar) (x : Ar) (l : List Ar) : Prop :=
  (∀ i, i < xs.length → ∃ A c, nth l i = { nth xs i with A := A, c := c, bad := (nth xs i).bad || meet x (nth xs i) }) ∧ ∃ A c, nth l xs.length = { x with A := A, c := c, bad := bads xs x xs.length }
theorem anyB_succ (f : Nat → Bool) (k : Nat) : anyB f (k + 1) = (anyB f k || f k) := by simp [anyB, List.range_succ]
theorem anyB_zero (f : Nat → Bool) : anyB f 0 = false := rfl
theorem okE_one {xs : List Ar} (h : okA xs = true) : okE xs = 0 := by simp [okE, h]
theorem okE_no {xs : List Ar} (h : okA xs = false) : okE xs = 1 := by simp [okE, h]
theorem wrg_may {xs : List Ar} {i : Nat} (h : wrg xs i = false) : mayA (nth xs i) = true := by
  unfold wrg at h; cases hm : mayA (nth xs i) with
  | true => rfl
  | false => rw [hm] at h; simp at h
theorem okA_may {xs : List Ar} (h : okA xs = true) : ∀ x ∈ xs, mayA x = true := by
  intro x hx
  obtain ⟨i, hi, rfl⟩ := List.getElem_of_mem hx
  have h2 : anyB (wrg xs) xs.length = false := by unfold okA at h; simp at h; exact h.2
  have := wrg_may (anyB_false h2 hi)
  rwa [nth_of (List.getElem?_eq_getElem hi)] at this
theorem okA_len {xs : List Ar} (h : okA xs = true) : xs.length ≤ 256 := by unfold okA at h; simp at h; exact h.1
theorem may_n {x : Ar} (h : mayA x = true) : x.n ≤ 64 := by unfold mayA at h; simp at h; exact h.2.2.2.2.2.2.2.1
theorem okA_one (x : Ar) : okA [x] = mayA x := by
  simp [okA, anyB, wrg, nth]
/-- Nothing, and an error. -/
def RetN (w : World) (E : Int) (e : Ending) (w' : World) : Prop := e = .returned (.tuple #[.slice none 0 0, .int .i64 E]) ∧ Below w.heap.size w w'
section
variable (A : Option Addr) (n c B : Nat) (xs : List Ar) (x : Ar) (w : World)
set_option maxRecDepth 100000 in
set_option maxHeartbeats 2000000 in
theorem launch_bad (E : Int) (ha : Rw w B A n xs) (hB : B ≤ w.heap.size) (hn : n ≤ 100000) (hE : lauE xs x = E) (h0 : E ≠ 0) :
    Calls Try.prog 15 #[.slice A n c, itv x] w (RetN w E) := by
  have HA := hid ha
  have HL := hid ha.1
  have HK1 : Hid (∀ w', Below w.heap.size w w' → Calls Try.prog 17 #[.slice A n c] w' fun e w'' => e = .returned (.int .i64 (okE xs)) ∧ Below w'.heap.size w' w'') :=
    hid fun w' hb => check_any A n c B xs w' (ha.below (hb.mono hB)) (Nat.le_trans hB hb.size) hn
  have HK2 : Hid (∀ w' : World, Calls Try.prog 17 #[.slice (some ⟨w'.heap.size, 0, none⟩) 1 1] (w'.alloc (.cells (enc x).toArray 25)) fun e w'' => e = .returned (.int .i64 (okE [x])) ∧ Below w'.heap.size w' w'') :=
    hid fun w' => (check_any _ 1 1 (w'.heap.size + 1) [x] _ (row_one w' x) (by simp) (by omega)).mono fun e w'' ⟨he, hb⟩ => ⟨he, ((Below.refl _ _).alloc (Nat.le_refl _) _).trans (hb.mono (by simp))⟩
  clear ha
  unfold lauE at hE
  cases h1 : okA xs with
  | false =>
    rw [h1] at hE
    have hE1 : E = 1 := by simpa using hE.symm
    subst hE1
    rw [okE_no h1] at HK1
    clear hE h1 h0 HK2
    go_enter Try.func15, Try.ntmps15
    go_wp2_with (first
      | (refine wpList_boxa (x := x) rfl (.tmp 1) rfl rfl ?_; intro w1 v1 b1 s1)
      | (go_at_call 17; refine (HK1.out w1 b1).mono ?_; rintro e w3 ⟨rfl, b3⟩; have B3 : Hid (Below w.heap.size w w3) := hid (b1.trans (b3.mono b1.size))))
    go_ret2
    exact ⟨rfl, B3.out⟩
  | true =>
    rw [okE_one h1] at HK1
    cases h2 : okA [x] with
    | false =>
      rw [h1, h2] at hE
      have hE1 : E = 1 := by simpa using hE.symm
      subst hE1
      rw [okE_no h2] at HK2
      clear hE h1 h2 h0
      go_enter Try.func15, Try.ntmps15
      go_wp2_with (first
        | (go_at_call 17; refine (HK2.out w3).mono ?_; rintro e w4 ⟨rfl, b4⟩; have B4 : Hid (Below w.heap.size w w4) := hid (B3.out.trans (b4.mono B3.out.size)))
        | (refine wpList_bs (x := x) rfl (.tmp 13) rfl rfl ?_)
        | (refine wpList_lda (x := x) rfl (.tmp 3) rfl rfl v3 ?_)
        | (go_at_call 17; refine (HK1.out w1 b1).mono ?_; rintro e w3 ⟨rfl, b3⟩; have B3 : Hid (Below w.heap.size w w3) := hid (b1.trans (b3.mono b1.size)); have v3 := v1.below b3 v1.lt)
        | (refine wpList_boxa (x := x) rfl (.tmp 1) rfl rfl ?_; intro w1 v1 b1 s1))
      go_ret2
      exact ⟨rfl, B4.out⟩
    | true =>
      rw [h1, h2] at hE
      rw [okE_one h2] at HK2
      have hl := HL.out
      rw [hl] at hE
      by_cases hn0 : n = 0
      · exact absurd (by rw [← hE]; simp [hn0]) h0
      · obtain ⟨j, hj⟩ : ∃ j, n = j + 1 := ⟨n - 1, by omega⟩
        have hj1 : n - 1 = j := by omega
        rw [hj1] at hE
        obtain ⟨b, o, rfl, hb, hc⟩ := HA.out.all (by omega)
        have RL := hid (hc j (by omega))
        have i1 : (n : Int) - 1 = (j : Int) := by omega
        have i2 : IntKind.i64.wrap (j : Int) = (j : Int) := by rw [IntKind.wrap_i64]; omega
        have i3 : (j : Int) < (n : Int) := by omega
        have hd0 : decide (0 < n) = true := decide_eq_true (by omega)
        have hp0 : 0 < n := by omega
        rw [hd0] at hE
        have HPX := hid HA
        clear hc h1 h2 HPX HA hl HL hj1
        generalize nth xs j = y at *
        by_cases hq : x.id ≤ y.id
        · have hdq : decide (x.id ≤ y.id) = true := decide_eq_true hq
          clear hj
          have hE1 : E = 1 := by rw [← hE, hdq]; rfl
          subst hE1
          clear hE h0 hq
          go_enter Try.func15, Try.ntmps15
          go_wp2_with (first
        | (go_at_call 17; refine (HK2.out w3).mono ?_; rintro e w4 ⟨rfl, b4⟩; have B4 : Hid (Below w.heap.size w w4) := hid (B3.out.trans (b4.mono B3.out.size)); have v4 := v3.below b4 v3.lt; have q0 := v4.c0; have ql : w4.cell? ⟨b, o + j * 8, none⟩ = some (.int .u64 y.id) := range_keep RL.out (Nat.lt_of_lt_of_le hb hB) B4.out 0 _ rfl; have V4 := hid v4; clear v3 v4)
        | (refine wpList_bs (x := x) rfl (.tmp 13) rfl rfl ?_)
        | (refine wpList_lda (x := x) rfl (.tmp 3) rfl rfl v3 ?_)
        | (go_at_call 17; refine (HK1.out w1 b1).mono ?_; rintro e w3 ⟨rfl, b3⟩; have B3 : Hid (Below w.heap.size w w3) := hid (b1.trans (b3.mono b1.size)); have v3 := v1.below b3 v1.lt)
        | (refine wpList_boxa (x := x) rfl (.tmp 1) rfl rfl ?_; intro w1 v1 b1 s1))
          refine wp_region_quiet_lit (by kernel_rfl) (by kernel_rfl) (WQ.out ?_)
          repeat (refine WQ.step (fun K hK => ?_); go_simp; refine hK _ ?_; clear hK K)
          refine WQ.nil ?_
          intro _ hw'
          obtain ⟨nq, hw''⟩ := hw'
          subst hw''
          go_wp2
          go_ret2
          exact ⟨rfl, bel_drewN B4.out _⟩
        · have hdq : decide (x.id ≤ y.id) = false := decide_eq_false hq
          rw [hdq] at hE
          have hn256 : n = 256 := by
            by_cases h : n = 256
            · exact h
            · exact absurd (by rw [← hE]; simp [h]) h0
          have hE7 : E = 7 := by rw [← hE]; simp [hn256]
          subst hE7
          subst hn256
          obtain rfl : j = 255 := by omega
          have ql2 := hid RL.out
          have i4 : IntKind.i64.wrap 255 = 255 := by rw [IntKind.wrap_i64]; omega
          clear i1 i2 i3
          clear hE h0 hq
          go_enter Try.func15, Try.ntmps15
          go_wp2_with (first
        | (go_at_call 17; refine (HK2.out w3).mono ?_; rintro e w4 ⟨rfl, b4⟩; have B4 : Hid (Below w.heap.size w w4) := hid (B3.out.trans (b4.mono B3.out.size)); have v4 := v3.below b4 v3.lt; have q0 := v4.c0; have ql : w4.cell? ⟨b, o + 2040, none⟩ = some (.int .u64 y.id) := range_keep RL.out (Nat.lt_of_lt_of_le hb hB) B4.out 0 _ rfl; have V4 := hid v4; clear v3 v4)
        | (refine wpList_bs (x := x) rfl (.tmp 13) rfl rfl ?_)
        | (refine wpList_lda (x := x) rfl (.tmp 3) rfl rfl v3 ?_)
        | (go_at_call 17; refine (HK1.out w1 b1).mono ?_; rintro e w3 ⟨rfl, b3⟩; have B3 : Hid (Below w.heap.size w w3) := hid (b1.trans (b3.mono b1.size)); have v3 := v1.below b3 v1.lt)
        | (refine wpList_boxa (x := x) rfl (.tmp 1) rfl rfl ?_; intro w1 v1 b1 s1))
          refine wp_region_quiet_lit (by kernel_rfl) (by kernel_rfl) (WQ.out ?_)
          repeat (refine WQ.step (fun K hK => ?_); go_simp; refine hK _ ?_; clear hK K)
          refine WQ.nil ?_
          intro _ hw'
          obtain ⟨nq, hw''⟩ := hw'
          subst hw''
          go_wp2
          go_ret2
          exact ⟨rfl, bel_drewN B4.out _⟩
end
end Go.Proofs.Ytjmkhhmibkiijaa
