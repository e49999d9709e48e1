/-
  Queues in plain words: what may be stays so when something is posted, cancelled, or comes; what comes first. No condition but what each head says.
-/
import Derived.Test.YtpfidohneddgkaaKF
namespace Go.Proofs.Ytpfidohneddgkaa
open Go Go.RowKit

theorem okB_iff {nx nw hz : Int} {xs : List It} : okB nx nw hz xs = true ↔ timeB nw = true ∧ timeB hz = true ∧ 0 ≤ nw ∧ nw ≤ hz ∧ Hp xs ∧ (xs.map sq).Nodup ∧ ∀ x ∈ xs, GoodIt nx nw x := by
  unfold okB
  simp only [Bool.and_eq_true, decide_eq_true_eq, chk_iff, itemsB_iff, and_assoc]
theorem lt_at {x y : It} (h : lt y x = false) : x.1 ≤ y.1 := by
  unfold lt lex at h
  split at h
  · omega
  · simp at h; omega
/-- The things of a heap of a queue that may be: the numbers are of 64 bits. -/
def SqOk (xs : List It) : Prop := ∀ x ∈ xs, 0 ≤ sq x ∧ sq x ≤ 18446744073709551615
theorem SqOk.perm {xs ys : List It} (h : SqOk xs) (hp : ys.Perm xs) : SqOk ys := fun x hx => h x (hp.mem_iff.1 hx)
theorem SqOk.cons {xs : List It} {x : It} (h : SqOk xs) (hx : 0 ≤ sq x ∧ sq x ≤ 18446744073709551615) : SqOk (x :: xs) := fun y hy => by
  rcases List.mem_cons.1 hy with rfl | hy
  · exact hx
  · exact h y hy
theorem SqOk.of_cons {xs : List It} {x : It} (h : SqOk (x :: xs)) : SqOk xs := fun y hy => h y (List.mem_cons_of_mem _ hy)

theorem postE_zero {nx nw hz at_ cl : Int} {xs : List It} : postE nx nw hz xs at_ cl = 0 ↔ okB nx nw hz xs = true ∧ fitB at_ cl = true ∧ nw ≤ at_ ∧ nx ≠ 18446744073709551615 := by
  unfold postE
  cases okB nx nw hz xs <;> cases fitB at_ cl <;> simp
  by_cases h : at_ < nw
  · simp [h]; omega
  · by_cases h2 : nx = 18446744073709551615 <;> simp [h, h2]; omega

/-- What is posted leaves a queue that may be one. -/
theorem ok_post {nx nw hz at_ cl wh wo nn : Int} {xs l : List It} (h : okB nx nw hz xs = true) (hf : fitB at_ cl = true) (ha : nw ≤ at_) (hl : Hp l) (hp : l.Perm ((at_, cl, nx, wh, wo, nn) :: xs)) : okB (nx + 1) nw hz l = true := by
  rw [okB_iff] at h ⊢
  obtain ⟨h1, h2, h3, h4, _, h6, h7⟩ := h
  refine ⟨h1, h2, h3, h4, hl, ?_, ?_⟩
  · rw [(hp.map sq).nodup_iff, List.map_cons, List.nodup_cons]
    refine ⟨fun hm => ?_, h6⟩
    obtain ⟨y, hy, e⟩ := List.mem_map.1 hm
    have := (h7 y hy).1
    have e' : sq y = nx := e
    omega
  · intro x hx
    rcases List.mem_cons.1 (hp.mem_iff.1 hx) with rfl | hx
    · exact ⟨by show nx < nx + 1; omega, hf, ha⟩
    · have := h7 x hx
      exact ⟨by have := this.1; omega, this.2⟩
/-- What is taken leaves a queue that may be one. -/
theorem ok_less {nx nw hz : Int} {xs l : List It} {x : It} (h : okB nx nw hz xs = true) (hl : Hp l) (hp : xs.Perm (x :: l)) : okB nx nw hz l = true := by
  rw [okB_iff] at h ⊢
  obtain ⟨h1, h2, h3, h4, _, h6, h7⟩ := h
  rw [(hp.map sq).nodup_iff, List.map_cons, List.nodup_cons] at h6
  exact ⟨h1, h2, h3, h4, hl, h6.2, fun y hy => h7 y (hp.mem_iff.2 (List.mem_cons_of_mem _ hy))⟩
theorem first_mem {xs : List It} (h : 0 < xs.length) : nth xs 0 ∈ xs := nth_mem h
/-- What comes leaves a queue that may be one. -/
theorem ok_step {nx nw hz : Int} {xs l : List It} {x : It} (h : okB nx nw hz xs = true) (h0 : 0 < xs.length) (hx : nth xs 0 = x) (hz' : x.1 ≤ hz) (hl : Hp l) (hp : xs.Perm (x :: l)) : okB nx x.1 hz l = true := by
  rw [okB_iff] at h ⊢
  obtain ⟨h1, h2, h3, h4, h5, h6, h7⟩ := h
  have hxg := h7 x (by rw [← hx]; exact first_mem h0)
  rw [(hp.map sq).nodup_iff, List.map_cons, List.nodup_cons] at h6
  refine ⟨?_, h2, ?_, hz', hl, h6.2, fun y hy => ?_⟩
  · have := hxg.2.1; unfold fitB at this; simp at this; exact this.1
  · have := hxg.2.2; omega
  · have hym : y ∈ xs := hp.mem_iff.2 (List.mem_cons_of_mem _ hy)
    have := h7 y hym
    exact ⟨this.1, this.2.1, by rw [← hx]; exact lt_at (h5.least hym)⟩
theorem ok_hp {nx nw hz : Int} {xs : List It} (h : okB nx nw hz xs = true) : Hp xs := (okB_iff.1 h).2.2.2.2.1
theorem ok_chk {nx nw hz : Int} {xs : List It} (h : okB nx nw hz xs = true) : chk xs = true := (chk_iff xs).2 (ok_hp h)
/-- Of two lists of the same things that are both heaps, or both none, one may be just if the other may. -/
theorem ok_perm {nx nw hz : Int} {xs ys : List It} (hp : xs.Perm ys) (hc : chk xs = chk ys) : okB nx nw hz xs = okB nx nw hz ys := by
  unfold okB; rw [hc, items_perm hp]
/-- Sorted, a list is a heap. -/
theorem srt_hp (xs : List It) : Hp (srt xs) := by
  intro i h1 h2
  have hs := srt_srt xs
  unfold Srt at hs
  rw [List.pairwise_iff_getElem] at hs
  have hp : par i < i := by unfold par; omega
  have := hs (par i) i (by omega) h2 hp
  unfold Ok
  rw [nth_of (List.getElem?_eq_getElem h2), nth_of (List.getElem?_eq_getElem (show par i < (srt xs).length by omega))]
  exact this
theorem srt_chk (xs : List It) : chk (srt xs) = true := (chk_iff _).2 (srt_hp xs)
/-- Who has the number s: none, or one. -/
theorem sq_or {nx nw hz : Int} {xs : List It} (h : okB nx nw hz xs = true) (s : Int) : NoSq xs s ∨ ∃ x, x ∈ xs ∧ sq x = s ∧ Least xs s x := by
  rcases first_or xs s with ⟨k, hk⟩ | hno
  · right
    refine ⟨nth xs k, nth_mem hk.1, hk.2.1, ?_⟩
    obtain ⟨_, _, _, _, _, h6, _⟩ := okB_iff.1 h
    refine ⟨nth_mem hk.1, hk.2.1, fun y hy e => ?_⟩
    have : y = nth xs k := by
      rw [List.Nodup, List.pairwise_map, List.pairwise_iff_getElem] at h6
      obtain ⟨j, hj, rfl⟩ := mem_nth hy
      by_cases e2 : j = k
      · rw [e2]
      · exfalso
        rw [nth_of (List.getElem?_eq_getElem hj)] at e
        have ek := hk.2.1
        rw [nth_of (List.getElem?_eq_getElem hk.1)] at ek
        rcases Nat.lt_or_gt_of_ne e2 with h | h
        · exact h6 j k hj hk.1 h (e.trans ek.symm)
        · exact h6 k j hk.1 hj h (ek.trans e.symm)
    rw [this]; exact lt_irr _
  · exact .inl hno
end Go.Proofs.Ytpfidohneddgkaa
