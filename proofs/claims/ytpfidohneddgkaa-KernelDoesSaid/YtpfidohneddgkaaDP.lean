/-
  Queues: what kernel tells of Post, Cancel, Step and Peek, and what the document tells, is the same but for a heap's order. What is asked: fewer than 4096 things, whose numbers are of 64 bits; the slice's length is no more than its capacity.
-/
import Derived.Test.YtpfidohneddgkaaKN
import Derived.Test.YtpfidohneddgkaaKO
import Derived.Test.YtpfidohneddgkaaKQ
namespace Go.Proofs.Ytpfidohneddgkaa
open Go Go.RowKit Go.Maps

/-- Two lists that sorted are the same; both heaps, or both none. -/
def Like (la lb : List It) : Prop := srt la = srt lb ∧ chk la = chk lb
theorem Like.refl (l : List It) : Like l l := ⟨rfl, rfl⟩
theorem Like.heap {la lb xs : List It} (h1 : Hp la) (hp : la.Perm xs) (h2 : lb = srt xs) : Like la lb := by
  subst h2
  exact ⟨by rw [srt_same (srt_srt xs)]; exact srt_of_perm hp, by rw [(chk_iff la).2 h1, srt_chk]⟩
theorem Srt.hp {l : List It} (h : Srt l) : Hp l := by rw [← srt_same h]; exact srt_hp l
theorem Like.heap2 {la lb : List It} (h1 : Hp la) (h2 : Srt lb) (hp : la.Perm lb) : Like la lb :=
  ⟨srt_of_perm hp, by rw [(chk_iff la).2 h1, (chk_iff lb).2 (Srt.hp h2)]⟩
theorem nodup_inj {xs : List It} (h : (xs.map sq).Nodup) {x y : It} (hx : x ∈ xs) (hy : y ∈ xs) (e : sq x = sq y) : x = y := by
  rw [List.Nodup, List.pairwise_map, List.pairwise_iff_getElem] at h
  obtain ⟨i, hi, rfl⟩ := mem_nth hx
  obtain ⟨j, hj, rfl⟩ := mem_nth hy
  by_cases e2 : i = j
  · rw [e2]
  · exfalso
    rw [nth_of (List.getElem?_eq_getElem hi), nth_of (List.getElem?_eq_getElem hj)] at e
    rcases Nat.lt_or_gt_of_ne e2 with h' | h'
    · exact h i j hi hj h' e
    · exact h j i hj hi h' e.symm
section
variable (A : Option Addr) (n c : Nat) (nx nw hz : Int) (xs : List It) (w : World)
theorem post_pair (at_ cl wh wo nn : Int) (ha : Row w w.heap.size A n xs) (hn : n ≤ 200) (hnc : n ≤ c) (hs : SqOk xs) (hx0 : 0 ≤ nx) (hx1 : nx ≤ 18446744073709551615) :
    ∃ (E tok : Int) (n' : Nat) (nx' : Int) (Q1 Q2 : List It → Prop), n' ≤ 201 ∧
      (∀ w', Below w.heap.size w w' → Calls Try.prog 12 #[qv ⟨A, n, c, nx, nw, hz⟩, .int .i64 at_, .int .i64 cl, .int .i64 wh, .int .i64 wo, .int .u64 nn] w' (RetQ2 w' n' nx' nw hz tok E Q1)) ∧
      (∀ w', Below w.heap.size w w' → Calls Try.prog 13 #[qv ⟨A, n, c, nx, nw, hz⟩, .int .i64 at_, .int .i64 cl, .int .i64 wh, .int .i64 wo, .int .u64 nn] w' (RetQ2 w' n' nx' nw hz tok E Q2)) ∧
      ∀ l1 l2, Q1 l1 → Q2 l2 → Like l1 l2 := by
  by_cases hE : postE nx nw hz xs at_ cl = 0
  · obtain ⟨hok, hf, hat, hne⟩ := postE_zero.1 hE
    refine ⟨0, nx, n + 1, nx + 1, (fun l => Hp l ∧ l.Perm ((at_, cl, nx, wh, wo, nn) :: xs)), (· = srt ((at_, cl, nx, wh, wo, nn) :: xs)), by omega, fun w' hb => ?_, fun w' hb => ?_, fun l1 l2 h1 h2 => Like.heap h1.1 h1.2 h2⟩
    · exact post_ok A n c nx nw hz w.heap.size xs w' at_ cl wh wo nn (ha.below hb) hb.size (by omega) hs hE hx0 (by omega) (ok_hp hok)
    · exact rpost_ok A n c nx nw hz w.heap.size xs w' at_ cl wh wo nn (ha.below hb) hb.size (by omega) hnc hE hx0 (by omega)
  · refine ⟨postE nx nw hz xs at_ cl, 0, n, nx, (· = xs), (· = xs), by omega, fun w' hb => ?_, fun w' hb => ?_, fun l1 l2 h1 h2 => by rw [h1, h2]; exact Like.refl _⟩
    · exact post_err A n c nx nw hz w.heap.size xs w' at_ cl wh wo nn _ (ha.below hb) hb.size (by omega) hs rfl hE
    · exact rpost_err A n c nx nw hz w.heap.size xs w' at_ cl wh wo nn _ (ha.below hb) hb.size (by omega) hnc rfl hE
theorem cancel_pair (s : Int) (ha : Row w w.heap.size A n xs) (hn : n ≤ 200) (hnc : n ≤ c) (hs : SqOk xs) :
    ∃ (E : Int) (n' : Nat) (Q1 Q2 : List It → Prop), n' ≤ 201 ∧
      (∀ w', Below w.heap.size w w' → Calls Try.prog 15 #[qv ⟨A, n, c, nx, nw, hz⟩, .int .u64 s] w' (RetQ1 w' n' nx nw hz E Q1)) ∧
      (∀ w', Below w.heap.size w w' → Calls Try.prog 16 #[qv ⟨A, n, c, nx, nw, hz⟩, .int .u64 s] w' (RetQ1 w' n' nx nw hz E Q2)) ∧
      ∀ l1 l2, Q1 l1 → Q2 l2 → Like l1 l2 := by
  cases hok : okB nx nw hz xs with
  | false =>
    refine ⟨1, n, (· = xs), (· = xs), by omega, fun w' hb => ?_, fun w' hb => ?_, fun l1 l2 h1 h2 => by rw [h1, h2]; exact Like.refl _⟩
    · exact cancel_bad A n c nx nw hz w.heap.size xs w' s (ha.below hb) hb.size (by omega) hs hok
    · exact rcancel_bad A n c nx nw hz w.heap.size xs w' s (ha.below hb) hb.size (by omega) hnc hok
  | true =>
    rcases first_or (srt xs) s with ⟨i, hi⟩ | hno
    · have hl : (srt xs).length = n := by rw [srt_len]; exact ha.1
      obtain ⟨k, rfl⟩ : ∃ k, n = k + 1 := ⟨n - 1, by have := hi.1; omega⟩
      obtain ⟨y, hy⟩ : ∃ y, nth (srt xs) i = y := ⟨_, rfl⟩
      have hym : y ∈ xs := (srt_perm xs).mem_iff.1 (by rw [← hy]; exact nth_mem hi.1)
      have hys : sq y = s := by rw [← hy]; exact hi.2.1
      have hyl : Least xs s y := by
        rcases sq_or hok s with h | ⟨z, hz1, hz2, hz3⟩
        · obtain ⟨j, hj, e⟩ := mem_nth hym; exact absurd (by rw [e]; exact hys) (h j hj)
        · have h6 := (okB_iff.1 hok).2.2.2.2.2.1
          have : z = y := nodup_inj h6 hz1 hym (hz2.trans hys.symm)
          rw [← this]; exact hz3
      refine ⟨0, k, (fun l => Hp l ∧ xs.Perm (y :: l)), (· = (srt xs).take i ++ (srt xs).drop (i + 1)), by omega, fun w' hb => ?_, fun w' hb => ?_, ?_⟩
      · exact cancel_ok A c nx nw hz w.heap.size xs w' k s y (ha.below hb) hb.size (by omega) hs hok (ok_hp hok) hyl
      · exact rcancel_ok A c nx nw hz w.heap.size xs w' k i s (ha.below hb) hb.size (by omega) hnc hok hi
      · rintro l1 l2 ⟨h1, h2⟩ rfl
        have hp2 : (srt xs).Perm (y :: ((srt xs).take i ++ (srt xs).drop (i + 1))) := by
          have e : srt xs = (srt xs).take i ++ (y :: (srt xs).drop (i + 1)) := by
            conv => lhs; rw [← List.take_append_drop i (srt xs)]
            rw [List.drop_eq_getElem_cons hi.1, ← nth_of (List.getElem?_eq_getElem hi.1), hy]
          conv => lhs; rw [e]
          exact List.perm_middle
        have hsrt : Srt ((srt xs).take i ++ (srt xs).drop (i + 1)) := by
          have hsub : ((srt xs).take i ++ (srt xs).drop (i + 1)).Sublist (srt xs) := by
            conv => rhs; rw [← List.take_append_drop i (srt xs)]
            exact List.Sublist.append (List.Sublist.refl _) (by rw [← List.drop_drop, List.drop_one]; exact List.tail_sublist _)
          exact (srt_srt xs).sublist hsub
        exact Like.heap2 h1 hsrt ((List.perm_cons _).1 (h2.symm.trans ((srt_perm xs).symm.trans hp2)))
    · have hno' : NoSq xs s := fun j hj e => by
        obtain ⟨i, hi, e2⟩ := mem_nth ((srt_perm xs).mem_iff.2 (nth_mem hj))
        exact hno i hi (by rw [e2]; exact e)
      refine ⟨8, n, (· = xs), (· = xs), by omega, fun w' hb => ?_, fun w' hb => ?_, fun l1 l2 h1 h2 => by rw [h1, h2]; exact Like.refl _⟩
      · exact cancel_none A n c nx nw hz w.heap.size xs w' s (ha.below hb) hb.size (by omega) hs hok (ok_chk hok) hno'
      · exact rcancel_none A n c nx nw hz w.heap.size xs w' s (ha.below hb) hb.size (by omega) hnc hok hno
theorem first_srt {l : List It} (h : Hp l) (hl : 0 < l.length) : nth (srt l) 0 = nth l 0 := by
  have e := srt_len l
  refine lt_tri ?_ ?_
  · exact h.least ((srt_perm l).mem_iff.1 (nth_mem (by omega)))
  · exact (srt_hp l).least ((srt_perm l).mem_iff.2 (nth_mem hl))
theorem step_pair (ha : Row w w.heap.size A n xs) (hn : n ≤ 200) (hnc : n ≤ c) (hs : SqOk xs) :
    ∃ (E E' : Int) (x x' : It) (n' : Nat) (nw' : Int) (Q1 Q2 : List It → Prop), n' ≤ 201 ∧
      (∀ w', Below w.heap.size w w' → Calls Try.prog 17 #[qv ⟨A, n, c, nx, nw, hz⟩] w' (RetQI w' n' nx nw' hz x E Q1)) ∧
      (∀ w', Below w.heap.size w w' → Calls Try.prog 18 #[qv ⟨A, n, c, nx, nw, hz⟩] w' (RetQI w' n' nx nw' hz x E Q2)) ∧
      (∀ w', Below w.heap.size w w' → Calls Try.prog 19 #[qv ⟨A, n, c, nx, nw, hz⟩] w' (RetI w' x' E')) ∧
      (∀ w', Below w.heap.size w w' → Calls Try.prog 20 #[qv ⟨A, n, c, nx, nw, hz⟩] w' (RetI w' x' E')) ∧
      ∀ l1 l2, Q1 l1 → Q2 l2 → Like l1 l2 := by
  have hl := ha.1
  cases hok : okB nx nw hz xs with
  | false =>
    have p1 := fun (w' : World) (hb : Below w.heap.size w w') => peek_bad A n c nx nw hz w.heap.size xs w' (ha.below hb) hb.size (by omega) hs hok
    have p2 := fun (w' : World) (hb : Below w.heap.size w w') => rpeek_bad A n c nx nw hz w.heap.size xs w' (ha.below hb) hb.size (by omega) hnc hok
    refine ⟨1, 1, zr, zr, n, nw, (· = xs), (· = xs), by omega, fun w' hb => ?_, fun w' hb => ?_, p1, p2, fun l1 l2 h1 h2 => by rw [h1, h2]; exact Like.refl _⟩
    · exact step_err A n c nx nw hz w.heap.size xs w' zr 1 (ha.below hb) hb.size (by omega) (by omega) (fun w2 hb2 => p1 w2 (hb.trans (hb2.mono hb.size)))
    · exact rstep_err A n c nx nw hz w.heap.size xs w' zr 1 (ha.below hb) hb.size (by omega) (by omega) (fun w2 hb2 => p2 w2 (hb.trans (hb2.mono hb.size)))
  | true =>
    by_cases h0 : n = 0
    · subst h0
      obtain rfl : xs = [] := List.eq_nil_of_length_eq_zero hl
      have p1 := fun (w' : World) (_ : Below w.heap.size w w') => peek_none A c nx nw hz w' hok
      have p2 := fun (w' : World) (_ : Below w.heap.size w w') => rpeek_none A c nx nw hz w' hok
      refine ⟨8, 8, zr, zr, 0, nw, (· = []), (· = []), by omega, fun w' hb => ?_, fun w' hb => ?_, p1, p2, fun l1 l2 h1 h2 => by rw [h1, h2]; exact Like.refl _⟩
      · exact step_err A 0 c nx nw hz w.heap.size [] w' zr 8 (ha.below hb) hb.size (by omega) (by omega) (fun w2 hb2 => p1 w2 (hb.trans (hb2.mono hb.size)))
      · exact rstep_err A 0 c nx nw hz w.heap.size [] w' zr 8 (ha.below hb) hb.size (by omega) (by omega) (fun w2 hb2 => p2 w2 (hb.trans (hb2.mono hb.size)))
    · obtain ⟨k, rfl⟩ : ∃ k, n = k + 1 := ⟨n - 1, by omega⟩
      obtain ⟨x, hx⟩ : ∃ x, nth xs 0 = x := ⟨_, rfl⟩
      have hx2 : nth (srt xs) 0 = x := by rw [first_srt (ok_hp hok) (by omega)]; exact hx
      have p1 := fun (w' : World) (hb : Below w.heap.size w w') => peek_ok A (k + 1) c nx nw hz w.heap.size xs w' x (ha.below hb) hb.size (by omega) hs hok (by omega) hx
      have p2 := fun (w' : World) (hb : Below w.heap.size w w') => rpeek_ok A (k + 1) c nx nw hz w.heap.size xs w' x (ha.below hb) hb.size (by omega) hnc hok (by omega) hx2
      by_cases hh : x.1 ≤ hz
      · refine ⟨0, 0, x, x, k, x.1, (fun l => Hp l ∧ xs.Perm (x :: l)), (· = (srt xs).tail), by omega, fun w' hb => ?_, fun w' hb => ?_, p1, p2, ?_⟩
        · exact step_ok A c nx nw hz w.heap.size xs w' k x (ha.below hb) hb.size (by omega) (ok_hp hok) hx hh (fun w2 hb2 => p1 w2 (hb.trans (hb2.mono hb.size)))
        · exact rstep_ok A c nx nw hz w.heap.size xs w' k x (ha.below hb) hb.size (by omega) hh (fun w2 hb2 => p2 w2 (hb.trans (hb2.mono hb.size)))
        · rintro l1 l2 ⟨h1, h2⟩ rfl
          have e : srt xs = x :: (srt xs).tail := by
            have hlen : 0 < (srt xs).length := by rw [srt_len]; omega
            cases hs' : srt xs with
            | nil => rw [hs'] at hlen; cases hlen
            | cons y t => rw [hs'] at hx2; simp [nth] at hx2; rw [hx2]; rfl
          have hp2 : xs.Perm (x :: (srt xs).tail) := by rw [← e]; exact (srt_perm xs).symm
          exact Like.heap2 h1 ((srt_srt xs).sublist (List.tail_sublist _)) ((List.perm_cons _).1 (h2.symm.trans hp2))
      · refine ⟨2, 0, zr, x, k + 1, nw, (· = xs), (· = xs), by omega, fun w' hb => ?_, fun w' hb => ?_, p1, p2, fun l1 l2 h1 h2 => by rw [h1, h2]; exact Like.refl _⟩
        · exact step_over A (k + 1) c nx nw hz w.heap.size xs w' x (ha.below hb) hb.size (by omega) (by omega) (fun w2 hb2 => p1 w2 (hb.trans (hb2.mono hb.size)))
        · exact rstep_over A (k + 1) c nx nw hz w.heap.size xs w' x (ha.below hb) hb.size (by omega) (by omega) (fun w2 hb2 => p2 w2 (hb.trans (hb2.mono hb.size)))
end
end Go.Proofs.Ytpfidohneddgkaa
