/-
  Plain: things that are all as much later are garbled just as they were. No condition but what each head says.
-/
import Derived.Test.YtjmkhhmibkiijaaGP
import Derived.Test.YtjmkhhmibkiijaaAR
namespace Go.Proofs.Ytjmkhhmibkiijaa
open Go Go.RowKit

/-- So much later. -/
def shf (d : Int) (x : Ar) : Ar := { x with sa := IntKind.i64.wrap (x.sa + d), en := IntKind.i64.wrap (x.en + d) }
/-- The first i of them are so much later; their bytes lie elsewhere. -/
def shA (d : Int) (ls l : List Ar) (i : Nat) : Prop := l.length = ls.length ∧ ∀ j, j < ls.length → ∃ A c, nth l j = if j < i then { shf d (nth ls j) with A := A, c := c } else { nth ls j with A := A, c := c }
def low50 (ls : List Ar) (i : Nat) : Prop := ∀ j, j < i → (nth ls j).en ≤ 1125899906842624
theorem shf_may {d : Int} {x : Ar} (hm : mayA x = true) (he : x.en ≤ 1125899906842624) (h0 : 0 ≤ d) (h1 : d ≤ 4294967295) :
    shf d x = { x with sa := x.sa + d, en := x.en + d } ∧ mayA (shf d x) = true := by
  obtain ⟨_, s1, s2, s3⟩ := may_parts hm
  have e1 : IntKind.i64.wrap (x.sa + d) = x.sa + d := by rw [IntKind.wrap_i64]; omega
  have e2 : IntKind.i64.wrap (x.en + d) = x.en + d := by rw [IntKind.wrap_i64]; omega
  have e3 : shf d x = { x with sa := x.sa + d, en := x.en + d } := by unfold shf; rw [e1, e2]
  refine ⟨e3, ?_⟩
  rw [e3]
  unfold mayA timeB at hm ⊢
  simp at hm ⊢
  omega
theorem shf_meet {d : Int} {x y : Ar} (hx : mayA x = true) (hy : mayA y = true) (hxe : x.en ≤ 1125899906842624) (hye : y.en ≤ 1125899906842624) (h0 : 0 ≤ d) (h1 : d ≤ 4294967295) (A : Option Addr) (c : Nat) :
    meet (shf d x) { shf d y with A := A, c := c } = meet x y := by
  rw [(shf_may hx hxe h0 h1).1, (shf_may hy hye h0 h1).1]
  unfold meet
  rw [Bool.eq_iff_iff]; simp
theorem sh_okA {d : Int} {ls l : List Ar} (hok : okA ls = true) (hl : low50 ls ls.length) (h0 : 0 ≤ d) (h1 : d ≤ 4294967295) (h : shA d ls l ls.length) : okA l = true := by
  have : anyB (wrg l) l.length = false := anyB_no fun j hj => by
    rw [h.1] at hj
    obtain ⟨A, c, e⟩ := h.2 j hj
    rw [if_pos hj] at e
    have hm : mayA (nth l j) = true := by rw [e]; exact (shf_may (okA_may hok _ (nth_mem hj)) (hl j hj) h0 h1).2
    have : (0 < j ∧ (nth l j).id ≤ (nth l (j - 1)).id) → False := fun ⟨hp, hq⟩ => by
      obtain ⟨A2, c2, e2⟩ := h.2 (j - 1) (by omega)
      rw [if_pos (by omega)] at e2
      rw [e, e2] at hq
      have h5 := wrg_ids hok (j := j - 1) (by omega)
      rw [show j - 1 + 1 = j by omega] at h5
      have hq' : (nth ls j).id ≤ (nth ls (j - 1)).id := hq
      omega
    unfold wrg
    rw [hm, Bool.not_true, Bool.false_or, Bool.eq_false_iff]
    intro hh
    rw [Bool.and_eq_true, decide_eq_true_eq, decide_eq_true_eq] at hh
    exact this hh
  have h2 := okA_len hok
  unfold okA
  rw [this, h.1]
  simp
  omega
theorem sh_lauE {d : Int} {ls l : List Ar} {x : Ar} (hE : lauE ls x = 0) (hl : low50 ls ls.length) (hx : x.en ≤ 1125899906842624) (h0 : 0 ≤ d) (h1 : d ≤ 4294967295) (h : shA d ls l ls.length) : lauE l (shf d x) = 0 := by
  obtain ⟨k1, k2, k3, k4⟩ := lauE_zero hE
  rw [okA_one] at k2
  have g2 := (shf_may k2 hx h0 h1).2
  have g1 := sh_okA k1 hl h0 h1 h
  unfold lauE
  rw [g1, okA_one, g2, h.1]
  have : (decide (0 < ls.length) && decide ((shf d x).id ≤ (nth l (ls.length - 1)).id)) = false := by
    rw [Bool.eq_false_iff]
    intro hh
    rw [Bool.and_eq_true, decide_eq_true_eq, decide_eq_true_eq] at hh
    obtain ⟨hp, hq⟩ := hh
    obtain ⟨A, c, e⟩ := h.2 (ls.length - 1) (by omega)
    rw [if_pos (by omega)] at e
    rw [e] at hq
    have hq' : x.id ≤ (nth ls (ls.length - 1)).id := hq
    have := k4 hp
    omega
  rw [this]
  simp
  omega
/-- What both tell, thing by thing. -/
theorem sh_end {d : Int} {ls l la lb : List Ar} {x : Ar} (hE : lauE ls x = 0) (hl : low50 ls ls.length) (hx : x.en ≤ 1125899906842624) (h0 : 0 ≤ d) (h1 : d ≤ 4294967295) (h : shA d ls l ls.length) (ha : lauP ls x la) (hb : lauP l (shf d x) lb) :
    ∀ i, i < ls.length + 1 → (nth lb i).bad = (nth la i).bad ∧ IntKind.i64.wrap ((nth lb i).sa - (nth la i).sa) = d := by
  obtain ⟨k1, k2, k3, k4⟩ := lauE_zero hE
  rw [okA_one] at k2
  have hwrap : ∀ y : Ar, mayA y = true → y.en ≤ 1125899906842624 → IntKind.i64.wrap ((shf d y).sa - y.sa) = d := fun y hm he => by
    rw [(shf_may hm he h0 h1).1]
    show IntKind.i64.wrap (y.sa + d - y.sa) = d
    rw [IntKind.wrap_i64]; omega
  have hmm : ∀ i, i < ls.length → ∀ A c, meet (shf d x) { shf d (nth ls i) with A := A, c := c } = meet x (nth ls i) := fun i hi A c =>
    shf_meet k2 (okA_may k1 _ (nth_mem hi)) hx (hl i hi) h0 h1 A c
  intro i hi
  by_cases e : i = ls.length
  · subst e
    obtain ⟨A1, c1, e1⟩ := ha.2
    obtain ⟨A2, c2, e2⟩ := hb.2
    rw [h.1] at e2
    have hbads : bads l (shf d x) ls.length = bads ls x ls.length := by
      unfold bads
      have : anyB (fun i => meet (shf d x) (nth l i)) ls.length = anyB (fun i => meet x (nth ls i)) ls.length := anyB_congr fun j hj => by
        obtain ⟨A, c, e⟩ := h.2 j hj
        rw [if_pos hj] at e
        rw [e]
        exact hmm j hj A c
      rw [this]; rfl
    rw [e1, e2, hbads]
    exact ⟨rfl, hwrap x k2 hx⟩
  · have hi' : i < ls.length := by omega
    obtain ⟨A1, c1, e1⟩ := ha.1 i hi'
    obtain ⟨A2, c2, e2⟩ := hb.1 i (by rw [h.1]; exact hi')
    obtain ⟨A3, c3, e3⟩ := h.2 i hi'
    rw [if_pos hi'] at e3
    rw [e1, e2, e3]
    refine ⟨?_, hwrap _ (okA_may k1 _ (nth_mem hi')) (hl i hi')⟩
    show ((nth ls i).bad || meet (shf d x) { shf d (nth ls i) with A := A3, c := c3 }) = ((nth ls i).bad || meet x (nth ls i))
    rw [hmm i hi']
theorem shA_zero {d : Int} {ls l : List Ar} (h : sim ls l) : shA d ls l 0 := ⟨h.1.symm, fun j hj => by
  obtain ⟨A, c, e⟩ := h.2 j hj
  exact ⟨A, c, by rw [if_neg (by omega)]; exact e⟩⟩
theorem shA_next {d : Int} {ls l : List Ar} {i : Nat} {y : Ar} (h : shA d ls l i) (hi : i < ls.length) (hy : ∃ A c, y = { shf d (nth ls i) with A := A, c := c }) : shA d ls (l.set i y) (i + 1) := by
  refine ⟨by rw [List.length_set]; exact h.1, fun j hj => ?_⟩
  by_cases e : j = i
  · subst e
    obtain ⟨A, c, rfl⟩ := hy
    refine ⟨A, c, ?_⟩
    rw [if_pos (by omega)]
    exact nth_of (by rw [List.getElem?_set_self (by rw [h.1]; exact hj)])
  · obtain ⟨A, c, e2⟩ := h.2 j hj
    refine ⟨A, c, ?_⟩
    have : nth (l.set i y) j = nth l j := nth_of (by rw [List.getElem?_set_ne (by omega)]; exact nth_get (by rw [h.1]; exact hj))
    rw [this, e2]
    by_cases q : j < i
    · rw [if_pos q, if_pos (by omega)]
    · rw [if_neg q, if_neg (by omega)]
theorem El.set {w : World} {base : Nat} {l : List Ar} (h : El w base l) {k : Nat} (hk : k < l.length) {y : Ar} (hA : y.A = (nth l k).A) (hn : y.n = (nth l k).n) (hc : y.c = (nth l k).c) (hb : y.b = (nth l k).b) : El w base (l.set k y) := by
  intro z hz
  rcases List.mem_or_eq_of_mem_set hz with hz | rfl
  · exact h z hz
  · rw [hA, hn, hc, hb]; exact h _ (nth_mem hk)
theorem low50_next {ls : List Ar} {i : Nat} (h : low50 ls i) (hi : (nth ls i).en ≤ 1125899906842624) : low50 ls (i + 1) := fun j hj => by
  by_cases e : j = i
  · subst e; exact hi
  · exact h j (by omega)
end Go.Proofs.Ytjmkhhmibkiijaa
