/-
  A thing stored into, two exchanged in, a slice of the call's own.
-/
import Derived.Test.YtpfidohneddgkaaC
import Derived.Deep.RegionWith
namespace Go.Proofs.Ytpfidohneddgkaa
open Go Go.RowKit

/-- Cells of a list set one by one. -/
def setL (xs : List Value) : Nat → List Value → List Value
  | _, [] => xs
  | o, v :: r => setL (xs.set o v) (o + 1) r
theorem setL_mid : ∀ (vs a b c : List Value), b.length = vs.length → setL (a ++ (b ++ c)) a.length vs = a ++ (vs ++ c)
  | [], a, b, c, h => by
    have : b = [] := List.eq_nil_of_length_eq_zero (by simpa using h)
    subst this; rfl
  | v :: vs, a, b, c, h => by
    obtain ⟨u, b, rfl⟩ : ∃ u b', b = u :: b' := by cases b with
      | nil => simp at h
      | cons u b => exact ⟨u, b, rfl⟩
    unfold setL
    have e : (a ++ (u :: b ++ c)).set a.length v = (a ++ [v]) ++ (b ++ c) := by
      rw [List.set_append_right _ _ (Nat.le_refl _)]; simp
    rw [e, show a.length + 1 = (a ++ [v]).length by simp, setL_mid vs (a ++ [v]) b c (by simpa using h)]
    simp
theorem setL_flat (l : List It) (k : Nat) (x : It) (hk : k < l.length) : setL (flat l) (k * 6) (enc x) = flat (l.set k x) := by
  have hl := flat_len l
  rw [flat_set l k x hk]
  have e : flat l = (flat l).take (k * 6) ++ (((flat l).drop (k * 6)).take 6 ++ (flat l).drop (k * 6 + 6)) := by
    conv => lhs; rw [← List.take_append_drop (k * 6) (flat l), ← List.take_append_drop 6 ((flat l).drop (k * 6)), List.drop_drop]
  have hlt : ((flat l).take (k * 6)).length = k * 6 := by rw [List.length_take, hl]; omega
  conv => lhs; rw [e]
  conv => lhs; arg 2; rw [← hlt]
  exact setL_mid (enc x) _ _ _ (by rw [List.length_take, List.length_drop, hl, enc_len]; omega)
theorem ownsRow_setCells {base e size g n cap : Nat} : ∀ (vs : List Value) (o : Nat) (w : World) (xs : List Value), w.ownsRow base e size (.slice (some ⟨g, 0, none⟩) n cap) n xs → base ≤ g →
    (w.setCells g o vs).ownsRow base e size (.slice (some ⟨g, 0, none⟩) n cap) n (setL xs o vs) ∧ Below base w (w.setCells g o vs)
  | [], _, w, _, h, _ => ⟨h, Below.refl _ _⟩
  | v :: r, o, w, xs, h, hb => by
    obtain ⟨a, b⟩ := ownsRow_setCells r (o + 1) _ _ (h.stored o v).1 hb
    exact ⟨a, ((Below.refl _ _).setCell (p := ⟨g, o, none⟩) hb v).trans b⟩
section
variable {w w' : World} {base g n c : Nat} {l : List It}
theorem Own.ge (h : Own w base (some ⟨g, 0, none⟩) n c l) : base ≤ g ∧ g < w.heap.size := World.ownsRow.lt h g rfl
theorem Own.store (h : Own w base (some ⟨g, 0, none⟩) n c l) {k : Nat} (hk : k < n) (x : It) : Own (w.setCells g (k * 6) (enc x)) base (some ⟨g, 0, none⟩) n c (l.set k x) ∧ Below base w (w.setCells g (k * 6) (enc x)) := by
  have := ownsRow_setCells (enc x) (k * 6) w _ h h.ge.1
  rw [setL_flat l k x (by rw [h.len]; exact hk)] at this
  exact this
theorem Own.range (h : Own w base (some ⟨g, 0, none⟩) n c l) {k : Nat} (hk : k < n) : w.rangeAt g (k * 6) (enc (nth l k)) := by
  obtain ⟨b, o, e, _, hr⟩ := h.row.at_ hk
  injection e with e; injection e with e1 e2
  subst e1; subst e2
  rwa [Nat.zero_add] at hr
theorem Own.there (h : Own w base (some ⟨g, 0, none⟩) n c l) {k : Nat} (hk : k < n) : w.there g (k * 6) 6 := fun j hj => by
  refine ⟨?_, World.ownsRow.frozenAt h _⟩
  have h1 := h.range hk
  have h2 : j < (enc (nth l k)).length := by rw [enc_len]; exact hj
  rw [h1 j _ (List.getElem?_eq_getElem h2)]; rfl
theorem Own.swap (h : Own w base (some ⟨g, 0, none⟩) n c l) {i j : Nat} (hi : i < n) (hj : j < n) :
    Own ((w.setCells g (i * 6) (enc (nth l j))).setCells g (j * 6) (enc (nth l i))) base (some ⟨g, 0, none⟩) n c (sw l i j) ∧ Below base w ((w.setCells g (i * 6) (enc (nth l j))).setCells g (j * 6) (enc (nth l i))) := by
  obtain ⟨h1, h2⟩ := h.store hi (nth l j)
  obtain ⟨h3, h4⟩ := h1.store hj (nth l i)
  exact ⟨h3, h2.trans h4⟩
end
end Go.Proofs.Ytpfidohneddgkaa
