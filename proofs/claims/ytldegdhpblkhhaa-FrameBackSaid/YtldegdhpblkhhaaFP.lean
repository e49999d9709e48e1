/-
  Plain words of layer 8 (no program): a frame, which may be, its text ahead of its sum and with it, what the reader tells of a text, and that it is the frame whose text it is. No condition but what each head says.
-/
import Derived.Test.YtldegdhpblkhhaaWP
namespace Go.Proofs.Ytldegdhpblkhhaa

/-- A frame: kind, from, slot, members. -/
structure Fr where
  k : Int
  f : Int
  s : Nat
  m : Nat
deriving DecidableEq
def fz : Fr := ⟨0, 0, 0, 0⟩
/-- It may be. -/
def OkF (x : Fr) : Prop := (x.k = 1 ∨ x.k = 2) ∧ 0 ≤ x.f ∧ x.f ≤ 15 ∧ x.s ≤ 4294967296
instance (x : Fr) : Decidable (OkF x) := by unfold OkF; infer_instance
/-- Its text, ahead of its sum, and whole. -/
def bare (x : Fr) : List Nat := [161, x.k.toNat, x.f.toNat] ++ (vary x.s ++ fixb x.m 2)
def sealedF (x : Fr) : List Nat := bare x ++ tail24 (bare x)

theorem bare_oct (x : Fr) (h : OkF x) : Oct (bare x) := by
  obtain ⟨h1, h2, h3, h4⟩ := h
  refine Oct.app (Oct.cons (by omega) (Oct.cons ?_ (Oct.cons (by omega) Oct.nil))) ((vary_oct _).app (fixb_oct _ _))
  rcases h1 with h1 | h1 <;> rw [h1] <;> decide
theorem gn_slot (s : Nat) (h : s ≤ 4294967296) : gn s ≤ 4 := by
  apply Nat.le_of_not_lt; intro hlt
  have h1 := gn_ge s (by omega) (by omega)
  have h2 := pow_mono128 (show 5 ≤ gn s by omega)
  have h3 : (128 : Nat) ^ 5 = 34359738368 := by decide
  omega
theorem bare_len (x : Fr) : (bare x).length = 6 + gn x.s := by
  simp only [bare, List.length_append, List.length_cons, List.length_nil, vary_len, fixb_len]; omega
theorem sealedF_len (x : Fr) : (sealedF x).length = 9 + gn x.s := by
  simp only [sealedF, List.length_append, bare_len, tail24, List.length_cons, List.length_nil]; omega
theorem sealedF_oct (x : Fr) (h : OkF x) : Oct (sealedF x) := (bare_oct x h).app (tail24_oct _)

/-- A fixed number of a width, read from a place on; all of a frame's, one behind the other. -/
def tf (l : List Nat) (k wd : Nat) : Nat × Nat × Nat := if k + wd ≤ l.length then (fxv 0 ((l.drop k).take wd), k + wd, 0) else (0, 0, 3)
def flds (l : List Nat) : (Nat × Nat × Nat × Nat) × Bool :=
  ((( tf l (tf l 0 1).2.1 1).1, (tf l (tf l (tf l 0 1).2.1 1).2.1 1).1,
    (tv true 0 (tf l (tf l (tf l 0 1).2.1 1).2.1 1).2.1 (l.drop (tf l (tf l (tf l 0 1).2.1 1).2.1 1).2.1)).1,
    (tf l (tv true 0 (tf l (tf l (tf l 0 1).2.1 1).2.1 1).2.1 (l.drop (tf l (tf l (tf l 0 1).2.1 1).2.1 1).2.1)).2.1 2).1),
   decide ((tf l 0 1).1 = 161 ∧ (tf l 0 1).2.2 = 0 ∧ (tf l (tf l 0 1).2.1 1).2.2 = 0 ∧ (tf l (tf l (tf l 0 1).2.1 1).2.1 1).2.2 = 0 ∧
    (tv true 0 (tf l (tf l (tf l 0 1).2.1 1).2.1 1).2.1 (l.drop (tf l (tf l (tf l 0 1).2.1 1).2.1 1).2.1)).2.2 = 0 ∧
    (tf l (tv true 0 (tf l (tf l (tf l 0 1).2.1 1).2.1 1).2.1 (l.drop (tf l (tf l (tf l 0 1).2.1 1).2.1 1).2.1)).2.1 2).2.2 = 0 ∧
    (tf l (tv true 0 (tf l (tf l (tf l 0 1).2.1 1).2.1 1).2.1 (l.drop (tf l (tf l (tf l 0 1).2.1 1).2.1 1).2.1)).2.1 2).2.1 = l.length))

theorem fxv1 (x : Nat) : fxv 0 [x] = x := by simp [fxv]
theorem fxv2 (x y : Nat) : fxv 0 [x, y] = x * 256 + y := by simp [fxv]
theorem fixb2 (m : Nat) (h : m < 65536) : fixb m 2 = [m / 256, m % 256] := by
  simp only [fixb, Nat.pow_zero, Nat.pow_one, Nat.div_one]
  rw [Nat.mod_eq_of_lt (show m / 256 < 256 by omega)]
theorem fixb2_back (a b : Nat) (ha : a < 256) (hb : b < 256) : fixb (a * 256 + b) 2 = [a, b] := by
  rw [fixb2 _ (by omega)]; congr 1
  · omega
  · congr 1; omega
/-- The text begins with three bytes. -/
theorem flds_three (a k f : Nat) (r : List Nat) (s p e : Nat) (h : tv true 0 3 r = (s, p, e)) :
    flds (a :: k :: f :: r) = ((k, f, s, (tf (a :: k :: f :: r) p 2).1), decide (a = 161 ∧ e = 0 ∧ (tf (a :: k :: f :: r) p 2).2.2 = 0 ∧ (tf (a :: k :: f :: r) p 2).2.1 = r.length + 3)) := by
  have e0 : tf (a :: k :: f :: r) 0 1 = (a, 1, 0) := by simp [tf, fxv1]
  have e1 : tf (a :: k :: f :: r) 1 1 = (k, 2, 0) := by simp [tf, fxv1]
  have e2 : tf (a :: k :: f :: r) 2 1 = (f, 3, 0) := by simp [tf, fxv1]
  have e3 : tv true 0 3 ((a :: k :: f :: r).drop 3) = (s, p, e) := by simpa using h
  simp only [flds, e0, e1, e2, e3]
  simp
theorem tv_pos (r : List Nat) (s p : Nat) (ho : Oct r) (h : tv true 0 3 r = (s, p, 0)) : s < 2 ^ 64 ∧ p = 3 + (vary s).length ∧ r.take (vary s).length = vary s ∧ (vary s).length ≤ r.length := by
  obtain ⟨h1, h2, h3, h4⟩ := tv_back r 3 s p ho h
  exact ⟨h1, h2, h4, h3⟩
/-- What a text of a frame is read as. -/
theorem flds_bare (x : Fr) (h : OkF x) (hm : x.m < 65536) : flds (bare x) = ((x.k.toNat, x.f.toNat, x.s, x.m), true) := by
  have hv : tv true 0 3 (vary x.s ++ fixb x.m 2) = (x.s, 3 + (vary x.s).length, 0) := tv_vary x.s (by have := h.2.2.2; omega) 3 _
  have ht : tf (161 :: x.k.toNat :: x.f.toNat :: (vary x.s ++ fixb x.m 2)) (3 + (vary x.s).length) 2 = (x.m, 3 + (vary x.s).length + 2, 0) := by
    unfold tf
    rw [if_pos (by simp [fixb_len]; omega)]
    have : (161 :: x.k.toNat :: x.f.toNat :: (vary x.s ++ fixb x.m 2)).drop (3 + (vary x.s).length) = fixb x.m 2 := by
      rw [Nat.add_comm]; simp
    rw [this, List.take_of_length_le (by rw [fixb_len]; omega), fxv_fixb x.m 2 0 (by rw [Nat.div_eq_of_lt]; omega)]
  show flds (161 :: x.k.toNat :: x.f.toNat :: (vary x.s ++ fixb x.m 2)) = _
  rw [flds_three _ _ _ _ _ _ _ hv, ht]
  simp [fixb_len]; omega
/-- Where all of a frame's stand, the text is that frame's. -/
theorem flds_true (l : List Nat) (ho : Oct l) (g : Nat × Nat × Nat × Nat) (h : flds l = (g, true)) :
    l = [161, g.1, g.2.1] ++ (vary g.2.2.1 ++ fixb g.2.2.2 2) ∧ g.1 < 256 ∧ g.2.1 < 256 ∧ g.2.2.1 < 2 ^ 64 ∧ g.2.2.2 < 65536 ∧ tv true 0 3 (l.drop 3) = (g.2.2.1, 3 + (vary g.2.2.1).length, 0) ∧ l.length = 3 + (vary g.2.2.1).length + 2 := by
  match l, ho, h with
  | [], _, h =>
    have := congrArg Prod.snd h
    simp [flds, tf] at this
  | [a], _, h =>
    have := congrArg Prod.snd h
    simp [flds, tf] at this
  | [a, k], _, h =>
    have := congrArg Prod.snd h
    simp [flds, tf] at this
  | a :: k :: f :: r, ho, h =>
    obtain ⟨s, p, e, hv⟩ : ∃ s p e, tv true 0 3 r = (s, p, e) := ⟨_, _, _, rfl⟩
    rw [flds_three _ _ _ _ _ _ _ hv] at h
    obtain ⟨hg, hd⟩ := Prod.mk.inj h
    have hd' := of_decide_eq_true hd
    obtain ⟨rfl, rfl, h3, h4⟩ := hd'
    have hor : Oct r := ho.tail.tail.tail
    obtain ⟨v1, v2, v3, v4⟩ := tv_pos r s p hor hv
    have hp : p + 2 ≤ (161 :: k :: f :: r).length := by
      apply Nat.le_of_not_lt; intro hlt
      unfold tf at h3; rw [if_neg (by omega)] at h3; simp at h3
    have htf : tf (161 :: k :: f :: r) p 2 = (fxv 0 (((161 :: k :: f :: r).drop p).take 2), p + 2, 0) := by unfold tf; rw [if_pos hp]
    rw [htf] at hg h4
    simp only at h4
    have hdrop : (161 :: k :: f :: r).drop p = r.drop (vary s).length := by rw [v2, Nat.add_comm]; simp
    have hl2 : (r.drop (vary s).length).length = 2 := by rw [List.length_drop]; omega
    obtain ⟨y, z, hyz⟩ : ∃ y z, r.drop (vary s).length = [y, z] := by
      match r.drop (vary s).length, hl2 with
      | [y, z], _ => exact ⟨y, z, rfl⟩
    have oyz : Oct [y, z] := by rw [← hyz]; exact hor.drop _
    have hr : r = vary s ++ [y, z] := by
      have := List.take_append_drop (vary s).length r
      rw [v3, hyz] at this; exact this.symm
    rw [hdrop, hyz] at hg
    have hg' : g = (k, f, s, y * 256 + z) := by rw [← hg]; simp [fxv2]
    subst hg'
    have hy := oyz.head
    have hz := oyz.tail.head
    refine ⟨?_, ho.tail.head, ho.tail.tail.head, v1, by simp only; omega, ?_, ?_⟩
    · show _ = [161, k, f] ++ (vary s ++ fixb (y * 256 + z) 2)
      rw [fixb2_back y z hy hz, ← hr]; rfl
    · show tv true 0 3 r = _
      rw [hv, v2]
    · simp only [List.length_cons]; omega

/-- What Read tells of a text: the frame, the error's number. -/
def frOf (g : Nat × Nat × Nat × Nat) : Fr := ⟨(g.1 : Int), (g.2.1 : Int), g.2.2.1, g.2.2.2⟩
def rd (bs : List Nat) : Fr × Nat :=
  if bs.length < 3 then (fz, 3) else if 1048579 < bs.length then (fz, 6) else
  if tail24 (bs.take (bs.length - 3)) = bs.drop (bs.length - 3) then
    if (flds (bs.take (bs.length - 3))).2 = true ∧ OkF (frOf (flds (bs.take (bs.length - 3))).1) then (frOf (flds (bs.take (bs.length - 3))).1, 0) else (fz, 4)
  else (fz, 5)
theorem frOf_bare (x : Fr) (h : OkF x) : frOf (x.k.toNat, x.f.toNat, x.s, x.m) = x := by
  obtain ⟨h1, h2, h3, h4⟩ := h
  obtain ⟨k, f, s, m⟩ := x
  simp only [frOf] at *
  congr 1 <;> omega
theorem rd_sealed (x : Fr) (h : OkF x) (hm : x.m < 65536) : rd (sealedF x) = (x, 0) := by
  have hl := sealedF_len x
  have hg := gn_slot x.s h.2.2.2
  have hb := bare_len x
  have e1 : (sealedF x).take ((sealedF x).length - 3) = bare x := by
    rw [hl, show 9 + gn x.s - 3 = (bare x).length by omega]; exact List.take_left
  have e2 : (sealedF x).drop ((sealedF x).length - 3) = tail24 (bare x) := by
    rw [hl, show 9 + gn x.s - 3 = (bare x).length by omega]; exact List.drop_left
  unfold rd
  rw [if_neg (by omega), if_neg (by omega), e1, e2, if_pos rfl, flds_bare x h hm, frOf_bare x h, if_pos ⟨rfl, h⟩]
/-- What is no text of a frame is told so; what is, is its text. -/
theorem rd_ok (bs : List Nat) (ho : Oct bs) (g : Fr) (h : rd bs = (g, 0)) : OkF g ∧ g.m < 65536 ∧ bs = sealedF g := by
  unfold rd at h
  split at h
  · simp at h
  split at h
  · simp at h
  rename_i h3 h6
  split at h
  · rename_i ht
    split at h
    · rename_i hc
      obtain ⟨hc1, hc2⟩ := hc
      have hg : frOf (flds (bs.take (bs.length - 3))).1 = g := (Prod.mk.inj h).1
      rw [hg] at hc2
      have hf : flds (bs.take (bs.length - 3)) = ((flds (bs.take (bs.length - 3))).1, true) := by rw [← hc1]
      obtain ⟨t1, t2, t3, t4, t5, _⟩ := flds_true _ (ho.take _) _ hf
      generalize (flds (bs.take (bs.length - 3))).1 = y at *
      have eb : bs.take (bs.length - 3) = bare g := by
        rw [t1, ← hg]; simp [bare, frOf]
      refine ⟨hc2, by rw [← hg]; exact t5, ?_⟩
      unfold sealedF
      rw [← eb, ht, List.take_append_drop]
    · simp at h
  · simp at h
theorem rd_fail (bs : List Nat) (h : (rd bs).2 ≠ 0) : (rd bs).1 = fz := by
  unfold rd at h ⊢
  split
  · rfl
  split
  · rfl
  split
  · split
    · rename_i a b c d; rw [if_neg a, if_neg b, if_pos c, if_pos d] at h; exact absurd rfl h
    · rfl
  · rfl
theorem sealedF_inj (x y : Fr) (hx : OkF x) (hy : OkF y) (mx : x.m < 65536) (my : y.m < 65536) (h : sealedF x = sealedF y) : x = y := by
  have h1 := rd_sealed x hx mx
  have h2 := rd_sealed y hy my
  rw [h, h2] at h1
  exact (Prod.mk.inj h1).1.symm
end Go.Proofs.Ytldegdhpblkhhaa
