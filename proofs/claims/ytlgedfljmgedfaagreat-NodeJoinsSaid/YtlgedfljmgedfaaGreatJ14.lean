/-
  Texts Fq, Fd of this seat, as far as they are used.
-/
import Derived.Test.YtlgedfljmgedfaaGreatJ13
import Derived.Laws.BitsAllLaws
namespace Go.Proofs.YtlgedfljmgedfaaGreat.F8

/-- A frame: kind, from, slot, members. -/
structure Fr where
  k : Int
  f : Int
  s : Nat
  m : Nat
deriving DecidableEq
def fz : Fr := ⟨0, 0, 0, 0⟩
/-- It may be. -/
def OkF (x : Fr) : Prop := (x.k = 1 ∨ x.k = 2) ∧ 0 ≤ x.f ∧ x.f ≤ 15 ∧ x.s ≤ 4294967296
instance (x : Fr) : Decidable (OkF x) := by unfold OkF; infer_instance
/-- Its text, ahead of its sum, and whole. -/
def bare (x : Fr) : List Nat := [161, x.k.toNat, x.f.toNat] ++ (vary x.s ++ fixb x.m 2)
def sealedF (x : Fr) : List Nat := bare x ++ tail24 (bare x)

theorem bare_oct (x : Fr) (h : OkF x) : Oct (bare x) := by
  obtain ⟨h1, h2, h3, h4⟩ := h
  refine Oct.app (Oct.cons (by omega) (Oct.cons ?_ (Oct.cons (by omega) Oct.nil))) ((vary_oct _).app (fixb_oct _ _))
  rcases h1 with h1 | h1 <;> rw [h1] <;> decide
theorem gn_slot (s : Nat) (h : s ≤ 4294967296) : gn s ≤ 4 := by
  apply Nat.le_of_not_lt; intro hlt
  have h1 := gn_ge s (by omega) (by omega)
  have h2 := pow_mono128 (show 5 ≤ gn s by omega)
  have h3 : (128 : Nat) ^ 5 = 34359738368 := by decide
  omega
theorem bare_len (x : Fr) : (bare x).length = 6 + gn x.s := by
  simp only [bare, List.length_append, List.length_cons, List.length_nil, vary_len, fixb_len]; omega
theorem sealedF_len (x : Fr) : (sealedF x).length = 9 + gn x.s := by
  simp only [sealedF, List.length_append, bare_len, tail24, List.length_cons, List.length_nil]; omega
/-- A fixed number of a width, read from a place on; all of a frame's, one behind the other. -/
def tf (l : List Nat) (k wd : Nat) : Nat × Nat × Nat := if k + wd ≤ l.length then (fxv 0 ((l.drop k).take wd), k + wd, 0) else (0, 0, 3)
def flds (l : List Nat) : (Nat × Nat × Nat × Nat) × Bool :=
  ((( tf l (tf l 0 1).2.1 1).1, (tf l (tf l (tf l 0 1).2.1 1).2.1 1).1,
    (tv true 0 (tf l (tf l (tf l 0 1).2.1 1).2.1 1).2.1 (l.drop (tf l (tf l (tf l 0 1).2.1 1).2.1 1).2.1)).1,
    (tf l (tv true 0 (tf l (tf l (tf l 0 1).2.1 1).2.1 1).2.1 (l.drop (tf l (tf l (tf l 0 1).2.1 1).2.1 1).2.1)).2.1 2).1),
   decide ((tf l 0 1).1 = 161 ∧ (tf l 0 1).2.2 = 0 ∧ (tf l (tf l 0 1).2.1 1).2.2 = 0 ∧ (tf l (tf l (tf l 0 1).2.1 1).2.1 1).2.2 = 0 ∧
    (tv true 0 (tf l (tf l (tf l 0 1).2.1 1).2.1 1).2.1 (l.drop (tf l (tf l (tf l 0 1).2.1 1).2.1 1).2.1)).2.2 = 0 ∧
    (tf l (tv true 0 (tf l (tf l (tf l 0 1).2.1 1).2.1 1).2.1 (l.drop (tf l (tf l (tf l 0 1).2.1 1).2.1 1).2.1)).2.1 2).2.2 = 0 ∧
    (tf l (tv true 0 (tf l (tf l (tf l 0 1).2.1 1).2.1 1).2.1 (l.drop (tf l (tf l (tf l 0 1).2.1 1).2.1 1).2.1)).2.1 2).2.1 = l.length))

theorem fxv1 (x : Nat) : fxv 0 [x] = x := by simp [fxv]
theorem fxv2 (x y : Nat) : fxv 0 [x, y] = x * 256 + y := by simp [fxv]
theorem fixb2 (m : Nat) (h : m < 65536) : fixb m 2 = [m / 256, m % 256] := by
  simp only [fixb, Nat.pow_zero, Nat.pow_one, Nat.div_one]
  rw [Nat.mod_eq_of_lt (show m / 256 < 256 by omega)]
theorem fixb2_back (a b : Nat) (ha : a < 256) (hb : b < 256) : fixb (a * 256 + b) 2 = [a, b] := by
  rw [fixb2 _ (by omega)]; congr 1
  · omega
  · congr 1; omega
/-- The text begins with three bytes. -/
theorem flds_three (a k f : Nat) (r : List Nat) (s p e : Nat) (h : tv true 0 3 r = (s, p, e)) :
    flds (a :: k :: f :: r) = ((k, f, s, (tf (a :: k :: f :: r) p 2).1), decide (a = 161 ∧ e = 0 ∧ (tf (a :: k :: f :: r) p 2).2.2 = 0 ∧ (tf (a :: k :: f :: r) p 2).2.1 = r.length + 3)) := by
  have e0 : tf (a :: k :: f :: r) 0 1 = (a, 1, 0) := by simp [tf, fxv1]
  have e1 : tf (a :: k :: f :: r) 1 1 = (k, 2, 0) := by simp [tf, fxv1]
  have e2 : tf (a :: k :: f :: r) 2 1 = (f, 3, 0) := by simp [tf, fxv1]
  have e3 : tv true 0 3 ((a :: k :: f :: r).drop 3) = (s, p, e) := by simpa using h
  simp only [flds, e0, e1, e2, e3]
  simp
theorem tv_pos (r : List Nat) (s p : Nat) (ho : Oct r) (h : tv true 0 3 r = (s, p, 0)) : s < 2 ^ 64 ∧ p = 3 + (vary s).length ∧ r.take (vary s).length = vary s ∧ (vary s).length ≤ r.length := by
  obtain ⟨h1, h2, h3, h4⟩ := tv_back r 3 s p ho h
  exact ⟨h1, h2, h4, h3⟩
/-- What a text of a frame is read as. -/
theorem flds_bare (x : Fr) (h : OkF x) (hm : x.m < 65536) : flds (bare x) = ((x.k.toNat, x.f.toNat, x.s, x.m), true) := by
  have hv : tv true 0 3 (vary x.s ++ fixb x.m 2) = (x.s, 3 + (vary x.s).length, 0) := tv_vary x.s (by have := h.2.2.2; omega) 3 _
  have ht : tf (161 :: x.k.toNat :: x.f.toNat :: (vary x.s ++ fixb x.m 2)) (3 + (vary x.s).length) 2 = (x.m, 3 + (vary x.s).length + 2, 0) := by
    unfold tf
    rw [if_pos (by simp [fixb_len]; omega)]
    have : (161 :: x.k.toNat :: x.f.toNat :: (vary x.s ++ fixb x.m 2)).drop (3 + (vary x.s).length) = fixb x.m 2 := by
      rw [Nat.add_comm]; simp
    rw [this, List.take_of_length_le (by rw [fixb_len]; omega), fxv_fixb x.m 2 0 (by rw [Nat.div_eq_of_lt]; omega)]
  show flds (161 :: x.k.toNat :: x.f.toNat :: (vary x.s ++ fixb x.m 2)) = _
  rw [flds_three _ _ _ _ _ _ _ hv, ht]
  simp [fixb_len]; omega
/-- Where all of a frame's stand, the text is that frame's. -/
theorem flds_true (l : List Nat) (ho : Oct l) (g : Nat × Nat × Nat × Nat) (h : flds l = (g, true)) :
    l = [161, g.1, g.2.1] ++ (vary g.2.2.1 ++ fixb g.2.2.2 2) ∧ g.1 < 256 ∧ g.2.1 < 256 ∧ g.2.2.1 < 2 ^ 64 ∧ g.2.2.2 < 65536 ∧ tv true 0 3 (l.drop 3) = (g.2.2.1, 3 + (vary g.2.2.1).length, 0) ∧ l.length = 3 + (vary g.2.2.1).length + 2 := by
  match l, ho, h with
  | [], _, h =>
    have := congrArg Prod.snd h
    simp [flds, tf] at this
  | [a], _, h =>
    have := congrArg Prod.snd h
    simp [flds, tf] at this
  | [a, k], _, h =>
    have := congrArg Prod.snd h
    simp [flds, tf] at this
  | a :: k :: f :: r, ho, h =>
    obtain ⟨s, p, e, hv⟩ : ∃ s p e, tv true 0 3 r = (s, p, e) := ⟨_, _, _, rfl⟩
    rw [flds_three _ _ _ _ _ _ _ hv] at h
    obtain ⟨hg, hd⟩ := Prod.mk.inj h
    have hd' := of_decide_eq_true hd
    obtain ⟨rfl, rfl, h3, h4⟩ := hd'
    have hor : Oct r := ho.tail.tail.tail
    obtain ⟨v1, v2, v3, v4⟩ := tv_pos r s p hor hv
    have hp : p + 2 ≤ (161 :: k :: f :: r).length := by
      apply Nat.le_of_not_lt; intro hlt
      unfold tf at h3; rw [if_neg (by omega)] at h3; simp at h3
    have htf : tf (161 :: k :: f :: r) p 2 = (fxv 0 (((161 :: k :: f :: r).drop p).take 2), p + 2, 0) := by unfold tf; rw [if_pos hp]
    rw [htf] at hg h4
    simp only at h4
    have hdrop : (161 :: k :: f :: r).drop p = r.drop (vary s).length := by rw [v2, Nat.add_comm]; simp
    have hl2 : (r.drop (vary s).length).length = 2 := by rw [List.length_drop]; omega
    obtain ⟨y, z, hyz⟩ : ∃ y z, r.drop (vary s).length = [y, z] := by
      match r.drop (vary s).length, hl2 with
      | [y, z], _ => exact ⟨y, z, rfl⟩
    have oyz : Oct [y, z] := by rw [← hyz]; exact hor.drop _
    have hr : r = vary s ++ [y, z] := by
      have := List.take_append_drop (vary s).length r
      rw [v3, hyz] at this; exact this.symm
    rw [hdrop, hyz] at hg
    have hg' : g = (k, f, s, y * 256 + z) := by rw [← hg]; simp [fxv2]
    subst hg'
    have hy := oyz.head
    have hz := oyz.tail.head
    refine ⟨?_, ho.tail.head, ho.tail.tail.head, v1, by simp only; omega, ?_, ?_⟩
    · show _ = [161, k, f] ++ (vary s ++ fixb (y * 256 + z) 2)
      rw [fixb2_back y z hy hz, ← hr]; rfl
    · show tv true 0 3 r = _
      rw [hv, v2]
    · simp only [List.length_cons]; omega

/-- What Read tells of a text: the frame, the error's number. -/
def frOf (g : Nat × Nat × Nat × Nat) : Fr := ⟨(g.1 : Int), (g.2.1 : Int), g.2.2.1, g.2.2.2⟩
def rd (bs : List Nat) : Fr × Nat :=
  if bs.length < 3 then (fz, 3) else if 1048579 < bs.length then (fz, 6) else
  if tail24 (bs.take (bs.length - 3)) = bs.drop (bs.length - 3) then
    if (flds (bs.take (bs.length - 3))).2 = true ∧ OkF (frOf (flds (bs.take (bs.length - 3))).1) then (frOf (flds (bs.take (bs.length - 3))).1, 0) else (fz, 4)
  else (fz, 5)
theorem frOf_bare (x : Fr) (h : OkF x) : frOf (x.k.toNat, x.f.toNat, x.s, x.m) = x := by
  obtain ⟨h1, h2, h3, h4⟩ := h
  obtain ⟨k, f, s, m⟩ := x
  simp only [frOf] at *
  congr 1 <;> omega
theorem rd_sealed (x : Fr) (h : OkF x) (hm : x.m < 65536) : rd (sealedF x) = (x, 0) := by
  have hl := sealedF_len x
  have hg := gn_slot x.s h.2.2.2
  have hb := bare_len x
  have e1 : (sealedF x).take ((sealedF x).length - 3) = bare x := by
    rw [hl, show 9 + gn x.s - 3 = (bare x).length by omega]; exact List.take_left
  have e2 : (sealedF x).drop ((sealedF x).length - 3) = tail24 (bare x) := by
    rw [hl, show 9 + gn x.s - 3 = (bare x).length by omega]; exact List.drop_left
  unfold rd
  rw [if_neg (by omega), if_neg (by omega), e1, e2, if_pos rfl, flds_bare x h hm, frOf_bare x h, if_pos ⟨rfl, h⟩]
/-- What is no text of a frame is told so; what is, is its text. -/
theorem rd_ok (bs : List Nat) (ho : Oct bs) (g : Fr) (h : rd bs = (g, 0)) : OkF g ∧ g.m < 65536 ∧ bs = sealedF g := by
  unfold rd at h
  split at h
  · simp at h
  split at h
  · simp at h
  rename_i h3 h6
  split at h
  · rename_i ht
    split at h
    · rename_i hc
      obtain ⟨hc1, hc2⟩ := hc
      have hg : frOf (flds (bs.take (bs.length - 3))).1 = g := (Prod.mk.inj h).1
      rw [hg] at hc2
      have hf : flds (bs.take (bs.length - 3)) = ((flds (bs.take (bs.length - 3))).1, true) := by rw [← hc1]
      obtain ⟨t1, t2, t3, t4, t5, _⟩ := flds_true _ (ho.take _) _ hf
      generalize (flds (bs.take (bs.length - 3))).1 = y at *
      have eb : bs.take (bs.length - 3) = bare g := by
        rw [t1, ← hg]; simp [bare, frOf]
      refine ⟨hc2, by rw [← hg]; exact t5, ?_⟩
      unfold sealedF
      rw [← eb, ht, List.take_append_drop]
    · simp at h
  · simp at h
end Go.Proofs.YtlgedfljmgedfaaGreat.F8
namespace Go.Proofs.YtlgedfljmgedfaaGreat.F8
open Go

/-- Bit k of m is 1; m with it; m without it; how many of the lowest n are 1. -/
def hs (m k : Nat) : Bool := decide (m / 2 ^ k % 2 = 1)
def addb (m k : Nat) : Nat := if hs m k then m else m + 2 ^ k
def subb (m k : Nat) : Nat := if hs m k then m - 2 ^ k else m
def cn (m : Nat) : Nat → Nat
  | 0 => 0
  | n + 1 => cn m n + m / 2 ^ n % 2

theorem hs_bit (m k : Nat) : hs m k = m.testBit k := (Nat.testBit_eq_decide_div_mod_eq ..).symm
theorem one_bit (m k : Nat) : m / 2 ^ k % 2 = if hs m k then 1 else 0 := by
  unfold hs
  by_cases h : m / 2 ^ k % 2 = 1
  · simp [h]
  · simp [h]; omega
theorem pow15 (k : Nat) (h : k ≤ 15) : 2 ^ k ≤ 32768 := by
  have := Nat.pow_le_pow_right (show 0 < 2 by omega) h; simpa using this
theorem and_pow (m k : Nat) : m &&& 2 ^ k = if hs m k then 2 ^ k else 0 := by
  rw [nat_bit, one_bit]; split <;> simp
theorem or_pow (m k : Nat) : m ||| 2 ^ k = addb m k := by
  unfold addb
  split
  · rename_i h
    rw [hs_bit] at h
    refine Nat.eq_of_testBit_eq fun j => ?_
    rw [Nat.testBit_or, Nat.testBit_two_pow]
    by_cases e : k = j
    · subst e; simp [h]
    · simp [e]
  · rename_i h
    have h0 : m / 2 ^ k % 2 = 0 := by rw [one_bit, if_neg h]
    have hp := Nat.two_pow_pos k
    have e1 : m = 2 ^ (k + 1) * (m / 2 ^ k / 2) + m % 2 ^ k := by
      have a1 := Nat.div_add_mod m (2 ^ k)
      have a2 := Nat.div_add_mod (m / 2 ^ k) 2
      rw [h0, Nat.add_zero] at a2
      rw [Nat.pow_succ, Nat.mul_assoc, a2, a1]
    have hb := Nat.mod_lt m hp
    generalize m % 2 ^ k = b at e1 hb
    generalize m / 2 ^ k / 2 = a at e1
    have hb2 : b < 2 ^ (k + 1) := by rw [Nat.pow_succ]; omega
    have hb3 : 2 ^ k + b < 2 ^ (k + 1) := by rw [Nat.pow_succ]; omega
    rw [e1, ← nat_join (k + 1) (2 ^ (k + 1) * a) b (by simp) hb2, Nat.or_assoc, Nat.or_comm b, nat_join k (2 ^ k) b (by simp) hb, nat_join (k + 1) _ _ (by simp) hb3]
    rw [nat_join (k + 1) (2 ^ (k + 1) * a) b (by simp) hb2]
    omega
theorem addb_bit (m k j : Nat) : (addb m k).testBit j = (m.testBit j || decide (k = j)) := by
  rw [← or_pow, Nat.testBit_or, Nat.testBit_two_pow]
theorem addb_lt (m k : Nat) (hm : m < 65536) (hk : k ≤ 15) : addb m k < 65536 := by
  rw [← or_pow]
  exact Nat.or_lt_two_pow (n := 16) hm (Nat.pow_lt_pow_right (by omega) (by omega))
theorem subb_add (m k : Nat) (h : hs m k = true) : addb (m - 2 ^ k) k = m := by
  have h1 : m / 2 ^ k % 2 = 1 := by rw [one_bit, if_pos h]
  have hp := Nat.two_pow_pos k
  have h2 : 2 ^ k ≤ m := by
    apply Nat.le_of_not_lt; intro hlt
    rw [Nat.div_eq_of_lt hlt] at h1; omega
  have h3 : (m - 2 ^ k) / 2 ^ k = m / 2 ^ k - 1 := by
    have := Nat.sub_mul_div m (2 ^ k) 1
    rwa [Nat.mul_one] at this
  have h4 : hs (m - 2 ^ k) k = false := by
    unfold hs; rw [h3, decide_eq_false_iff_not]; omega
  unfold addb; rw [if_neg (by rw [h4]; decide)]; omega
theorem subb_bit (m k j : Nat) : (subb m k).testBit j = (m.testBit j && !decide (k = j)) := by
  unfold subb
  split
  · rename_i h
    have h1 := subb_add m k h
    have hp := Nat.two_pow_pos k
    by_cases e : k = j
    · subst e
      have h3 : (m - 2 ^ k) / 2 ^ k = m / 2 ^ k - 1 := by
        have := Nat.sub_mul_div m (2 ^ k) 1
        rwa [Nat.mul_one] at this
      have h5 : m / 2 ^ k % 2 = 1 := by rw [one_bit, if_pos h]
      rw [← hs_bit]; unfold hs
      rw [h3]; simp; omega
    · have h2 := addb_bit (m - 2 ^ k) k j
      rw [h1] at h2
      rw [h2]; simp [e]
  · rename_i h
    by_cases e : k = j
    · subst e; rw [hs_bit] at h; simp at h; simp [h]
    · simp [e]
theorem subb_le (m k : Nat) : subb m k ≤ m := by
  unfold subb; split
  · exact Nat.sub_le ..
  · exact Nat.le_refl _
theorem andNot_pow (m k : Nat) (hm : m < 65536) (hk : k ≤ 15) : m &&& (65535 - 2 ^ k) = subb m k := by
  refine Nat.eq_of_testBit_eq fun j => ?_
  have hp := pow15 k hk
  rw [subb_bit, Nat.testBit_and, show 65535 - 2 ^ k = 2 ^ 16 - (2 ^ k + 1) by omega, Nat.testBit_two_pow_sub_succ (by omega), Nat.testBit_two_pow]
  by_cases hj : j < 16
  · simp [hj]
  · have : m.testBit j = false := Nat.testBit_lt_two_pow (Nat.lt_of_lt_of_le hm (by
      have := Nat.pow_le_pow_right (show 0 < 2 by omega) (show 16 ≤ j by omega); simpa using this))
    simp [this]
/-! What follows of members. -/
theorem hs_addb (m k j : Nat) : hs (addb m k) j = (hs m j || decide (k = j)) := by rw [hs_bit, hs_bit, addb_bit]
theorem hs_subb (m k j : Nat) : hs (subb m k) j = (hs m j && !decide (k = j)) := by rw [hs_bit, hs_bit, subb_bit]
theorem cn_le (m : Nat) : ∀ n, cn m n ≤ n
  | 0 => Nat.le_refl _
  | n + 1 => by have := cn_le m n; rw [cn]; omega
theorem cn_high (m : Nat) : ∀ n, cn m (8 + n) = cn m 8 + cn (m / 256) n
  | 0 => rfl
  | n + 1 => by
    show cn m (8 + n) + m / 2 ^ (8 + n) % 2 = cn m 8 + (cn (m / 256) n + m / 256 / 2 ^ n % 2)
    rw [cn_high m n, Nat.div_div_eq_div_mul, show (256 : Nat) * 2 ^ n = 2 ^ (8 + n) by rw [Nat.pow_add], Nat.add_assoc]
theorem cn_low (m : Nat) : ∀ n, n ≤ 8 → cn (m % 256) n = cn m n
  | 0, _ => rfl
  | n + 1, hn => by
    rw [cn, cn, cn_low m n (by omega), one_bit, one_bit, hs_bit, hs_bit, show (256 : Nat) = 2 ^ 8 by decide, Nat.testBit_mod_two_pow, decide_eq_true (show n < 8 by omega), Bool.true_and]
/-- By halves. -/
theorem cn_halves (m : Nat) : cn m 16 = cn (m / 256) 8 + cn (m % 256) 8 := by
  rw [cn_low m 8 (Nat.le_refl _), show (16 : Nat) = 8 + 8 by decide, cn_high, Nat.add_comm]
end Go.Proofs.YtlgedfljmgedfaaGreat.F8
namespace Go.Proofs.YtlgedfljmgedfaaGreat.F8
open Go Go.RowKit

theorem varies1 (x : Nat) : varies [x] = vary x := by simp [varies]

end Go.Proofs.YtlgedfljmgedfaaGreat.F8
namespace Go.Proofs.YtlgedfljmgedfaaGreat.F8
open Go Go.RowKit
theorem or8 (acc x : Nat) (h : acc < 72057594037927936) (hx : x < 256) : bits .or .u64 ((acc : Int) * 256) (x : Int) = ((acc * 256 + x : Nat) : Int) := by
  have hm : x < 2 ^ 8 := hx
  have e1 : (acc : Int) * 256 = ((acc * 256 : Nat) : Int) := by simp
  rw [e1, u64_or_nat _ _ (by omega) (by omega)]
  have := Nat.two_pow_add_eq_or_of_lt hm acc
  rw [show (2 : Nat) ^ 8 = 256 from rfl, Nat.mul_comm 256 acc] at this
  rw [this]
end Go.Proofs.YtlgedfljmgedfaaGreat.F8
namespace Go.Proofs.YtlgedfljmgedfaaGreat.F8
open Go Go.RowKit

set_option maxRecDepth 100000 in
set_option maxHeartbeats 400000 in
theorem takeFixed_ok (A : Option Addr) (n c B k0 wd : Nat) (bs : List Nat) (w : World) (hr : Row w B A n (bv bs)) (ho : Oct bs) (hn : n ≤ c) (hn2 : n ≤ 1000000000) (hw1 : 1 ≤ wd) (hw2 : wd ≤ 8) (hk : k0 + wd ≤ n) :
    Calls Tryz.prog 151 #[.slice A n c, .int .i64 (k0 : Int), .int .i64 (wd : Int)] w fun r w' => r = .returned (.tuple #[.int .u64 (fxv 0 ((bs.drop k0).take wd) : Nat), .int .i64 ((k0 : Int) + (wd : Int)), .int .i64 0]) ∧ w = w' := by
  obtain ⟨b, o, rfl, hb, hc⟩ := hr.2 (by omega)
  have hl := hr.1
  rw [bv_len] at hl
  have HL := hid hl
  have HC := hid hc
  have HO := hid ho
  have hck : ¬ c = k0 := by omega
  have HW : Hid (widB wd = true) := hid (by simp [widB]; omega)
  clear hr hl hc ho
  go_enter Tryz.func151, Tryz.ntmps151
  go_wp2_with (go_at_call 114; refine (isWidth_any _ _).mono ?_; rintro e w' ⟨rfl, rfl⟩; have hwb := HW.out)
  go_loop [9, 32] (fun a i => ∃ k : Nat, k ≤ wd ∧ i = .int .i64 (k : Int) ∧ a = .int .u64 ((fxv 0 ((bs.drop k0).take k) : Nat) : Int)) (fun _ i => wd - (intOf i).toNat)
  case atStart => exact ⟨0, Nat.zero_le _, rfl, rfl⟩
  case round =>
    obtain ⟨k, hkw, rfl, rfl⟩ := hrel
    by_cases hlt : k < wd
    · have hkn : k0 + k < bs.length := by have := HL.out; omega
      obtain ⟨x, hxx⟩ : ∃ x, x = bs[k0 + k] := ⟨_, rfl⟩
      have hcell : w.cell? ⟨b, o + k0 + k, none⟩ = some (.int .u8 (x : Int)) := by
        rw [Nat.add_assoc]
        refine HC.out (k0 + k) _ ?_
        simp [bv, List.getElem?_eq_getElem hkn, hxx]
      have hx : x < 256 := by rw [hxx]; exact HO.out _ (List.getElem_mem hkn)
      have hdl : k < (bs.drop k0).length := by rw [List.length_drop]; omega
      have HT : Hid ((bs.drop k0).take (k + 1) = (bs.drop k0).take k ++ [x]) := hid (by rw [List.take_succ_eq_append_getElem hdl, List.getElem_drop, hxx])
      have hacc : fxv 0 ((bs.drop k0).take k) < 72057594037927936 := by
        have h1 := fxv_lt ((bs.drop k0).take k) ((HO.out.drop _).take _)
        have h2 : ((bs.drop k0).take k).length ≤ 7 := by rw [List.length_take]; omega
        have h3 := Nat.pow_le_pow_right (show 0 < 256 by omega) h2
        have h4 : (256 : Nat) ^ 7 = 72057594037927936 := by decide
        omega
      have HS : Hid (fxv 0 ((bs.drop k0).take (k + 1)) = fxv 0 ((bs.drop k0).take k) * 256 + x) := hid (by rw [HT.out, fxv_snoc])
      clear hxx HT
      generalize fxv 0 ((bs.drop k0).take k) = acc at HS hacc ⊢
      go_wp2
      go_round
      case rel => exact ⟨k + 1, by omega, by go_num, by rw [HS.out, or8 acc x hacc hx]⟩
      case measure => simp [intOf]; omega
    · obtain rfl : k = wd := by omega
      go_wp2
      go_ret3
      exact ⟨rfl, rfl⟩
/-- A record's bytes. -/
def rcd (kd : Nat) (body : List Nat) : List Nat := kd :: (vary body.length ++ body)

set_option maxHeartbeats 400000 in
/-- Where a record's body begins, and ends, or the error's number: of a text and a place in it, or behind. -/
def bod (bs : List Nat) (k : Nat) : Nat × Nat × Nat :=
  if bs.length ≤ k then (0, 0, 3) else
  let r := tv true 0 (k + 1) (bs.drop (k + 1))
  if r.2.2 ≠ 0 then (0, 0, r.2.2) else if 1048576 < r.1 then (0, 0, 6) else if bs.length - r.2.1 < r.1 then (0, 0, 3) else (r.2.1, r.2.1 + r.1, 0)
end Go.Proofs.YtlgedfljmgedfaaGreat.F8
namespace Go.Proofs.YtlgedfljmgedfaaGreat.F8
open Go Go.RowKit

theorem Own.laid (w : World) (base : Nat) (cs : List Value) (hb : base ≤ w.heap.size) (hm : cs.length ≤ 100) : Own (w.alloc (.cells cs.toArray 5)) base 5 (some ⟨w.heap.size, 0, none⟩) cs.length cs.length cs :=
  ⟨by simp, .inr ⟨w.heap.size, cs.length, cs.toArray, rfl, hb, heap_alloc_new w _, Nat.le_refl _, by unfold maxLen; omega, by simp, by simp⟩⟩

end Go.Proofs.YtlgedfljmgedfaaGreat.F8
namespace Go.Proofs.YtlgedfljmgedfaaGreat.F8
open Go Go.RowKit

end Go.Proofs.YtlgedfljmgedfaaGreat.F8
