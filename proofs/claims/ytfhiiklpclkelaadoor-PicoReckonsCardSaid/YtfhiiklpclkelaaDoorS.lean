/-
  Plain arithmetic behind the document's own Scale: a product made bit by bit in two words, and its quotient and rest bit by bit; conditions in each head.
-/
namespace Go.Proofs.YtfhiiklpclkelaaDoor

theorem half (B j : Nat) : B / 2 ^ j = 2 * (B / 2 ^ (j + 1)) + B / 2 ^ j % 2 := by
  rw [Nat.pow_succ, ← Nat.div_div_eq_div_mul]
  omega

/-- h and l are, together, A times what of B is above its lowest k bits -/
def Inv1 (A B k h l : Nat) : Prop := h * 18446744073709551616 + l = A * (B / 2 ^ k) ∧ l < 18446744073709551616

theorem inv1_start (A B : Nat) (hB : B ≤ 1152921504606846976) : Inv1 A B 64 0 0 := by
  have : B / 2 ^ 64 = 0 := Nat.div_eq_of_lt (by omega)
  exact ⟨by rw [this]; simp, by decide⟩

theorem inv1_top {A B k h l : Nat} (hA : A ≤ 1152921504606846976) (hB : B ≤ 1152921504606846976) (i : Inv1 A B k h l) : h < 288230376151711744 := by
  have h1 : A * (B / 2 ^ k) ≤ 1152921504606846976 * 1152921504606846976 := Nat.mul_le_mul hA (Nat.le_trans (Nat.div_le_self _ _) hB)
  have := i.1
  omega

theorem core0 {h l X Y : Nat} (e : h * 18446744073709551616 + l = Y) (_ : l < 18446744073709551616) (key : X = 2 * Y) : X = (2 * h + l / 9223372036854775808) * 18446744073709551616 + 2 * l % 18446744073709551616 := by omega
theorem core1 {h l X Y A h2 l2 : Nat} (e : h * 18446744073709551616 + l = Y) (key : X = 2 * Y + A) (eh : 2 * h + l / 9223372036854775808 = h2) (el : 2 * l % 18446744073709551616 = l2) (_ : l2 + A < 18446744073709551616) : X = h2 * 18446744073709551616 + (l2 + A) := by omega
theorem core2 {h l X Y A h2 l2 : Nat} (e : h * 18446744073709551616 + l = Y) (key : X = 2 * Y + A) (eh : 2 * h + l / 9223372036854775808 = h2) (el : 2 * l % 18446744073709551616 = l2) (_ : 18446744073709551616 ≤ l2 + A) : X = (h2 + 1) * 18446744073709551616 + (l2 + A - 18446744073709551616) := by omega
/-- the next bit is 0 -/
theorem inv1_zero {A B j h l : Nat} (i : Inv1 A B (j + 1) h l) (hb : B / 2 ^ j % 2 = 0) : Inv1 A B j (2 * h + l / 9223372036854775808) (2 * l % 18446744073709551616) := by
  obtain ⟨e, hl⟩ := i
  refine ⟨?_, Nat.mod_lt _ (by decide)⟩
  have hx := half B j
  rw [hb] at hx
  have key : A * (B / 2 ^ j) = 2 * (A * (B / 2 ^ (j + 1))) := by rw [hx, Nat.add_zero, Nat.mul_left_comm A 2]
  exact (core0 e hl key).symm
/-- it is 1, and there is room in the lower part -/
theorem inv1_one {A B j h l h2 l2 : Nat} (i : Inv1 A B (j + 1) h l) (hb : B / 2 ^ j % 2 = 1) (eh : 2 * h + l / 9223372036854775808 = h2) (el : 2 * l % 18446744073709551616 = l2) (hr : l2 + A < 18446744073709551616) : Inv1 A B j h2 (l2 + A) := by
  obtain ⟨e, hl⟩ := i
  refine ⟨?_, hr⟩
  have hx := half B j
  rw [hb] at hx
  have key : A * (B / 2 ^ j) = 2 * (A * (B / 2 ^ (j + 1))) + A := by rw [hx, Nat.mul_add A, Nat.mul_one A, Nat.mul_left_comm A 2]
  exact (core1 e key eh el hr).symm
/-- it is 1, and one is carried -/
theorem inv1_carry {A B j h l h2 l2 : Nat} (i : Inv1 A B (j + 1) h l) (hb : B / 2 ^ j % 2 = 1) (eh : 2 * h + l / 9223372036854775808 = h2) (el : 2 * l % 18446744073709551616 = l2) (hA : A ≤ 1152921504606846976) (hr : 18446744073709551616 ≤ l2 + A) : Inv1 A B j (h2 + 1) (l2 + A - 18446744073709551616) := by
  obtain ⟨e, hl⟩ := i
  have hl2 : l2 < 18446744073709551616 := by rw [← el]; exact Nat.mod_lt _ (by decide)
  refine ⟨?_, by omega⟩
  have hx := half B j
  rw [hb] at hx
  have key : A * (B / 2 ^ j) = 2 * (A * (B / 2 ^ (j + 1))) + A := by rw [hx, Nat.mul_add A, Nat.mul_one A, Nat.mul_left_comm A 2]
  exact (core2 e key eh el hr).symm

/-- q and r are the quotient and the rest of what of P is above its lowest k bits -/
def Inv2 (P d k q r : Nat) : Prop := q = P / 2 ^ k / d ∧ r = P / 2 ^ k % d

theorem inv2_start (P d : Nat) (hP : P < 2 ^ 128) : Inv2 P d 128 0 0 := by
  have : P / 2 ^ 128 = 0 := Nat.div_eq_of_lt hP
  exact ⟨by rw [this]; simp, by rw [this]; simp⟩

theorem two_step (X d b : Nat) (hd : 1 ≤ d) (hb : b < 2) : (2 * (X % d) + b < d → (2 * X + b) / d = 2 * (X / d) ∧ (2 * X + b) % d = 2 * (X % d) + b) ∧
    (d ≤ 2 * (X % d) + b → (2 * X + b) / d = 2 * (X / d) + 1 ∧ (2 * X + b) % d = 2 * (X % d) + b - d) := by
  have e := Nat.div_add_mod X d
  have m : X % d < d := Nat.mod_lt _ hd
  generalize X / d = q at *
  generalize X % d = r at *
  constructor
  · intro h
    have k : 2 * X + b = (2 * r + b) + d * (2 * q) := by rw [← e, Nat.mul_left_comm d 2 q]; omega
    rw [k]
    exact ⟨by rw [Nat.add_mul_div_left _ _ hd, Nat.div_eq_of_lt h, Nat.zero_add], by rw [Nat.add_mul_mod_self_left, Nat.mod_eq_of_lt h]⟩
  · intro h
    have k : 2 * X + b = (2 * r + b - d) + d * (2 * q + 1) := by
      have k2 : d * (2 * q + 1) = 2 * (d * q) + d := by rw [Nat.mul_add, Nat.mul_one, Nat.mul_left_comm d 2 q]
      rw [← e, k2]; omega
    have h' : 2 * r + b - d < d := by omega
    rw [k]
    exact ⟨by rw [Nat.add_mul_div_left _ _ hd, Nat.div_eq_of_lt h', Nat.zero_add], by rw [Nat.add_mul_mod_self_left, Nat.mod_eq_of_lt h']⟩

theorem inv2_low {P d j q r b : Nat} (hd : 1 ≤ d) (i : Inv2 P d (j + 1) q r) (hb : b = P / 2 ^ j % 2) (h : 2 * r + b < d) : Inv2 P d j (2 * q) (2 * r + b) := by
  obtain ⟨rfl, rfl⟩ := i
  have hb2 : b < 2 := by rw [hb]; exact Nat.mod_lt _ (by decide)
  obtain ⟨e1, e2⟩ := (two_step (P / 2 ^ (j + 1)) d b hd hb2).1 h
  have hx := half P j
  rw [← hb] at hx
  unfold Inv2
  rw [hx]
  exact ⟨e1.symm, e2.symm⟩
theorem inv2_high {P d j q r b : Nat} (hd : 1 ≤ d) (i : Inv2 P d (j + 1) q r) (hb : b = P / 2 ^ j % 2) (h : d ≤ 2 * r + b) : Inv2 P d j (2 * q + 1) (2 * r + b - d) := by
  obtain ⟨rfl, rfl⟩ := i
  have hb2 : b < 2 := by rw [hb]; exact Nat.mod_lt _ (by decide)
  obtain ⟨e1, e2⟩ := (two_step (P / 2 ^ (j + 1)) d b hd hb2).2 h
  have hx := half P j
  rw [← hb] at hx
  unfold Inv2
  rw [hx]
  exact ⟨e1.symm, e2.symm⟩
theorem inv2_rest {P d k q r : Nat} (hd : 1 ≤ d) (i : Inv2 P d k q r) : r < d := by
  obtain ⟨rfl, rfl⟩ := i
  exact Nat.mod_lt _ hd
/-- what is above is no more than the whole -/
theorem inv2_over {P d k q r : Nat} (i : Inv2 P d k q r) : q ≤ P / d := by
  obtain ⟨rfl, rfl⟩ := i
  exact Nat.div_le_div_right (Nat.div_le_self _ _)
theorem inv2_end {P d q r : Nat} (i : Inv2 P d 0 q r) : q = P / d ∧ r = P % d := by
  obtain ⟨rfl, rfl⟩ := i
  rw [Nat.pow_zero, Nat.div_one]
  exact ⟨rfl, rfl⟩

/-- a number's bits, by its two parts -/
theorem bit_low (h l j : Nat) (hj : j < 64) : l / 2 ^ (j % 64) % 2 = (h * 18446744073709551616 + l) / 2 ^ j % 2 := by
  rw [Nat.mod_eq_of_lt hj]
  have e : h * 18446744073709551616 = 2 ^ j * (2 * (h * 2 ^ (63 - j))) := by
    have : (18446744073709551616 : Nat) = 2 ^ j * (2 * 2 ^ (63 - j)) := by
      rw [← Nat.pow_succ', ← Nat.pow_add, show j + (63 - j + 1) = 64 by omega]
    rw [this, Nat.mul_left_comm, Nat.mul_left_comm h 2]
  rw [e, Nat.add_comm, Nat.add_mul_div_left _ _ (Nat.two_pow_pos j), Nat.add_mul_mod_self_left]
theorem bit_high (h l j : Nat) (hl : l < 18446744073709551616) (h1 : 64 ≤ j) (h2 : j < 128) : h / 2 ^ (j % 64) % 2 = (h * 18446744073709551616 + l) / 2 ^ j % 2 := by
  have e : j % 64 = j - 64 := by omega
  have k : 2 ^ j = 18446744073709551616 * 2 ^ (j - 64) := by
    have : (18446744073709551616 : Nat) = 2 ^ 64 := by decide
    rw [this, ← Nat.pow_add, show 64 + (j - 64) = j by omega]
  rw [e, k, ← Nat.div_div_eq_div_mul, Nat.mul_comm h, Nat.mul_add_div (by decide), Nat.div_eq_of_lt hl, Nat.add_zero]
end Go.Proofs.YtfhiiklpclkelaaDoor
