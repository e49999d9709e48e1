/-
  Texts Fp of this seat, as far as they are used.
-/
namespace Go.Proofs.YtlgedfljmgedfaaGreat.F8

/-- All are bytes. -/
def Oct (l : List Nat) : Prop := ∀ x ∈ l, x < 256
theorem Oct.nil : Oct [] := by intro x h; cases h
theorem Oct.cons {x : Nat} {l : List Nat} (h : x < 256) (k : Oct l) : Oct (x :: l) := by
  intro y hy; rcases List.mem_cons.1 hy with rfl | hy
  · exact h
  · exact k y hy
theorem Oct.head {x : Nat} {l : List Nat} (h : Oct (x :: l)) : x < 256 := h x (List.mem_cons_self ..)
theorem Oct.tail {x : Nat} {l : List Nat} (h : Oct (x :: l)) : Oct l := fun y hy => h y (List.mem_cons_of_mem _ hy)
theorem Oct.app {a b : List Nat} (h : Oct a) (k : Oct b) : Oct (a ++ b) := by
  intro y hy; rcases List.mem_append.1 hy with hy | hy
  · exact h y hy
  · exact k y hy
theorem Oct.drop {a : List Nat} (h : Oct a) (n : Nat) : Oct (a.drop n) := fun y hy => h y (List.mem_of_mem_drop hy)
theorem Oct.take {a : List Nat} (h : Oct a) (n : Nat) : Oct (a.take n) := fun y hy => h y (List.mem_of_mem_take hy)

theorem add_xor (a b i : Nat) (h : b < 2 ^ i) : 2 ^ i * a + b = 2 ^ i * a ^^^ b := by
  refine Nat.eq_of_testBit_eq fun j => ?_
  rw [Nat.testBit_xor, Nat.testBit_two_pow_mul_add a h, Nat.testBit_two_pow_mul]
  by_cases hj : j < i
  · simp [hj, Nat.not_le.2 hj]
  · have : b.testBit j = false := Nat.testBit_lt_two_pow (Nat.lt_of_lt_of_le h (Nat.pow_le_pow_right (by omega) (by omega)))
    simp [hj, this]; omega
theorem xor_zero_iff {a b : Nat} (h : a ^^^ b = 0) : a = b := by
  refine Nat.eq_of_testBit_eq fun j => ?_
  have := congrArg (fun x => x.testBit j) h
  simp only [Nat.testBit_xor, Nat.zero_testBit] at this
  revert this; cases a.testBit j <;> cases b.testBit j <;> simp
theorem xor_swap (a b c d : Nat) : (a ^^^ b) ^^^ (c ^^^ d) = (a ^^^ c) ^^^ (b ^^^ d) := by
  rw [Nat.xor_assoc, Nat.xor_assoc, ← Nat.xor_assoc b c d, Nat.xor_comm b c, Nat.xor_assoc c b d]
theorem xor_cancel (a b : Nat) : a ^^^ (a ^^^ b) = b := by rw [← Nat.xor_assoc, Nat.xor_self, Nat.zero_xor]
theorem dbl_xor (a b : Nat) : 2 * (a ^^^ b) = (2 * a) ^^^ (2 * b) := by
  have h : ∀ x : Nat, 2 * x = x <<< 1 := fun x => by rw [Nat.shiftLeft_eq]; omega
  rw [h, h, h, Nat.shiftLeft_xor_distrib]

/-- f, n times. -/
def it (f : Nat → Nat) : Nat → Nat → Nat
  | 0, r => r
  | n + 1, r => it f n (f r)
theorem it_add (f : Nat → Nat) (m : Nat) : ∀ n r, it f (m + n) r = it f n (it f m r) := by
  induction m with
  | zero => intro n r; rw [Nat.zero_add]; rfl
  | succ m ih => intro n r; rw [Nat.succ_add]; exact ih n (f r)
theorem it_last (f : Nat → Nat) (n r : Nat) : it f (n + 1) r = f (it f n r) := it_add f n 1 r

/-- A step of a register of w bits that is linear, and loses nothing. -/
structure Reg (f : Nat → Nat) (w : Nat) : Prop where
  lt : ∀ r, r < 2 ^ w → f r < 2 ^ w
  xor : ∀ a b, a < 2 ^ w → b < 2 ^ w → f (a ^^^ b) = f a ^^^ f b
  inj : ∀ r, r < 2 ^ w → f r = 0 → r = 0
theorem Reg.zero {f : Nat → Nat} {w : Nat} (h : Reg f w) : f 0 = 0 := by
  have := h.xor 0 0 (Nat.two_pow_pos w) (Nat.two_pow_pos w)
  rw [Nat.xor_self, Nat.xor_self] at this; exact this
theorem Reg.it {f : Nat → Nat} {w : Nat} (h : Reg f w) : ∀ n, Reg (it f n) w
  | 0 => ⟨fun _ h => h, fun _ _ _ _ => rfl, fun _ _ h => h⟩
  | n + 1 => ⟨fun r hr => (h.it n).lt _ (h.lt r hr),
      fun a b ha hb => by show YtlgedfljmgedfaaGreat.F8.it f n (f (a ^^^ b)) = _; rw [h.xor a b ha hb, (h.it n).xor _ _ (h.lt a ha) (h.lt b hb)]; rfl,
      fun r hr e => h.inj r hr ((h.it n).inj _ (h.lt r hr) e)⟩
theorem Reg.one {f : Nat → Nat} {w : Nat} (h : Reg f w) {a b : Nat} (ha : a < 2 ^ w) (hb : b < 2 ^ w) (e : f a = f b) : a = b := by
  refine xor_zero_iff (h.inj _ (Nat.xor_lt_two_pow ha hb) ?_)
  rw [h.xor a b ha hb, e, Nat.xor_self]

/-- How bytes come into a register: linear, too. -/
structure Ent (e : Nat → Nat) (w : Nat) : Prop where
  lt : ∀ x, x < 256 → e x < 2 ^ w
  xor : ∀ x y, e (x ^^^ y) = e x ^^^ e y

/-- A register behind some bytes. -/
def reg (f e : Nat → Nat) (r : Nat) (bs : List Nat) : Nat := bs.foldl (fun r x => it f 8 (r ^^^ e x)) r
section
variable {f e : Nat → Nat} {w : Nat} (hf : Reg f w) (he : Ent e w)
theorem reg_cons (r x : Nat) (bs : List Nat) : reg f e r (x :: bs) = reg f e (it f 8 (r ^^^ e x)) bs := rfl
theorem reg_app (r : Nat) (a b : List Nat) : reg f e r (a ++ b) = reg f e (reg f e r a) b := List.foldl_append ..
theorem reg_snoc (r : Nat) (a : List Nat) (x : Nat) : reg f e r (a ++ [x]) = it f 8 (reg f e r a ^^^ e x) := by rw [reg_app]; rfl
include hf he
theorem reg_lt : ∀ (bs : List Nat) (r : Nat), r < 2 ^ w → Oct bs → reg f e r bs < 2 ^ w
  | [], _, hr, _ => hr
  | x :: bs, r, hr, ho => by
    rw [reg_cons]
    exact reg_lt bs _ ((hf.it 8).lt _ (Nat.xor_lt_two_pow hr (he.lt x ho.head))) ho.tail
end

/-- The register of 24 bits. -/
def st24 (r : Nat) : Nat := if 16777216 ≤ 2 * r then 2 * r ^^^ 25578747 else 2 * r
def e24 (x : Nat) : Nat := 65536 * x
theorem st24_ref (r : Nat) (h : 16777216 ≤ 2 * r) (hr : r < 16777216) : (2 * r - 16777216) ^^^ 8801531 = st24 r := by
  unfold st24
  rw [if_pos h]
  obtain ⟨y, hy⟩ : ∃ y, 2 * r = 16777216 + y := ⟨2 * r - 16777216, by omega⟩
  have e1 : 2 * r = 2 ^ 24 * 1 ^^^ y := by rw [← add_xor 1 _ 24 (by omega)]; omega
  have e2 : (25578747 : Nat) = 2 ^ 24 * 1 ^^^ 8801531 := by decide
  rw [show 2 * r - 16777216 = y by omega, e1, e2, xor_swap, Nat.xor_self, Nat.zero_xor]
theorem st24_lt (r : Nat) (hr : r < 16777216) : st24 r < 16777216 := by
  by_cases h : 16777216 ≤ 2 * r
  · rw [← st24_ref r h hr]
    exact Nat.xor_lt_two_pow (n := 24) (by omega) (by omega)
  · unfold st24; rw [if_neg h]; omega
/-- By its highest bit. -/
theorem st24_bit (r : Nat) (hr : r < 16777216) : st24 r = 2 * r ^^^ (if r.testBit 23 then 25578747 else 0) := by
  have hb : r.testBit 23 = decide (16777216 ≤ 2 * r) := by
    rw [Nat.testBit_eq_decide_div_mod_eq, decide_eq_decide]; omega
  unfold st24
  rw [hb]
  by_cases h : 16777216 ≤ 2 * r <;> simp [h]
theorem reg24 : Reg st24 24 where
  lt r hr := st24_lt r hr
  xor a b ha hb := by
    rw [st24_bit _ (Nat.xor_lt_two_pow (n := 24) ha hb), st24_bit a ha, st24_bit b hb, dbl_xor, Nat.testBit_xor, xor_swap]
    cases a.testBit 23 <;> cases b.testBit 23 <;> simp
  inj r hr e := by
    unfold st24 at e
    split at e
    · have := xor_zero_iff e; omega
    · omega
theorem ent24 : Ent e24 24 where
  lt x hx := by unfold e24; omega
  xor x y := by
    have h : ∀ x : Nat, e24 x = x <<< 16 := fun x => by unfold e24; rw [Nat.shiftLeft_eq]; omega
    rw [h, h, h, Nat.shiftLeft_xor_distrib]
/-- As long as nothing falls out. -/
theorem st24_free : ∀ (n x : Nat), x * 2 ^ n < 16777216 → it st24 n x = x * 2 ^ n
  | 0, x, _ => by simp [it]
  | n + 1, x, h => by
    rw [Nat.pow_succ] at h
    have h1 : 2 * x * 2 ^ n < 16777216 := by rw [show 2 * x * 2 ^ n = x * (2 ^ n * 2) by rw [Nat.mul_comm 2 x, Nat.mul_assoc, Nat.mul_comm 2]]; exact h
    have hx : 2 * x < 16777216 := Nat.lt_of_le_of_lt (Nat.le_mul_of_pos_right _ (Nat.two_pow_pos n)) h1
    show it st24 n (st24 x) = _
    rw [show st24 x = 2 * x by unfold st24; rw [if_neg (by omega)], st24_free n _ h1, Nat.pow_succ, Nat.mul_comm 2 x, Nat.mul_assoc, Nat.mul_comm 2]
/-- The tables, and a half byte at once. -/
def t24 (i : Nat) : Nat := it st24 4 (i * 1048576)
theorem half24 (r : Nat) (hr : r < 16777216) : it st24 4 r = (r * 16 % 16777216) ^^^ t24 (r / 1048576) := by
  have e : r = (r / 1048576 * 1048576) ^^^ (r % 1048576) := by
    rw [Nat.mul_comm, ← add_xor _ _ 20 (by omega)]; omega
  conv => lhs; rw [e]
  rw [(reg24.it 4).xor _ _ (by omega) (by omega), Nat.xor_comm]
  congr 1
  rw [st24_free 4 _ (by omega)]; omega

/-- The register of 32 bits. -/
def st32 (r : Nat) : Nat := if r % 2 = 1 then r / 2 ^^^ 3988292384 else r / 2
theorem st32_lt (r : Nat) (hr : r < 4294967296) : st32 r < 4294967296 := by
  unfold st32
  split
  · exact Nat.xor_lt_two_pow (n := 32) (by omega) (by omega)
  · omega
theorem st32_bit (r : Nat) : st32 r = r / 2 ^^^ (if r.testBit 0 then 3988292384 else 0) := by
  have hb : r.testBit 0 = decide (r % 2 = 1) := by rw [Nat.testBit_zero]
  unfold st32
  rw [hb]
  by_cases h : r % 2 = 1 <;> simp [h]
theorem reg32 : Reg st32 32 where
  lt r hr := st32_lt r hr
  xor a b ha hb := by
    have h2 : (a ^^^ b) / 2 = a / 2 ^^^ b / 2 := Nat.xor_div_two_pow (n := 1)
    rw [st32_bit, st32_bit a, st32_bit b, h2, Nat.testBit_xor, xor_swap]
    cases a.testBit 0 <;> cases b.testBit 0 <;> simp
  inj r hr e := by
    unfold st32 at e
    split at e
    · have := xor_zero_iff e; omega
    · omega
def e32 (x : Nat) : Nat := x
def t32 (i : Nat) : Nat := it st32 4 i
/-- The sums. -/
def sum24 (bs : List Nat) : Nat := reg st24 e24 11994318 bs
def sum32 (bs : List Nat) : Nat := 4294967295 ^^^ reg st32 e32 4294967295 bs
def tail24 (bs : List Nat) : List Nat := [sum24 bs / 65536 % 256, sum24 bs / 256 % 256, sum24 bs % 256]
def tail32 (bs : List Nat) : List Nat := [sum32 bs % 256, sum32 bs / 256 % 256, sum32 bs / 65536 % 256, sum32 bs / 16777216 % 256]
theorem sum24_lt {bs : List Nat} (h : Oct bs) : sum24 bs < 16777216 := reg_lt reg24 ent24 bs _ (by decide) h
theorem tail24_oct (bs : List Nat) : Oct (tail24 bs) := Oct.cons (by omega) (Oct.cons (by omega) (Oct.cons (by omega) Oct.nil))
def k32 : Nat := it st32 32 4294967295
end Go.Proofs.YtlgedfljmgedfaaGreat.F8
namespace Go.Proofs.YtlgedfljmgedfaaGreat.F8

/-- A text with bit q turned; each byte's highest comes first. -/
def turned (bs : List Nat) (q : Nat) : List Nat := bs.set (q / 8) (bs.getD (q / 8) 0 ^^^ 128 / 2 ^ (q % 8))
/-- Where bit k of a burst from 'from' on stands in the register of 32. -/
def p32 (o k : Nat) : Nat := 8 * ((o + k) / 8 - o / 8) + (7 - (o + k) % 8)
/-- What is known of two sealed texts of which some of i bits from o on were turned. -/
def Burst (L o : Nat) (s t : List Nat) (i : Nat) (met : Bool) : Prop :=
  s.length = L ∧ t.length = L + 1 ∧ Oct s ∧ Oct t ∧
  ∃ P Q, P < 16777216 ∧ Q < 4294967296 ∧ sum24 s = it st24 (8 * L - o) P ∧ reg st32 e32 4294967295 t = k32 ^^^ it st32 (8 * (L + 1 - o / 8)) Q ∧
    (∀ k, i ≤ k → k < 24 → P.testBit (23 - k) = false) ∧ (∀ k, i ≤ k → k < 24 → Q.testBit (p32 o k) = false) ∧ met = decide (P ≠ 0) ∧ met = decide (Q ≠ 0)
theorem Burst.start {L o : Nat} {s t : List Nat} (hs : s.length = L) (ht : t.length = L + 1) (os : Oct s) (ot : Oct t) (h1 : sum24 s = 0) (h2 : reg st32 e32 4294967295 t = k32) : Burst L o s t 0 false :=
  ⟨hs, ht, os, ot, 0, 0, by decide, by decide, by rw [h1, (reg24.it _).zero], by rw [h2, (reg32.it _).zero, Nat.xor_zero], fun k _ _ => Nat.zero_testBit _, fun k _ _ => Nat.zero_testBit _, rfl, rfl⟩
theorem Burst.skip {L o : Nat} {s t : List Nat} {i : Nat} {met : Bool} (h : Burst L o s t i met) : Burst L o s t (i + 1) met := by
  obtain ⟨h1, h2, h3, h4, P, Q, h5, h6, h7, h8, h9, h10, h11⟩ := h
  exact ⟨h1, h2, h3, h4, P, Q, h5, h6, h7, h8, fun k hk => h9 k (by omega), fun k hk => h10 k (by omega), h11⟩
theorem Burst.done {L o : Nat} {s t : List Nat} {i : Nat} {met : Bool} (h : Burst L o s t i met) : (sum24 s = 0 ↔ met = false) ∧ (reg st32 e32 4294967295 t = k32 ↔ met = false) := by
  obtain ⟨h1, h2, h3, h4, P, Q, h5, h6, h7, h8, h9, h10, h11, h12⟩ := h
  constructor
  · rw [h7, h11, decide_eq_false_iff_not, Decidable.not_not]
    constructor
    · exact (reg24.it _).inj _ h5
    · intro e; rw [e, (reg24.it _).zero]
  · rw [h8, h12, decide_eq_false_iff_not, Decidable.not_not]
    constructor
    · intro e
      refine (reg32.it (8 * (L + 1 - o / 8))).inj _ h6 ?_
      have := congrArg (fun x => k32 ^^^ x) e
      simp only [xor_cancel, Nat.xor_self] at this
      exact this
    · intro e; rw [e, (reg32.it _).zero, Nat.xor_zero]
end Go.Proofs.YtlgedfljmgedfaaGreat.F8
