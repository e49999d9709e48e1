/-
  Plain arithmetic of layer 3 (no program): the two registers, that they are linear and lose nothing, half bytes at once, what a turned bit does, what the bytes of a sum behind a text do. No condition but what each head says.
-/
namespace Go.Proofs.Ytldegdhpblkhhaa

/-- All are bytes. -/
def Oct (l : List Nat) : Prop := ∀ x ∈ l, x < 256
theorem Oct.nil : Oct [] := by intro x h; cases h
theorem Oct.cons {x : Nat} {l : List Nat} (h : x < 256) (k : Oct l) : Oct (x :: l) := by
  intro y hy; rcases List.mem_cons.1 hy with rfl | hy
  · exact h
  · exact k y hy
theorem Oct.head {x : Nat} {l : List Nat} (h : Oct (x :: l)) : x < 256 := h x (List.mem_cons_self ..)
theorem Oct.tail {x : Nat} {l : List Nat} (h : Oct (x :: l)) : Oct l := fun y hy => h y (List.mem_cons_of_mem _ hy)
theorem Oct.app {a b : List Nat} (h : Oct a) (k : Oct b) : Oct (a ++ b) := by
  intro y hy; rcases List.mem_append.1 hy with hy | hy
  · exact h y hy
  · exact k y hy
theorem Oct.drop {a : List Nat} (h : Oct a) (n : Nat) : Oct (a.drop n) := fun y hy => h y (List.mem_of_mem_drop hy)
theorem Oct.take {a : List Nat} (h : Oct a) (n : Nat) : Oct (a.take n) := fun y hy => h y (List.mem_of_mem_take hy)

theorem add_xor (a b i : Nat) (h : b < 2 ^ i) : 2 ^ i * a + b = 2 ^ i * a ^^^ b := by
  refine Nat.eq_of_testBit_eq fun j => ?_
  rw [Nat.testBit_xor, Nat.testBit_two_pow_mul_add a h, Nat.testBit_two_pow_mul]
  by_cases hj : j < i
  · simp [hj, Nat.not_le.2 hj]
  · have : b.testBit j = false := Nat.testBit_lt_two_pow (Nat.lt_of_lt_of_le h (Nat.pow_le_pow_right (by omega) (by omega)))
    simp [hj, this]; omega
theorem xor_zero_iff {a b : Nat} (h : a ^^^ b = 0) : a = b := by
  refine Nat.eq_of_testBit_eq fun j => ?_
  have := congrArg (fun x => x.testBit j) h
  simp only [Nat.testBit_xor, Nat.zero_testBit] at this
  revert this; cases a.testBit j <;> cases b.testBit j <;> simp
theorem xor_swap (a b c d : Nat) : (a ^^^ b) ^^^ (c ^^^ d) = (a ^^^ c) ^^^ (b ^^^ d) := by
  rw [Nat.xor_assoc, Nat.xor_assoc, ← Nat.xor_assoc b c d, Nat.xor_comm b c, Nat.xor_assoc c b d]
theorem xor_cancel (a b : Nat) : a ^^^ (a ^^^ b) = b := by rw [← Nat.xor_assoc, Nat.xor_self, Nat.zero_xor]
theorem dbl_xor (a b : Nat) : 2 * (a ^^^ b) = (2 * a) ^^^ (2 * b) := by
  have h : ∀ x : Nat, 2 * x = x <<< 1 := fun x => by rw [Nat.shiftLeft_eq]; omega
  rw [h, h, h, Nat.shiftLeft_xor_distrib]

/-- f, n times. -/
def it (f : Nat → Nat) : Nat → Nat → Nat
  | 0, r => r
  | n + 1, r => it f n (f r)
theorem it_add (f : Nat → Nat) (m : Nat) : ∀ n r, it f (m + n) r = it f n (it f m r) := by
  induction m with
  | zero => intro n r; rw [Nat.zero_add]; rfl
  | succ m ih => intro n r; rw [Nat.succ_add]; exact ih n (f r)
theorem it_last (f : Nat → Nat) (n r : Nat) : it f (n + 1) r = f (it f n r) := it_add f n 1 r

/-- A step of a register of w bits that is linear, and loses nothing. -/
structure Reg (f : Nat → Nat) (w : Nat) : Prop where
  lt : ∀ r, r < 2 ^ w → f r < 2 ^ w
  xor : ∀ a b, a < 2 ^ w → b < 2 ^ w → f (a ^^^ b) = f a ^^^ f b
  inj : ∀ r, r < 2 ^ w → f r = 0 → r = 0
theorem Reg.zero {f : Nat → Nat} {w : Nat} (h : Reg f w) : f 0 = 0 := by
  have := h.xor 0 0 (Nat.two_pow_pos w) (Nat.two_pow_pos w)
  rw [Nat.xor_self, Nat.xor_self] at this; exact this
theorem Reg.it {f : Nat → Nat} {w : Nat} (h : Reg f w) : ∀ n, Reg (it f n) w
  | 0 => ⟨fun _ h => h, fun _ _ _ _ => rfl, fun _ _ h => h⟩
  | n + 1 => ⟨fun r hr => (h.it n).lt _ (h.lt r hr),
      fun a b ha hb => by show Ytldegdhpblkhhaa.it f n (f (a ^^^ b)) = _; rw [h.xor a b ha hb, (h.it n).xor _ _ (h.lt a ha) (h.lt b hb)]; rfl,
      fun r hr e => h.inj r hr ((h.it n).inj _ (h.lt r hr) e)⟩
theorem Reg.one {f : Nat → Nat} {w : Nat} (h : Reg f w) {a b : Nat} (ha : a < 2 ^ w) (hb : b < 2 ^ w) (e : f a = f b) : a = b := by
  refine xor_zero_iff (h.inj _ (Nat.xor_lt_two_pow ha hb) ?_)
  rw [h.xor a b ha hb, e, Nat.xor_self]

/-- How bytes come into a register: linear, too. -/
structure Ent (e : Nat → Nat) (w : Nat) : Prop where
  lt : ∀ x, x < 256 → e x < 2 ^ w
  xor : ∀ x y, e (x ^^^ y) = e x ^^^ e y

/-- A register behind some bytes. -/
def reg (f e : Nat → Nat) (r : Nat) (bs : List Nat) : Nat := bs.foldl (fun r x => it f 8 (r ^^^ e x)) r
section
variable {f e : Nat → Nat} {w : Nat} (hf : Reg f w) (he : Ent e w)
theorem reg_cons (r x : Nat) (bs : List Nat) : reg f e r (x :: bs) = reg f e (it f 8 (r ^^^ e x)) bs := rfl
theorem reg_nil (r : Nat) : reg f e r [] = r := rfl
theorem reg_app (r : Nat) (a b : List Nat) : reg f e r (a ++ b) = reg f e (reg f e r a) b := List.foldl_append ..
theorem reg_snoc (r : Nat) (a : List Nat) (x : Nat) : reg f e r (a ++ [x]) = it f 8 (reg f e r a ^^^ e x) := by rw [reg_app]; rfl
include hf he
theorem reg_lt : ∀ (bs : List Nat) (r : Nat), r < 2 ^ w → Oct bs → reg f e r bs < 2 ^ w
  | [], _, hr, _ => hr
  | x :: bs, r, hr, ho => by
    rw [reg_cons]
    exact reg_lt bs _ ((hf.it 8).lt _ (Nat.xor_lt_two_pow hr (he.lt x ho.head))) ho.tail
/-- Texts as long as one another, turned by one another. -/
theorem reg_xor : ∀ (as bs : List Nat) (a b : Nat), as.length = bs.length → a < 2 ^ w → b < 2 ^ w → Oct as → Oct bs →
    reg f e (a ^^^ b) (List.zipWith (· ^^^ ·) as bs) = reg f e a as ^^^ reg f e b bs
  | [], [], _, _, _, _, _, _, _ => rfl
  | [], _ :: _, _, _, h, _, _, _, _ => by simp at h
  | _ :: _, [], _, _, h, _, _, _, _ => by simp at h
  | x :: as, y :: bs, a, b, h, ha, hb, oa, ob => by
    rw [List.zipWith_cons_cons, reg_cons, reg_cons, reg_cons, he.xor, xor_swap,
      (hf.it 8).xor _ _ (Nat.xor_lt_two_pow ha (he.lt x oa.head)) (Nat.xor_lt_two_pow hb (he.lt y ob.head))]
    exact reg_xor as bs _ _ (by simpa using h) ((hf.it 8).lt _ (Nat.xor_lt_two_pow ha (he.lt x oa.head))) ((hf.it 8).lt _ (Nat.xor_lt_two_pow hb (he.lt y ob.head))) oa.tail ob.tail
/-- What is turned in the register ahead of a text. -/
theorem reg_turn : ∀ (bs : List Nat) (a d : Nat), a < 2 ^ w → d < 2 ^ w → Oct bs → reg f e (a ^^^ d) bs = reg f e a bs ^^^ it f (8 * bs.length) d
  | [], _, _, _, _, _ => rfl
  | x :: bs, a, d, ha, hd, ho => by
    have hx := Nat.xor_lt_two_pow ha (he.lt x ho.head)
    rw [reg_cons, reg_cons, show (a ^^^ d) ^^^ e x = (a ^^^ e x) ^^^ d by rw [Nat.xor_assoc, Nat.xor_comm d, ← Nat.xor_assoc], (hf.it 8).xor _ _ hx hd,
      reg_turn bs _ _ ((hf.it 8).lt _ hx) ((hf.it 8).lt _ hd) ho.tail, ← it_add]
    congr 2; simp only [List.length_cons]; omega
/-- A byte turned by m. -/
theorem reg_set : ∀ (bs : List Nat) (j a m : Nat) (hj : j < bs.length), a < 2 ^ w → m < 256 → Oct bs →
    reg f e a (bs.set j (bs[j] ^^^ m)) = reg f e a bs ^^^ it f (8 * (bs.length - j)) (e m)
  | [], j, _, _, hj, _, _, _ => by simp at hj
  | x :: bs, 0, a, m, _, ha, hm, ho => by
    have hx := Nat.xor_lt_two_pow ha (he.lt x ho.head)
    rw [List.set_cons_zero, reg_cons, reg_cons]
    simp only [List.getElem_cons_zero]
    rw [he.xor, ← Nat.xor_assoc, (hf.it 8).xor _ _ hx (he.lt m hm), reg_turn hf he bs _ _ ((hf.it 8).lt _ hx) ((hf.it 8).lt _ (he.lt m hm)) ho.tail, ← it_add]
    congr 2; simp only [List.length_cons]; omega
  | x :: bs, j + 1, a, m, hj, ha, hm, ho => by
    have hx := Nat.xor_lt_two_pow ha (he.lt x ho.head)
    rw [List.set_cons_succ, reg_cons, reg_cons]
    simp only [List.getElem_cons_succ]
    rw [reg_set bs j _ m (by simpa using hj) ((hf.it 8).lt _ hx) hm ho.tail]
    congr 2; simp only [List.length_cons]; omega
end

/-- The register of 24 bits. -/
def st24 (r : Nat) : Nat := if 16777216 ≤ 2 * r then 2 * r ^^^ 25578747 else 2 * r
def e24 (x : Nat) : Nat := 65536 * x
theorem st24_ref (r : Nat) (h : 16777216 ≤ 2 * r) (hr : r < 16777216) : (2 * r - 16777216) ^^^ 8801531 = st24 r := by
  unfold st24
  rw [if_pos h]
  obtain ⟨y, hy⟩ : ∃ y, 2 * r = 16777216 + y := ⟨2 * r - 16777216, by omega⟩
  have e1 : 2 * r = 2 ^ 24 * 1 ^^^ y := by rw [← add_xor 1 _ 24 (by omega)]; omega
  have e2 : (25578747 : Nat) = 2 ^ 24 * 1 ^^^ 8801531 := by decide
  rw [show 2 * r - 16777216 = y by omega, e1, e2, xor_swap, Nat.xor_self, Nat.zero_xor]
theorem st24_lt (r : Nat) (hr : r < 16777216) : st24 r < 16777216 := by
  by_cases h : 16777216 ≤ 2 * r
  · rw [← st24_ref r h hr]
    exact Nat.xor_lt_two_pow (n := 24) (by omega) (by omega)
  · unfold st24; rw [if_neg h]; omega
/-- By its highest bit. -/
theorem st24_bit (r : Nat) (hr : r < 16777216) : st24 r = 2 * r ^^^ (if r.testBit 23 then 25578747 else 0) := by
  have hb : r.testBit 23 = decide (16777216 ≤ 2 * r) := by
    rw [Nat.testBit_eq_decide_div_mod_eq, decide_eq_decide]; omega
  unfold st24
  rw [hb]
  by_cases h : 16777216 ≤ 2 * r <;> simp [h]
theorem reg24 : Reg st24 24 where
  lt r hr := st24_lt r hr
  xor a b ha hb := by
    rw [st24_bit _ (Nat.xor_lt_two_pow (n := 24) ha hb), st24_bit a ha, st24_bit b hb, dbl_xor, Nat.testBit_xor, xor_swap]
    cases a.testBit 23 <;> cases b.testBit 23 <;> simp
  inj r hr e := by
    unfold st24 at e
    split at e
    · have := xor_zero_iff e; omega
    · omega
theorem ent24 : Ent e24 24 where
  lt x hx := by unfold e24; omega
  xor x y := by
    have h : ∀ x : Nat, e24 x = x <<< 16 := fun x => by unfold e24; rw [Nat.shiftLeft_eq]; omega
    rw [h, h, h, Nat.shiftLeft_xor_distrib]
/-- As long as nothing falls out. -/
theorem st24_free : ∀ (n x : Nat), x * 2 ^ n < 16777216 → it st24 n x = x * 2 ^ n
  | 0, x, _ => by simp [it]
  | n + 1, x, h => by
    rw [Nat.pow_succ] at h
    have h1 : 2 * x * 2 ^ n < 16777216 := by rw [show 2 * x * 2 ^ n = x * (2 ^ n * 2) by rw [Nat.mul_comm 2 x, Nat.mul_assoc, Nat.mul_comm 2]]; exact h
    have hx : 2 * x < 16777216 := Nat.lt_of_le_of_lt (Nat.le_mul_of_pos_right _ (Nat.two_pow_pos n)) h1
    show it st24 n (st24 x) = _
    rw [show st24 x = 2 * x by unfold st24; rw [if_neg (by omega)], st24_free n _ h1, Nat.pow_succ, Nat.mul_comm 2 x, Nat.mul_assoc, Nat.mul_comm 2]
/-- The tables, and a half byte at once. -/
def t24 (i : Nat) : Nat := it st24 4 (i * 1048576)
theorem half24 (r : Nat) (hr : r < 16777216) : it st24 4 r = (r * 16 % 16777216) ^^^ t24 (r / 1048576) := by
  have e : r = (r / 1048576 * 1048576) ^^^ (r % 1048576) := by
    rw [Nat.mul_comm, ← add_xor _ _ 20 (by omega)]; omega
  conv => lhs; rw [e]
  rw [(reg24.it 4).xor _ _ (by omega) (by omega), Nat.xor_comm]
  congr 1
  rw [st24_free 4 _ (by omega)]; omega

/-- The register of 32 bits. -/
def st32 (r : Nat) : Nat := if r % 2 = 1 then r / 2 ^^^ 3988292384 else r / 2
theorem st32_lt (r : Nat) (hr : r < 4294967296) : st32 r < 4294967296 := by
  unfold st32
  split
  · exact Nat.xor_lt_two_pow (n := 32) (by omega) (by omega)
  · omega
theorem st32_bit (r : Nat) : st32 r = r / 2 ^^^ (if r.testBit 0 then 3988292384 else 0) := by
  have hb : r.testBit 0 = decide (r % 2 = 1) := by rw [Nat.testBit_zero]
  unfold st32
  rw [hb]
  by_cases h : r % 2 = 1 <;> simp [h]
theorem reg32 : Reg st32 32 where
  lt r hr := st32_lt r hr
  xor a b ha hb := by
    have h2 : (a ^^^ b) / 2 = a / 2 ^^^ b / 2 := Nat.xor_div_two_pow (n := 1)
    rw [st32_bit, st32_bit a, st32_bit b, h2, Nat.testBit_xor, xor_swap]
    cases a.testBit 0 <;> cases b.testBit 0 <;> simp
  inj r hr e := by
    unfold st32 at e
    split at e
    · have := xor_zero_iff e; omega
    · omega
def e32 (x : Nat) : Nat := x
theorem ent32 : Ent e32 32 where
  lt x hx := by unfold e32; omega
  xor x y := rfl
theorem st32_free : ∀ (n x : Nat), it st32 n (x * 2 ^ n) = x
  | 0, x => by simp [it]
  | n + 1, x => by
    show it st32 n (st32 _) = _
    have e : x * 2 ^ (n + 1) = 2 * (x * 2 ^ n) := by rw [Nat.pow_succ, ← Nat.mul_assoc, Nat.mul_comm]
    rw [show st32 (x * 2 ^ (n + 1)) = x * 2 ^ n by rw [e]; unfold st32; rw [if_neg (by omega)]; omega]
    exact st32_free n x
def t32 (i : Nat) : Nat := it st32 4 i
theorem half32 (r : Nat) (hr : r < 4294967296) : it st32 4 r = r / 16 ^^^ t32 (r % 16) := by
  have e : r = (r / 16 * 2 ^ 4) ^^^ (r % 16) := by
    rw [Nat.mul_comm, ← add_xor _ _ 4 (by omega)]; omega
  conv => lhs; rw [e]
  rw [(reg32.it 4).xor _ _ (by omega) (by omega), st32_free 4]; rfl

/-- The sums. -/
def sum24 (bs : List Nat) : Nat := reg st24 e24 11994318 bs
def sum32 (bs : List Nat) : Nat := 4294967295 ^^^ reg st32 e32 4294967295 bs
def tail24 (bs : List Nat) : List Nat := [sum24 bs / 65536 % 256, sum24 bs / 256 % 256, sum24 bs % 256]
def tail32 (bs : List Nat) : List Nat := [sum32 bs % 256, sum32 bs / 256 % 256, sum32 bs / 65536 % 256, sum32 bs / 16777216 % 256]
theorem sum24_lt {bs : List Nat} (h : Oct bs) : sum24 bs < 16777216 := reg_lt reg24 ent24 bs _ (by decide) h
theorem r32_lt {bs : List Nat} (h : Oct bs) : reg st32 e32 4294967295 bs < 4294967296 := reg_lt reg32 ent32 bs _ (by decide) h
theorem sum32_lt {bs : List Nat} (h : Oct bs) : sum32 bs < 4294967296 := Nat.xor_lt_two_pow (n := 32) (by decide) (r32_lt h)
theorem tail24_oct (bs : List Nat) : Oct (tail24 bs) := Oct.cons (by omega) (Oct.cons (by omega) (Oct.cons (by omega) Oct.nil))
theorem tail32_oct (bs : List Nat) : Oct (tail32 bs) := Oct.cons (by omega) (Oct.cons (by omega) (Oct.cons (by omega) (Oct.cons (by omega) Oct.nil)))

/-- Three bytes behind. -/
theorem reg_three (r a b c : Nat) (hr : r < 16777216) (ha : a < 256) (hb : b < 256) (hc : c < 256) : reg st24 e24 r [a, b, c] = it st24 24 (r ^^^ (65536 * a + (256 * b + c))) := by
  have eb : e24 b = it st24 8 (256 * b) := by rw [st24_free 8 _ (by omega)]; unfold e24; omega
  have ec : e24 c = it st24 16 c := by rw [st24_free 16 _ (by omega)]; unfold e24; omega
  have ea : 65536 * a + (256 * b + c) = e24 a ^^^ (256 * b ^^^ c) := by
    rw [← add_xor b c 8 (by omega)]; unfold e24; rw [← add_xor a _ 16 (by omega)]
  have l1 : r ^^^ e24 a < 2 ^ 24 := Nat.xor_lt_two_pow hr (ent24.lt a ha)
  have l2 : (r ^^^ e24 a) ^^^ 256 * b < 2 ^ 24 := Nat.xor_lt_two_pow l1 (by omega)
  have s1 : it st24 8 (r ^^^ e24 a) ^^^ e24 b = it st24 8 ((r ^^^ e24 a) ^^^ 256 * b) := by rw [(reg24.it 8).xor _ _ l1 (by omega), eb]
  have s2 : it st24 8 (it st24 8 ((r ^^^ e24 a) ^^^ 256 * b)) = it st24 16 ((r ^^^ e24 a) ^^^ 256 * b) := (it_add st24 8 8 _).symm
  have s3 : it st24 16 ((r ^^^ e24 a) ^^^ 256 * b) ^^^ e24 c = it st24 16 (((r ^^^ e24 a) ^^^ 256 * b) ^^^ c) := by rw [(reg24.it 16).xor _ _ l2 (by omega), ec]
  have s4 : it st24 8 (it st24 16 (((r ^^^ e24 a) ^^^ 256 * b) ^^^ c)) = it st24 24 (((r ^^^ e24 a) ^^^ 256 * b) ^^^ c) := (it_add st24 16 8 _).symm
  rw [reg_cons, reg_cons, reg_cons, s1, s2, s3, s4, ea, Nat.xor_assoc, Nat.xor_assoc]
  exact reg_nil _
theorem reg_four (r a b c d : Nat) (hr : r < 4294967296) (ha : a < 256) (hb : b < 256) (hc : c < 256) (hd : d < 256) :
    reg st32 e32 r [a, b, c, d] = it st32 32 (r ^^^ (16777216 * d + (65536 * c + (256 * b + a)))) := by
  have eb : e32 b = it st32 8 (256 * b) := by rw [Nat.mul_comm]; exact (st32_free 8 b).symm
  have ec : e32 c = it st32 16 (65536 * c) := by rw [Nat.mul_comm]; exact (st32_free 16 c).symm
  have ed : e32 d = it st32 24 (16777216 * d) := by rw [Nat.mul_comm]; exact (st32_free 24 d).symm
  have ea : 16777216 * d + (65536 * c + (256 * b + a)) = 16777216 * d ^^^ (65536 * c ^^^ (256 * b ^^^ a)) := by
    rw [← add_xor b a 8 (by omega), ← add_xor c _ 16 (by omega), ← add_xor d _ 24 (by omega)]
  have l1 : r ^^^ a < 2 ^ 32 := Nat.xor_lt_two_pow hr (by omega)
  have l2 : (r ^^^ a) ^^^ 256 * b < 2 ^ 32 := Nat.xor_lt_two_pow l1 (by omega)
  have l3 : ((r ^^^ a) ^^^ 256 * b) ^^^ 65536 * c < 2 ^ 32 := Nat.xor_lt_two_pow l2 (by omega)
  show it st32 8 (it st32 8 (it st32 8 (it st32 8 (r ^^^ a) ^^^ e32 b) ^^^ e32 c) ^^^ e32 d) = _
  rw [eb, ← (reg32.it 8).xor _ _ l1 (by omega), ← it_add, ec, ← (reg32.it 16).xor _ _ l2 (by omega), ← it_add, ed, ← (reg32.it 24).xor _ _ l3 (by omega), ← it_add, ea]
  congr 1
  rw [Nat.xor_assoc, Nat.xor_assoc, Nat.xor_assoc]
  congr 1
  rw [← Nat.xor_assoc a, Nat.xor_comm a, Nat.xor_comm _ (65536 * c ^^^ 16777216 * d), Nat.xor_comm (65536 * c), Nat.xor_assoc]
theorem nib3 (r : Nat) (hr : r < 16777216) : 65536 * (r / 65536 % 256) + (256 * (r / 256 % 256) + r % 256) = r := by omega
theorem nib4 (r : Nat) (hr : r < 4294967296) : 16777216 * (r / 16777216 % 256) + (65536 * (r / 65536 % 256) + (256 * (r / 256 % 256) + r % 256)) = r := by omega
/-- What stands behind is the sum just if the register is then as it is to be. -/
theorem whole24 (bs : List Nat) (a b c : Nat) (ho : Oct bs) (ha : a < 256) (hb : b < 256) (hc : c < 256) : tail24 bs = [a, b, c] ↔ sum24 (bs ++ [a, b, c]) = 0 := by
  have hr := sum24_lt ho
  have e : sum24 (bs ++ [a, b, c]) = it st24 24 (sum24 bs ^^^ (65536 * a + (256 * b + c))) := by
    unfold sum24 at hr ⊢; rw [reg_app, reg_three _ a b c hr ha hb hc]
  rw [e]
  constructor
  · intro h
    simp only [tail24, List.cons.injEq, and_true] at h
    obtain ⟨h1, h2, h3⟩ := h
    rw [← h1, ← h2, ← h3, nib3 _ hr, Nat.xor_self, (reg24.it 24).zero]
  · intro h
    have h1 := xor_zero_iff ((reg24.it 24).inj _ (Nat.xor_lt_two_pow (n := 24) hr (by omega)) h)
    unfold tail24
    rw [h1]
    simp only [List.cons.injEq, and_true]
    omega
def k32 : Nat := it st32 32 4294967295
theorem compl32 (r : Nat) (_ : r < 4294967296) : r ^^^ (4294967295 ^^^ r) = 4294967295 := by
  rw [Nat.xor_comm 4294967295, xor_cancel]
theorem whole32 (bs : List Nat) (a b c d : Nat) (ho : Oct bs) (ha : a < 256) (hb : b < 256) (hc : c < 256) (hd : d < 256) : tail32 bs = [a, b, c, d] ↔ reg st32 e32 4294967295 (bs ++ [a, b, c, d]) = k32 := by
  have hr := r32_lt ho
  have hs := sum32_lt ho
  rw [reg_app, reg_four _ a b c d hr ha hb hc hd]
  constructor
  · intro h
    simp only [tail32, List.cons.injEq, and_true] at h
    obtain ⟨h1, h2, h3, h4⟩ := h
    rw [← h1, ← h2, ← h3, ← h4, nib4 _ hs]
    unfold sum32 k32
    rw [compl32 _ hr]
  · intro h
    have h1 := (reg32.it 32).one (Nat.xor_lt_two_pow (n := 32) hr (by omega)) (by decide) h
    have h2 : sum32 bs = 16777216 * d + (65536 * c + (256 * b + a)) := by
      unfold sum32
      generalize reg st32 e32 4294967295 bs = R at h1
      rw [← h1, Nat.xor_comm, xor_cancel]
    unfold tail32
    rw [h2]
    simp only [List.cons.injEq, and_true]
    omega
end Go.Proofs.Ytldegdhpblkhhaa
