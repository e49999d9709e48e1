/-
  Texts Fp, Fa, Fb, Fc, Fq, Fd of this seat, as far as they are used.
-/
import Derived.Test.YtlgedfljmgedfaaGreatP1
import Derived.Test.YtlgedfljmgedfaaGreatProg
import Derived.WalkKit
import Derived.WalkSpells
import Derived.WalkLawsBesides
import Derived.LoopTactic
import Derived.Below
import Derived.Maps.AppendAt
import Derived.OwnWalk
import Derived.Laws.OwnMore
import Derived.Laws.BytesArg
import Derived.Laws.BitsAllLaws
import Derived.Deep.MidRow
import Derived.Lib.AppendZerosOnto
import Derived.LoopN
import Derived.Deep.RegionHeld3
import Derived.Deep.DeepCutAuto
import Derived.Lib.BitFns
namespace Go.Proofs.YtlgedfljmgedfaaGreat.F8

/-- All are bytes. -/
def Oct (l : List Nat) : Prop := ∀ x ∈ l, x < 256
theorem Oct.nil : Oct [] := by intro x h; cases h
theorem Oct.cons {x : Nat} {l : List Nat} (h : x < 256) (k : Oct l) : Oct (x :: l) := by
  intro y hy; rcases List.mem_cons.1 hy with rfl | hy
  · exact h
  · exact k y hy
theorem Oct.head {x : Nat} {l : List Nat} (h : Oct (x :: l)) : x < 256 := h x (List.mem_cons_self ..)
theorem Oct.tail {x : Nat} {l : List Nat} (h : Oct (x :: l)) : Oct l := fun y hy => h y (List.mem_cons_of_mem _ hy)
theorem Oct.drop {a : List Nat} (h : Oct a) (n : Nat) : Oct (a.drop n) := fun y hy => h y (List.mem_of_mem_drop hy)
theorem Oct.take {a : List Nat} (h : Oct a) (n : Nat) : Oct (a.take n) := fun y hy => h y (List.mem_of_mem_take hy)

theorem add_xor (a b i : Nat) (h : b < 2 ^ i) : 2 ^ i * a + b = 2 ^ i * a ^^^ b := by
  refine Nat.eq_of_testBit_eq fun j => ?_
  rw [Nat.testBit_xor, Nat.testBit_two_pow_mul_add a h, Nat.testBit_two_pow_mul]
  by_cases hj : j < i
  · simp [hj, Nat.not_le.2 hj]
  · have : b.testBit j = false := Nat.testBit_lt_two_pow (Nat.lt_of_lt_of_le h (Nat.pow_le_pow_right (by omega) (by omega)))
    simp [hj, this]; omega
theorem xor_zero_iff {a b : Nat} (h : a ^^^ b = 0) : a = b := by
  refine Nat.eq_of_testBit_eq fun j => ?_
  have := congrArg (fun x => x.testBit j) h
  simp only [Nat.testBit_xor, Nat.zero_testBit] at this
  revert this; cases a.testBit j <;> cases b.testBit j <;> simp
theorem xor_swap (a b c d : Nat) : (a ^^^ b) ^^^ (c ^^^ d) = (a ^^^ c) ^^^ (b ^^^ d) := by
  rw [Nat.xor_assoc, Nat.xor_assoc, ← Nat.xor_assoc b c d, Nat.xor_comm b c, Nat.xor_assoc c b d]
theorem xor_cancel (a b : Nat) : a ^^^ (a ^^^ b) = b := by rw [← Nat.xor_assoc, Nat.xor_self, Nat.zero_xor]
theorem dbl_xor (a b : Nat) : 2 * (a ^^^ b) = (2 * a) ^^^ (2 * b) := by
  have h : ∀ x : Nat, 2 * x = x <<< 1 := fun x => by rw [Nat.shiftLeft_eq]; omega
  rw [h, h, h, Nat.shiftLeft_xor_distrib]

/-- f, n times. -/
def it (f : Nat → Nat) : Nat → Nat → Nat
  | 0, r => r
  | n + 1, r => it f n (f r)
theorem it_add (f : Nat → Nat) (m : Nat) : ∀ n r, it f (m + n) r = it f n (it f m r) := by
  induction m with
  | zero => intro n r; rw [Nat.zero_add]; rfl
  | succ m ih => intro n r; rw [Nat.succ_add]; exact ih n (f r)
theorem it_last (f : Nat → Nat) (n r : Nat) : it f (n + 1) r = f (it f n r) := it_add f n 1 r

/-- A step of a register of w bits that is linear, and loses nothing. -/
structure Reg (f : Nat → Nat) (w : Nat) : Prop where
  lt : ∀ r, r < 2 ^ w → f r < 2 ^ w
  xor : ∀ a b, a < 2 ^ w → b < 2 ^ w → f (a ^^^ b) = f a ^^^ f b
  inj : ∀ r, r < 2 ^ w → f r = 0 → r = 0
theorem Reg.zero {f : Nat → Nat} {w : Nat} (h : Reg f w) : f 0 = 0 := by
  have := h.xor 0 0 (Nat.two_pow_pos w) (Nat.two_pow_pos w)
  rw [Nat.xor_self, Nat.xor_self] at this; exact this
theorem Reg.it {f : Nat → Nat} {w : Nat} (h : Reg f w) : ∀ n, Reg (it f n) w
  | 0 => ⟨fun _ h => h, fun _ _ _ _ => rfl, fun _ _ h => h⟩
  | n + 1 => ⟨fun r hr => (h.it n).lt _ (h.lt r hr),
      fun a b ha hb => by show YtlgedfljmgedfaaGreat.F8.it f n (f (a ^^^ b)) = _; rw [h.xor a b ha hb, (h.it n).xor _ _ (h.lt a ha) (h.lt b hb)]; rfl,
      fun r hr e => h.inj r hr ((h.it n).inj _ (h.lt r hr) e)⟩
theorem Reg.one {f : Nat → Nat} {w : Nat} (h : Reg f w) {a b : Nat} (ha : a < 2 ^ w) (hb : b < 2 ^ w) (e : f a = f b) : a = b := by
  refine xor_zero_iff (h.inj _ (Nat.xor_lt_two_pow ha hb) ?_)
  rw [h.xor a b ha hb, e, Nat.xor_self]

/-- How bytes come into a register: linear, too. -/
structure Ent (e : Nat → Nat) (w : Nat) : Prop where
  lt : ∀ x, x < 256 → e x < 2 ^ w
  xor : ∀ x y, e (x ^^^ y) = e x ^^^ e y

/-- A register behind some bytes. -/
def reg (f e : Nat → Nat) (r : Nat) (bs : List Nat) : Nat := bs.foldl (fun r x => it f 8 (r ^^^ e x)) r
section
variable {f e : Nat → Nat} {w : Nat} (hf : Reg f w) (he : Ent e w)
theorem reg_cons (r x : Nat) (bs : List Nat) : reg f e r (x :: bs) = reg f e (it f 8 (r ^^^ e x)) bs := rfl
theorem reg_app (r : Nat) (a b : List Nat) : reg f e r (a ++ b) = reg f e (reg f e r a) b := List.foldl_append ..
theorem reg_snoc (r : Nat) (a : List Nat) (x : Nat) : reg f e r (a ++ [x]) = it f 8 (reg f e r a ^^^ e x) := by rw [reg_app]; rfl
include hf he
theorem reg_lt : ∀ (bs : List Nat) (r : Nat), r < 2 ^ w → Oct bs → reg f e r bs < 2 ^ w
  | [], _, hr, _ => hr
  | x :: bs, r, hr, ho => by
    rw [reg_cons]
    exact reg_lt bs _ ((hf.it 8).lt _ (Nat.xor_lt_two_pow hr (he.lt x ho.head))) ho.tail
end

/-- The register of 24 bits. -/
def st24 (r : Nat) : Nat := if 16777216 ≤ 2 * r then 2 * r ^^^ 25578747 else 2 * r
def e24 (x : Nat) : Nat := 65536 * x
theorem st24_ref (r : Nat) (h : 16777216 ≤ 2 * r) (hr : r < 16777216) : (2 * r - 16777216) ^^^ 8801531 = st24 r := by
  unfold st24
  rw [if_pos h]
  obtain ⟨y, hy⟩ : ∃ y, 2 * r = 16777216 + y := ⟨2 * r - 16777216, by omega⟩
  have e1 : 2 * r = 2 ^ 24 * 1 ^^^ y := by rw [← add_xor 1 _ 24 (by omega)]; omega
  have e2 : (25578747 : Nat) = 2 ^ 24 * 1 ^^^ 8801531 := by decide
  rw [show 2 * r - 16777216 = y by omega, e1, e2, xor_swap, Nat.xor_self, Nat.zero_xor]
theorem st24_lt (r : Nat) (hr : r < 16777216) : st24 r < 16777216 := by
  by_cases h : 16777216 ≤ 2 * r
  · rw [← st24_ref r h hr]
    exact Nat.xor_lt_two_pow (n := 24) (by omega) (by omega)
  · unfold st24; rw [if_neg h]; omega
/-- By its highest bit. -/
theorem st24_bit (r : Nat) (hr : r < 16777216) : st24 r = 2 * r ^^^ (if r.testBit 23 then 25578747 else 0) := by
  have hb : r.testBit 23 = decide (16777216 ≤ 2 * r) := by
    rw [Nat.testBit_eq_decide_div_mod_eq, decide_eq_decide]; omega
  unfold st24
  rw [hb]
  by_cases h : 16777216 ≤ 2 * r <;> simp [h]
theorem reg24 : Reg st24 24 where
  lt r hr := st24_lt r hr
  xor a b ha hb := by
    rw [st24_bit _ (Nat.xor_lt_two_pow (n := 24) ha hb), st24_bit a ha, st24_bit b hb, dbl_xor, Nat.testBit_xor, xor_swap]
    cases a.testBit 23 <;> cases b.testBit 23 <;> simp
  inj r hr e := by
    unfold st24 at e
    split at e
    · have := xor_zero_iff e; omega
    · omega
theorem ent24 : Ent e24 24 where
  lt x hx := by unfold e24; omega
  xor x y := by
    have h : ∀ x : Nat, e24 x = x <<< 16 := fun x => by unfold e24; rw [Nat.shiftLeft_eq]; omega
    rw [h, h, h, Nat.shiftLeft_xor_distrib]
/-- As long as nothing falls out. -/
theorem st24_free : ∀ (n x : Nat), x * 2 ^ n < 16777216 → it st24 n x = x * 2 ^ n
  | 0, x, _ => by simp [it]
  | n + 1, x, h => by
    rw [Nat.pow_succ] at h
    have h1 : 2 * x * 2 ^ n < 16777216 := by rw [show 2 * x * 2 ^ n = x * (2 ^ n * 2) by rw [Nat.mul_comm 2 x, Nat.mul_assoc, Nat.mul_comm 2]]; exact h
    have hx : 2 * x < 16777216 := Nat.lt_of_le_of_lt (Nat.le_mul_of_pos_right _ (Nat.two_pow_pos n)) h1
    show it st24 n (st24 x) = _
    rw [show st24 x = 2 * x by unfold st24; rw [if_neg (by omega)], st24_free n _ h1, Nat.pow_succ, Nat.mul_comm 2 x, Nat.mul_assoc, Nat.mul_comm 2]
/-- The tables, and a half byte at once. -/
def t24 (i : Nat) : Nat := it st24 4 (i * 1048576)
theorem half24 (r : Nat) (hr : r < 16777216) : it st24 4 r = (r * 16 % 16777216) ^^^ t24 (r / 1048576) := by
  have e : r = (r / 1048576 * 1048576) ^^^ (r % 1048576) := by
    rw [Nat.mul_comm, ← add_xor _ _ 20 (by omega)]; omega
  conv => lhs; rw [e]
  rw [(reg24.it 4).xor _ _ (by omega) (by omega), Nat.xor_comm]
  congr 1
  rw [st24_free 4 _ (by omega)]; omega

/-- The register of 32 bits. -/
def st32 (r : Nat) : Nat := if r % 2 = 1 then r / 2 ^^^ 3988292384 else r / 2
theorem st32_lt (r : Nat) (hr : r < 4294967296) : st32 r < 4294967296 := by
  unfold st32
  split
  · exact Nat.xor_lt_two_pow (n := 32) (by omega) (by omega)
  · omega
theorem st32_bit (r : Nat) : st32 r = r / 2 ^^^ (if r.testBit 0 then 3988292384 else 0) := by
  have hb : r.testBit 0 = decide (r % 2 = 1) := by rw [Nat.testBit_zero]
  unfold st32
  rw [hb]
  by_cases h : r % 2 = 1 <;> simp [h]
theorem reg32 : Reg st32 32 where
  lt r hr := st32_lt r hr
  xor a b ha hb := by
    have h2 : (a ^^^ b) / 2 = a / 2 ^^^ b / 2 := Nat.xor_div_two_pow (n := 1)
    rw [st32_bit, st32_bit a, st32_bit b, h2, Nat.testBit_xor, xor_swap]
    cases a.testBit 0 <;> cases b.testBit 0 <;> simp
  inj r hr e := by
    unfold st32 at e
    split at e
    · have := xor_zero_iff e; omega
    · omega
def e32 (x : Nat) : Nat := x
def t32 (i : Nat) : Nat := it st32 4 i
/-- The sums. -/
def sum24 (bs : List Nat) : Nat := reg st24 e24 11994318 bs
def sum32 (bs : List Nat) : Nat := 4294967295 ^^^ reg st32 e32 4294967295 bs
def tail24 (bs : List Nat) : List Nat := [sum24 bs / 65536 % 256, sum24 bs / 256 % 256, sum24 bs % 256]
def tail32 (bs : List Nat) : List Nat := [sum32 bs % 256, sum32 bs / 256 % 256, sum32 bs / 65536 % 256, sum32 bs / 16777216 % 256]
theorem sum24_lt {bs : List Nat} (h : Oct bs) : sum24 bs < 16777216 := reg_lt reg24 ent24 bs _ (by decide) h
theorem tail24_oct (bs : List Nat) : Oct (tail24 bs) := Oct.cons (by omega) (Oct.cons (by omega) (Oct.cons (by omega) Oct.nil))
def k32 : Nat := it st32 32 4294967295
end Go.Proofs.YtlgedfljmgedfaaGreat.F8
namespace Go.Proofs.YtlgedfljmgedfaaGreat.F8

/-- A text with bit q turned; each byte's highest comes first. -/
def turned (bs : List Nat) (q : Nat) : List Nat := bs.set (q / 8) (bs.getD (q / 8) 0 ^^^ 128 / 2 ^ (q % 8))
/-- Where bit k of a burst from 'from' on stands in the register of 32. -/
def p32 (o k : Nat) : Nat := 8 * ((o + k) / 8 - o / 8) + (7 - (o + k) % 8)
/-- What is known of two sealed texts of which some of i bits from o on were turned. -/
def Burst (L o : Nat) (s t : List Nat) (i : Nat) (met : Bool) : Prop :=
  s.length = L ∧ t.length = L + 1 ∧ Oct s ∧ Oct t ∧
  ∃ P Q, P < 16777216 ∧ Q < 4294967296 ∧ sum24 s = it st24 (8 * L - o) P ∧ reg st32 e32 4294967295 t = k32 ^^^ it st32 (8 * (L + 1 - o / 8)) Q ∧
    (∀ k, i ≤ k → k < 24 → P.testBit (23 - k) = false) ∧ (∀ k, i ≤ k → k < 24 → Q.testBit (p32 o k) = false) ∧ met = decide (P ≠ 0) ∧ met = decide (Q ≠ 0)
theorem Burst.start {L o : Nat} {s t : List Nat} (hs : s.length = L) (ht : t.length = L + 1) (os : Oct s) (ot : Oct t) (h1 : sum24 s = 0) (h2 : reg st32 e32 4294967295 t = k32) : Burst L o s t 0 false :=
  ⟨hs, ht, os, ot, 0, 0, by decide, by decide, by rw [h1, (reg24.it _).zero], by rw [h2, (reg32.it _).zero, Nat.xor_zero], fun k _ _ => Nat.zero_testBit _, fun k _ _ => Nat.zero_testBit _, rfl, rfl⟩
theorem Burst.skip {L o : Nat} {s t : List Nat} {i : Nat} {met : Bool} (h : Burst L o s t i met) : Burst L o s t (i + 1) met := by
  obtain ⟨h1, h2, h3, h4, P, Q, h5, h6, h7, h8, h9, h10, h11⟩ := h
  exact ⟨h1, h2, h3, h4, P, Q, h5, h6, h7, h8, fun k hk => h9 k (by omega), fun k hk => h10 k (by omega), h11⟩
theorem Burst.done {L o : Nat} {s t : List Nat} {i : Nat} {met : Bool} (h : Burst L o s t i met) : (sum24 s = 0 ↔ met = false) ∧ (reg st32 e32 4294967295 t = k32 ↔ met = false) := by
  obtain ⟨h1, h2, h3, h4, P, Q, h5, h6, h7, h8, h9, h10, h11, h12⟩ := h
  constructor
  · rw [h7, h11, decide_eq_false_iff_not, Decidable.not_not]
    constructor
    · exact (reg24.it _).inj _ h5
    · intro e; rw [e, (reg24.it _).zero]
  · rw [h8, h12, decide_eq_false_iff_not, Decidable.not_not]
    constructor
    · intro e
      refine (reg32.it (8 * (L + 1 - o / 8))).inj _ h6 ?_
      have := congrArg (fun x => k32 ^^^ x) e
      simp only [xor_cancel, Nat.xor_self] at this
      exact this
    · intro e; rw [e, (reg32.it _).zero, Nat.xor_zero]
end Go.Proofs.YtlgedfljmgedfaaGreat.F8
namespace Go.Proofs.YtlgedfljmgedfaaGreat.F8
open Go Go.RowKit

theorem hid {p : Prop} (h : p) : Hid p := h
theorem ret_bool {a b : Bool} (h : a = b) : Ending.returned (.bool a) = .returned (.bool b) := by rw [h]
theorem ret_int {k : IntKind} {a b : Int} (h : a = b) : Ending.returned (.int k a) = .returned (.int k b) := by rw [h]

/-- The cells of bytes; of unsigned and of signed numbers. -/
def bv (l : List Nat) : List Value := l.map fun x : Nat => .int .u8 (x : Int)
def uv (l : List Nat) : List Value := l.map fun x : Nat => .int .u64 (x : Int)
def sv (l : List Int) : List Value := l.map fun x => .int .i64 x
theorem bv_len (l : List Nat) : (bv l).length = l.length := by simp [bv]
theorem sv_len (l : List Int) : (sv l).length = l.length := by simp [sv]
theorem bv_one (l : List Nat) : ∀ u ∈ bv l, u.oneCell' = true := by
  intro u hu; obtain ⟨x, _, rfl⟩ := List.mem_map.1 hu; rfl

/-- A slice of n elements of one cell each, at A, holds the cells vs, and lies below block B. -/
def Row (w : World) (B : Nat) (A : Option Addr) (n : Nat) (vs : List Value) : Prop :=
  vs.length = n ∧ (0 < n → ∃ b o, A = some ⟨b, o, none⟩ ∧ b < B ∧ ∀ j u, vs[j]? = some u → w.cell? ⟨b, o + j, none⟩ = some u)
/-- A slice that was made by the call itself: from block 'base' on. -/
def Own (w : World) (base : Nat) (e : TypeId) (A : Option Addr) (n c : Nat) (vs : List Value) : Prop := w.ownsRow base e 1 (.slice A n c) n vs

section
variable {w w' : World} {B B' n : Nat} {A : Option Addr} {vs : List Value}
theorem Row.nil (w : World) (B : Nat) (A : Option Addr) : Row w B A 0 [] := ⟨rfl, fun h => absurd h (by omega)⟩
theorem Row.keep (h : Row w B A n vs) (hk : ∀ p : Addr, p.block < B → w'.cell? p = w.cell? p) : Row w' B A n vs :=
  ⟨h.1, fun hn => by
    obtain ⟨b, o, e, hb, hc⟩ := h.2 hn
    exact ⟨b, o, e, hb, fun j u hu => (hk ⟨b, o + j, none⟩ hb).trans (hc j u hu)⟩⟩
theorem Row.below (h : Row w B A n vs) (hb : Below B w w') : Row w' B A n vs := h.keep fun _ hp => hb.cell hp
theorem Row.more (h : Row w B A n vs) (hB : B ≤ B') : Row w B' A n vs :=
  ⟨h.1, fun hn => by
    obtain ⟨b, o, e, hb, hc⟩ := h.2 hn
    exact ⟨b, o, e, by omega, hc⟩⟩
theorem Row.alloc (h : Row w B A n vs) (hB : B ≤ w.heap.size) (o : Obj) : Row (w.alloc o) B A n vs := h.below ((Below.refl _ _).alloc hB o)
theorem Row.at_ (h : Row w B A n vs) {k : Nat} (hk : k < n) : ∃ b o u, A = some ⟨b, o, none⟩ ∧ b < B ∧ vs[k]? = some u ∧ w.cell? ⟨b, o + k, none⟩ = some u := by
  obtain ⟨b, o, e, hb, hc⟩ := h.2 (by omega)
  have hl : k < vs.length := by rw [h.1]; exact hk
  exact ⟨b, o, vs[k], e, hb, List.getElem?_eq_getElem hl, hc k _ (List.getElem?_eq_getElem hl)⟩
theorem plain_add (b o j : Nat) : (⟨b, o, none⟩ : Addr).add j = ⟨b, o + j, none⟩ := by unfold Addr.add; split <;> simp_all
/-- A piece of it. -/
theorem Row.cut (h : Row w B A n vs) {l r c : Nat} (hl : l ≤ r) (hr : r ≤ n) (hc : n ≤ c) :
    Row w B (if c = l then A else A.map (fun x => x.add l)) (r - l) ((vs.take r).drop l) := by
  refine ⟨by rw [List.length_drop, List.length_take, h.1]; omega, fun hp => ?_⟩
  obtain ⟨b, o, rfl, hb, hcell⟩ := h.2 (by omega)
  rw [if_neg (by omega)]
  refine ⟨b, o + l, by simp [plain_add], hb, fun j u hu => ?_⟩
  rw [Nat.add_assoc]
  refine hcell _ u ?_
  rw [List.getElem?_drop, List.getElem?_take] at hu
  split at hu
  · exact hu
  · cases hu
theorem Own.row {base : Nat} {e : TypeId} {c : Nat} (h : Own w base e A n c vs) : Row w w.heap.size A n vs := by
  refine ⟨by simpa using h.1, fun hn => ?_⟩
  rcases h.2 with ⟨_, h0⟩ | ⟨g, cap, cur, hv, hb, hg, _⟩
  · omega
  · have hA : A = some ⟨g, 0, none⟩ := by injection hv
    subst hA
    refine ⟨g, 0, rfl, (Array.getElem?_eq_some_iff.1 hg).1, fun j u hu => ?_⟩
    have := h.cells (g := g) rfl j u hu
    rwa [plain_add] at this
theorem Own.len {base : Nat} {e : TypeId} {c : Nat} (h : Own w base e A n c vs) : vs.length = n := by simpa using h.1
theorem Own.cap {base : Nat} {e : TypeId} {c : Nat} (h : Own w base e A n c vs) : n ≤ c := by
  rcases h.2 with ⟨hv, h0⟩ | ⟨g, cap, cur, hv, hb, hg, hle, _⟩
  · omega
  · have : c = cap := by injection hv
    omega
theorem Own.nil (w : World) (base : Nat) (e : TypeId) : Own w base e none 0 0 [] := World.ownsRow_nil w base e 1
theorem Own.below {base : Nat} {e : TypeId} {c : Nat} (h : Own w base e A n c vs) (hb : Below w.heap.size w w') : Own w' base e A n c vs := by
  refine ⟨h.1, ?_⟩
  rcases h.2 with h0 | ⟨g, cap, cur, hv, hg, hh, r⟩
  · exact .inl h0
  · exact .inr ⟨g, cap, cur, hv, hg, (hb.block g (Array.getElem?_eq_some_iff.1 hh).1).trans hh, r⟩
theorem Own.base_le {base base' : Nat} {e : TypeId} {c : Nat} (h : Own w base e A n c vs) (hb : base' ≤ base) : Own w base' e A n c vs := by
  refine ⟨h.1, ?_⟩
  rcases h.2 with h0 | ⟨g, cap, cur, hv, hg, hh, r⟩
  · exact .inl h0
  · exact .inr ⟨g, cap, cur, hv, by omega, hh, r⟩
theorem Own.alloc {base : Nat} {e : TypeId} {c : Nat} (h : Own w base e A n c vs) (o : Obj) : Own (w.alloc o) base e A n c vs := World.ownsRow.alloc h o
end

section
variable {P : Program} (w : World)
/-- append onto a slice of the call's own: it owns both, and below 'base' nothing has turned. -/
theorem run_app (base : Nat) (t ty e : TypeId) (z : Value) (bytes : Nat) (ht : P.underlying t = some (.slice e)) (hi : (P.info? e).map (fun i => (i.zero, i.size, i.bytes)) = some (some z, 1, bytes)) (hz : z.cells.size = 1)
    (A : Option Addr) (n c : Nat) (vs : List Value) (hown : Own w base e A n c vs) (B : Nat) (A2 : Option Addr) (m c2 : Nat) (news : List Value) (hr : Row w B A2 m news) (h1 : ∀ u ∈ news, u.oneCell' = true)
    (hb : (n + m) * bytes ≤ 140737488355328) (hp : 0 < bytes) (hbase : base ≤ w.heap.size) :
    ∃ A' c' w', (Builtin.append_ #[t, t] ty #[.slice A n c, .slice A2 m c2]).run P w = .ok (.slice A' (n + m) c') w' ∧ Own w' base e A' (n + m) c' (vs ++ news) ∧ Below base w w' := by
  obtain ⟨i, hi0, hi1, hi2, hi3⟩ := info_parts hi
  have hfin : ∀ v' w', w'.ownsRow base e 1 v' (n + m) (vs ++ news) → w.grownBy w' (Value.ownBlock (.slice A n c)) → ∃ A' c', v' = .slice A' (n + m) c' ∧ Own w' base e A' (n + m) c' (vs ++ news) ∧ Below base w w' := by
    intro v' w' h2 h3
    have hbel : Below base w w' := (Below.refl _ _).grown h3 hbase (fun k hk => (World.ownsRow.lt hown k hk).1)
    rcases h2.2 with ⟨rfl, h0⟩ | ⟨g, cap, cur, rfl, r⟩
    · rw [h0] at h2 ⊢; exact ⟨none, 0, rfl, h2, hbel⟩
    · exact ⟨_, _, rfl, h2, hbel⟩
  have hle : n + m ≤ maxLen := by
    have : n + m ≤ (n + m) * bytes := Nat.le_mul_of_pos_right _ hp
    unfold maxLen; omega
  by_cases h0 : 0 < m
  · obtain ⟨b, o, rfl, _, hc⟩ := hr.2 h0
    obtain ⟨v', w', hrun, h2, h3, _, _⟩ := run_append_own_at (P := P) w base t ty e i z 1 bytes ht hi0 hi1 hi2 hi3 hz (by omega) (.slice A n c) n vs hown ⟨b, o, none⟩ m c2 news (by simpa using hr.1) (fun j u hu => by rw [plain_add]; exact hc j u hu) h1 hle hb hbase
    obtain ⟨A', c', rfl, r⟩ := hfin v' w' h2 h3
    exact ⟨A', c', w', hrun, r⟩
  · obtain rfl : m = 0 := by omega
    obtain rfl : news = [] := List.eq_nil_of_length_eq_zero hr.1
    rcases A2 with _ | ⟨b, o, s⟩
    · refine ⟨A, c, w, ?_, by simpa [Own] using hown, Below.refl _ _⟩
      rcases hown.2 with ⟨hv, rfl⟩ | ⟨g, cap, cur, hv, _, _, hnc, _⟩
      · injection hv with h1 h2 h3; subst h1; subst h3
        simp [Builtin.append_, run_underlying ht, sizeOf, typeInfo, hi0, Builtin.lenOf, Builtin.firstCells]
      · injection hv with h1 h2 h3; subst h1; subst h3
        simp [Builtin.append_, run_underlying ht, sizeOf, typeInfo, hi0, Builtin.lenOf, Builtin.firstCells, hnc, storeCells]
    · obtain ⟨v', w', hrun, h2, h3, _, _⟩ := run_append_own_at (P := P) w base t ty e i z 1 bytes ht hi0 hi1 hi2 hi3 hz (by omega) (.slice A n c) n vs hown ⟨b, o, s⟩ 0 c2 [] rfl (fun j u hu => by simp at hu) h1 hle hb hbase
      obtain ⟨A', c', rfl, r⟩ := hfin v' w' h2 h3
      exact ⟨A', c', w', hrun, r⟩

theorem wp_app {o : Oper} {a : Act} {K : Act → World → Prop} {Q : Exit → Act → World → Prop} (s x : Operand) (t : TypeId)
    (ho : o.op = .call { callee := .builtin .append, args := #[s, x], argTypes := #[t, t] })
    (base : Nat) (e : TypeId) (z : Value) (bytes : Nat) (ht : P.underlying t = some (.slice e)) (hi : (P.info? e).map (fun i => (i.zero, i.size, i.bytes)) = some (some z, 1, bytes)) (hz : z.cells.size = 1)
    (A : Option Addr) (n c : Nat) (vs : List Value) (hs : a.eval s = .slice A n c) (hown : Own w base e A n c vs) (B : Nat) (A2 : Option Addr) (m c2 : Nat) (news : List Value) (hx : a.eval x = .slice A2 m c2) (hr : Row w B A2 m news)
    (h1 : ∀ u ∈ news, u.oneCell' = true) (hb : (n + m) * bytes ≤ 140737488355328) (hp : 0 < bytes) (hbase : base ≤ w.heap.size)
    (h : ∀ A' c' w', Own w' base e A' (n + m) c' (vs ++ news) → Below base w w' → K (a.put o.dst (.slice A' (n + m) c')) w') : o.wp P a w K Q := by
  obtain ⟨A', c', w', hrun, h2, h3⟩ := run_app (P := P) w base t o.type e z bytes ht hi hz A n c vs hown B A2 m c2 news hr h1 hb hp hbase
  unfold Oper.wp execOp
  simp only [ho, resolve, invoke, builtin, Sem.run_bind, Sem.run_pure, Result.andThen_ok, List.map_toArray, List.map_cons, List.map_nil, hs, hx, hrun]
  exact h A' c' w' h2 h3
theorem wpList_app {ops : Array Oper} {rest : List Oper} {o : Oper} {a : Act} {Q : Exit → Act → World → Prop} (hgd : o.guard = none) (s x : Operand) (t : TypeId)
    (ho : o.op = .call { callee := .builtin .append, args := #[s, x], argTypes := #[t, t] })
    (base : Nat) (e : TypeId) (z : Value) (bytes : Nat) (ht : P.underlying t = some (.slice e)) (hi : (P.info? e).map (fun i => (i.zero, i.size, i.bytes)) = some (some z, 1, bytes)) (hz : z.cells.size = 1)
    (A : Option Addr) (n c : Nat) (vs : List Value) (hs : a.eval s = .slice A n c) (hown : Own w base e A n c vs) (B : Nat) (A2 : Option Addr) (m c2 : Nat) (news : List Value) (hx : a.eval x = .slice A2 m c2) (hr : Row w B A2 m news)
    (h1 : ∀ u ∈ news, u.oneCell' = true) (hb : (n + m) * bytes ≤ 140737488355328) (hp : 0 < bytes) (hbase : base ≤ w.heap.size)
    (h : ∀ A' c' w', Own w' base e A' (n + m) c' (vs ++ news) → Below base w w' → wpList P ops Q rest (a.put o.dst (.slice A' (n + m) c')) w') : wpList P ops Q (o :: rest) a w :=
  wpList_plain hgd fun _ hK => wp_app w s x t ho base e z bytes ht hi hz A n c vs hs hown B A2 m c2 news hx hr h1 hb hp hbase fun A' c' w' h2 h3 => hK _ _ (h A' c' w' h2 h3)
end

/-- string(b) of a row of bytes. -/
def str (l : List Nat) : ByteArray := ⟨(l.map UInt8.ofNat).toArray⟩
theorem run_str {P : Program} (w : World) (src e : TypeId) (hs : P.underlying src = some (.slice e)) (he : P.underlying e = some (.int .u8)) (B : Nat) (A : Option Addr) (n c : Nat) (l : List Nat) (hr : Row w B A n (bv l))
    (dst : TypeId) (hd : P.underlying dst = some .string) : (convert src dst (.slice A n c)).run P w = .ok (.string (str l)) w := by
  have hl : l.length = n := by rw [← bv_len, hr.1]
  by_cases h0 : 0 < n
  · obtain ⟨b, o, rfl, _, hc⟩ := hr.2 h0
    have := run_convert_bytes_arg (P := P) w src e hs he b o n c (l.map fun x : Nat => (x : Int)) (by simpa using hl) (fun i hi => hc i _ (by simp [bv, List.getElem?_eq_getElem (show i < l.length by omega), List.getD])) dst hd
    rw [this]
    simp [strOfNums, str]
  · obtain rfl : n = 0 := by omega
    obtain rfl : l = [] := List.eq_nil_of_length_eq_zero hl
    rcases A with _ | ⟨b, o, s⟩
    · rw [run_convert_bytes_nil w src e hs he 0 c dst hd]; rfl
    · rw [run_convert_bytes_string w src dst e _ 0 c hs he hd]
      rw [run_bytesToString w _ 0 c [] (by simp [loadCells, loadCellsFrom])]
      rfl
theorem str_list (l : List Nat) : (str l).toList = l.map UInt8.ofNat := by rw [ByteArray.toList_eq]; rfl
theorem ofNat_inj {a b : Nat} (ha : a < 256) (hb : b < 256) (h : UInt8.ofNat a = UInt8.ofNat b) : a = b := by
  have := congrArg UInt8.toNat h
  simpa [UInt8.toNat_ofNat', Nat.mod_eq_of_lt ha, Nat.mod_eq_of_lt hb] using this
theorem str_eq {a b : List Nat} (ha : Oct a) (hb : Oct b) : ((str a).toList == (str b).toList) = decide (a = b) := by
  rw [str_list, str_list, Bool.eq_iff_iff, beq_iff_eq, decide_eq_true_eq]
  constructor
  · intro h
    induction a generalizing b with
    | nil => cases b with | nil => rfl | cons y b => simp at h
    | cons x a ih =>
      cases b with
      | nil => simp at h
      | cons y b =>
        simp only [List.map_cons, List.cons.injEq] at h
        rw [ofNat_inj (ha x (List.mem_cons_self ..)) (hb y (List.mem_cons_self ..)) h.1, ih (fun z hz => ha z (List.mem_cons_of_mem _ hz)) (fun z hz => hb z (List.mem_cons_of_mem _ hz)) h.2]
  · rintro rfl; rfl
theorem Row.take {w : World} {B n : Nat} {A : Option Addr} {vs : List Value} (h : Row w B A n vs) {k : Nat} (hk : k ≤ n) : Row w B A k (vs.take k) := by
  refine ⟨by rw [List.length_take, h.1]; omega, fun hp => ?_⟩
  obtain ⟨b, o, rfl, hb, hc⟩ := h.2 (by omega)
  refine ⟨b, o, rfl, hb, fun j u hu => hc j u ?_⟩
  rw [List.getElem?_take] at hu
  split at hu
  · exact hu
  · cases hu
theorem bv_take (l : List Nat) (k : Nat) : (bv l).take k = bv (l.take k) := by simp [bv, List.map_take]
theorem bv_drop (l : List Nat) (k : Nat) : (bv l).drop k = bv (l.drop k) := by simp [bv, List.map_drop]

theorem info5 : (Tryz.prog.info? 5).map (fun i => (i.zero, i.size, i.bytes)) = some (some (.int .u8 0), 1, 1) := by kernel_rfl
end Go.Proofs.YtlgedfljmgedfaaGreat.F8
namespace Go.Proofs.YtlgedfljmgedfaaGreat.F8
open Go Go.RowKit

theorem xor32 {a b c : Nat} {x y : Int} (hx : x = a) (hy : y = b) (ha : a < 4294967296) (hb : b < 4294967296) (hc : c = a ^^^ b) : bits .xor .u32 x y = (c : Int) := by
  subst hx hy hc; exact u32_xor_nat a b ha hb

/-- A function of a number of 32 bits that only reckons. -/
def Reckons (f : Nat) (g : Nat → Nat) (M : Nat) : Prop := ∀ (r : Nat) (w : World), r < M → Calls Tryz.prog f #[.int .u32 (r : Int)] w fun e w' => e = .returned (.int .u32 (g r : Int)) ∧ w = w'

theorem put24_any : Reckons 183 (fun i => i * 1048576) 16 := by
  intro i w hi
  go_enter Tryz.func183, Tryz.ntmps183
  go_wp2
  go_ret
  exact ⟨ret_int (by omega), rfl⟩
theorem step24_any : Reckons 184 st24 16777216 := by
  intro r w hr
  have H1 : Hid (16777216 ≤ 2 * r → st24 r = 2 * r ^^^ 25578747) := hid (fun h => by unfold st24; rw [if_pos h])
  have H2 : Hid (¬ 16777216 ≤ 2 * r → st24 r = 2 * r) := hid (fun h => by unfold st24; rw [if_neg h])
  go_enter Tryz.func184, Tryz.ntmps184
  go_wp2
  · go_ret
    have h : 16777215 < (r : Int) * 2 := by assumption
    exact ⟨ret_int (xor32 (a := 2 * r) (b := 25578747) (by omega) (by omega) (by omega) (by omega) (H1.out (by omega))), rfl⟩
  · go_ret
    have h : (r : Int) * 2 ≤ 16777215 := by assumption
    exact ⟨ret_int (by rw [H2.out (by omega)]; omega), rfl⟩
/-- What a table has. -/
def tab (f p : Nat → Nat) (i : Nat) : Value := .int .u32 ((it f 4 (p i) : Nat) : Int)
def agg16 (v : Nat → Value) : Array Value := #[v 0, v 1, v 2, v 3, v 4, v 5, v 6, v 7, v 8, v 9, v 10, v 11, v 12, v 13, v 14, v 15]
theorem agg16_of (v : Nat → Value) (c : Array Value) (hc : c.size = 16) (h : ∀ j, j < 16 → c[j]? = some (v j)) : c = agg16 v := by
  refine Array.ext (by rw [hc]; rfl) fun i h1 h2 => ?_
  have := h i (by omega)
  rw [Array.getElem?_eq_getElem h1] at this
  rw [Option.some.inj this]
  have hi : i < 16 := by omega
  clear this h1
  rcases i with _ | _ | _ | _ | _ | _ | _ | _ | _ | _ | _ | _ | _ | _ | _ | _ | i <;> first | rfl | omega

def zeros16 : Array Value := agg16 fun _ => .int .u32 0
theorem heap_alloc_new' (w : World) (o : Obj) {g : Nat} (h : g = w.heap.size) : (w.alloc o).heap[g]? = some o := by subst h; exact heap_alloc_new w o
theorem rangeAt_block {w : World} {g : Nat} {t : TypeId} {c : Array Value} (h : w.heap[g]? = some (.cells c t)) : w.rangeAt g 0 c.toList := by
  intro j v hv
  rw [cell_of_row w g (0 + j) c t (0, 0) h]
  simpa using hv
theorem there_block {w : World} {g : Nat} {t : TypeId} {c : Array Value} (h : w.heap[g]? = some (.cells c t)) (n : Nat) (hn : n ≤ c.size) : w.there g 0 n := by
  intro j hj
  rw [cell_of_row w g (0 + j) c t (0, 0) h]
  exact ⟨by rw [Array.getElem?_eq_getElem (by omega)]; rfl, by simp [World.frozen?, h]⟩
theorem Below.setCells {B b : Nat} {a : World} : ∀ (vs : List Value) (o : Nat) {w : World}, Below B a w → B ≤ b → Below B a (w.setCells b o vs)
  | [], _, _, h, _ => h
  | v :: vs, o, _, h, hb => Below.setCells vs (o + 1) (h.setCell (p := ⟨b, o, none⟩) hb v) hb
theorem agg16_one (v : Nat → Value) (h : ∀ j, (v j).oneCell' = true) : (agg16 v).all (·.oneCell') = true := by
  simp [agg16, h]
theorem results_cell_one {fn : Func} {p : Tmp} {ty : TypeId} (h : fn.results = #[.cell p ty]) (tmps : Array Value) (P : Program) (w : World) :
    (results fn tmps).run P w = ((asAddr (tmps.getD p undef)).run P w).andThen fun a w₁ => (loadVar ty a).run P w₁ := by
  simp only [results, h]
  simp [Sem.run_bind, Result.andThen]
theorem size37 : (Tryz.prog.info? 180).map (·.size) = some 16 := by kernel_rfl
def TabRel (w : World) (f p : Nat → Nat) (i : Value) (wr : World) : Prop :=
  ∃ (k : Nat) (c : Array Value), k ≤ 16 ∧ i = .int .i64 (k : Int) ∧ wr = w.alloc (.cells c 180) ∧ c.size = 16 ∧ ∀ j, j < k → c[j]? = some (tab f p j)
def StepRel (f : Nat → Nat) (r0 : Nat) (r i : Value) : Prop := ∃ k : Nat, k ≤ 4 ∧ i = .int .i64 (k : Int) ∧ r = .int .u32 ((it f k r0 : Nat) : Int)
theorem it_M {f : Nat → Nat} {M : Nat} (h : ∀ r, r < M → f r < M) : ∀ n r, r < M → it f n r < M
  | 0, _, hr => hr
  | n + 1, r, hr => it_M h n (f r) (h r hr)
theorem tab_set {f p : Nat → Nat} {k : Nat} {c : Array Value} {v : Value} (hc : c.size = 16) (hk : k < 16) (h : ∀ j, j < k → c[j]? = some (tab f p j)) (hv : v = tab f p k) : (c.setIfInBounds k v).size = 16 ∧ ∀ j, j < k + 1 → (c.setIfInBounds k v)[j]? = some (tab f p j) := by
  refine ⟨by simp [hc], fun j hj => ?_⟩
  rw [Array.getElem?_setIfInBounds]
  split
  · rename_i e; subst e; rw [if_pos (by omega), hv]
  · exact h j (by omega)

set_option maxRecDepth 100000 in
set_option maxHeartbeats 1000000 in
theorem tableOf_24 (w : World) : Calls Tryz.prog 182 #[.func (.func 183) #[] #[], .func (.func 184) #[] #[]] w fun e w' => e = .returned (.agg (agg16 (tab st24 (fun i => i * 1048576)))) ∧ Below w.heap.size w w' := by
  obtain ⟨p, hp⟩ : ∃ p : Nat → Nat, p = (fun i => i * 1048576) := ⟨_, rfl⟩
  have HP : Hid (Reckons 183 p 16) := hid (by rw [hp]; exact put24_any)
  have HPM : Hid (∀ i, i < 16 → p i < 16777216) := hid (by rw [hp]; intro i hi; dsimp only; omega)
  have HIT : Hid (∀ n r, r < 16777216 → it st24 n r < 16777216) := hid (it_M (M := 16777216) st24_lt)
  rw [← hp]
  clear hp
  go_enter Tryz.func182, Tryz.ntmps182
  go_wp2
  obtain ⟨W, hW⟩ : ∃ W, W = w.alloc (Obj.cells zeros16 180) := ⟨_, rfl⟩
  have hsz : W.heap.size = w.heap.size + 1 := by rw [hW]; simp
  have HW := hid hW
  simp only [zeros16, agg16] at hW
  rw [← hW, ← hsz]
  clear hW
  go_loopw [8] (TabRel W st24 p) (fun i _ => 16 - (intOf i).toNat)
  case atStart => exact ⟨0, _, by omega, rfl, rfl, rfl, fun j hj => absurd hj (by omega)⟩
  case round =>
    obtain ⟨k, c, hk, rfl, rfl, hc, hcs⟩ := hrel
    have HCS := hid hcs
    have HC := hid hc
    clear hcs
    by_cases hlt : k < 16
    · go_wp2_with (go_at_call 183; refine (HP.out k _ hlt).mono ?_; rintro e w' ⟨rfl, rfl⟩)
      have hb0 : p k < 16777216 := HPM.out k hlt
      go_loop [7, 15] (StepRel st24 (p k)) (fun _ i => 4 - (intOf i).toNat)
      case atStart => exact ⟨0, by omega, rfl, rfl⟩
      case round =>
        obtain ⟨m, hm, rfl, rfl⟩ := hrel
        obtain ⟨x, hx⟩ : ∃ x, x = it st24 m (p k) := ⟨_, rfl⟩
        have hxM : x < 16777216 := by rw [hx]; exact HIT.out m _ hb0
        have HX := hid hx
        rw [← hx]
        clear hx
        by_cases hm4 : m < 4
        · go_wp2_with (go_at_call 184; refine (step24_any x _ hxM).mono ?_; rintro e w' ⟨rfl, rfl⟩)
          go_round
          case rel => exact ⟨m + 1, by omega, by go_num, by rw [it_last, ← HX.out]⟩
          case measure => simp [intOf]; omega
        · obtain rfl : m = 4 := by omega
          go_wp2_with fail
          obtain ⟨h1, h2⟩ := tab_set (v := .int .u32 (x : Int)) HC.out hlt HCS.out (by rw [HX.out]; rfl)
          refine ⟨⟨_, _, _, ⟨k + 1, _, by omega, rfl, rfl, h1, h2⟩, rfl, rfl, by simp⟩, by simp [intOf]; omega⟩
    · obtain rfl : k = 16 := by omega
      obtain rfl := agg16_of _ c HC.out HCS.out
      have hW := HW.out
      subst hW
      have h1 : Hid ((agg16 (tab st24 p)).all (·.oneCell') = true) := hid (agg16_one _ fun j => rfl)
      have hs : Hid ((agg16 (tab st24 p)).size = 16) := hid rfl
      clear HC HCS HP HPM HIT hc HW
      generalize hcE : agg16 (tab st24 p) = c at *
      have HCE := hid hcE
      clear hcE
      have HR : Hid (((w.alloc (Obj.cells zeros16 180)).alloc (.cells c 180)).rangeAt (w.heap.size + 1) 0 c.toList) := hid (rangeAt_block (heap_alloc_new' _ _ (by simp)))
      have HT : Hid (((w.alloc (Obj.cells zeros16 180)).alloc (.cells c 180)).there w.heap.size 0 c.size) := hid (by
        rw [hs.out]; exact there_block (c := zeros16) (t := 180) (by rw [Below.heap_alloc _ _ _ (by simp)]; exact heap_alloc_new w _) 16 (by decide))
      have HB : Hid (Below w.heap.size w ((w.alloc (Obj.cells zeros16 180)).alloc (.cells c 180))) := hid (((Below.refl _ w).alloc (Nat.le_refl _) _).alloc (by simp) _)
      rw [hsz]
      clear hsz
      generalize (w.alloc (Obj.cells zeros16 180)).alloc (.cells c 180) = W2 at *
      go_wp2_with (first
        | (refine wpList_load_mid rfl 180 (.tmp 5) rfl (w.heap.size + 1) 0 rfl c.toList _ HR.out Tryz.underlying180 rfl (by rw [size37, Array.length_toList, hs.out]) ?_)
        | (refine wpList_store_mid rfl 180 (.tmp 4) (.tmp 25) rfl w.heap.size 0 c rfl rfl HT.out (by rw [size37, hs.out]) h1.out ?_))
      have hld := run_loadVar_mid (P := Tryz.prog) (W2.setCells w.heap.size 0 c.toList) w.heap.size 0 180 c.toList _ (World.rangeAt_setCells_same W2 w.heap.size 0 c.toList (by rw [Array.length_toList]; exact HT.out)) Tryz.underlying180 rfl (by rw [size37, Array.length_toList, hs.out])
      refine bodyPost_ret (v := .agg c) (by rw [results_cell_one Tryz.results182]; exact hld) rfl ⟨by rw [HCE.out], Below.setCells c.toList 0 HB.out (Nat.le_refl _)⟩

set_option maxRecDepth 100000 in
set_option maxHeartbeats 400000 in
theorem table24_any (w : World) : Calls Tryz.prog 171 #[] w fun e w' => e = .returned (.agg (agg16 (tab st24 (fun i => i * 1048576)))) ∧ Below w.heap.size w w' := by
  go_enter Tryz.func171, Tryz.ntmps171
  go_wp2_with fail
  obtain ⟨W, hW⟩ : ∃ W, W = w.alloc (Obj.cells zeros16 180) := ⟨_, rfl⟩
  have hsz : W.heap.size = w.heap.size + 1 := by rw [hW]; simp
  have HB0 : Hid (Below w.heap.size w W) := hid (by rw [hW]; exact (Below.refl _ w).alloc (Nat.le_refl _) _)
  have HT0 : Hid (W.heap[w.heap.size]? = some (.cells zeros16 180)) := hid (by rw [hW]; exact heap_alloc_new w _)
  simp only [zeros16, agg16] at hW
  rw [← hW]
  clear hW
  refine (tableOf_24 W).mono ?_
  rintro e w1 ⟨rfl, bel⟩
  have h1 : Hid ((agg16 (tab st24 (fun i => i * 1048576))).all (·.oneCell') = true) := hid (agg16_one _ fun j => rfl)
  have hs : Hid ((agg16 (tab st24 (fun i => i * 1048576))).size = 16) := hid rfl
  have HB : Hid (Below w.heap.size w w1) := hid (HB0.out.trans (bel.mono (by omega)))
  have HT : Hid (w1.there w.heap.size 0 16) := hid (there_block (c := zeros16) (t := 180) (by rw [bel.block _ (by omega)]; exact HT0.out) 16 (by decide))
  clear bel HB0 HT0
  generalize hcE : agg16 (tab st24 (fun i => i * 1048576)) = c at *
  have HCE := hid hcE
  clear hcE
  go_wp2_with (refine wpList_store_mid rfl 180 (.tmp 0) (.tmp 1) rfl w.heap.size 0 c rfl rfl (by rw [hs.out]; exact HT.out) (by rw [size37, hs.out]) h1.out ?_)
  have hld := run_loadVar_mid (P := Tryz.prog) (w1.setCells w.heap.size 0 c.toList) w.heap.size 0 180 c.toList _ (World.rangeAt_setCells_same w1 w.heap.size 0 c.toList (by rw [Array.length_toList, hs.out]; exact HT.out)) Tryz.underlying180 rfl (by rw [size37, Array.length_toList, hs.out])
  refine bodyPost_ret (v := .agg c) (by rw [results_cell_one Tryz.results171]; exact hld) rfl ⟨by rw [HCE.out], Below.setCells c.toList 0 HB.out (Nat.le_refl _)⟩
end Go.Proofs.YtlgedfljmgedfaaGreat.F8
namespace Go.Proofs.YtlgedfljmgedfaaGreat.F8
open Go Go.RowKit

/-- A byte of a row. -/
theorem Row.byte {w : World} {B n : Nat} {A : Option Addr} {bs : List Nat} (h : Row w B A n (bv bs)) {k : Nat} (hk : k < n) : ∃ b o x, A = some ⟨b, o, none⟩ ∧ b < B ∧ bs[k]? = some x ∧ w.cell? ⟨b, o + k, none⟩ = some (.int .u8 (x : Int)) := by
  obtain ⟨b, o, u, rfl, hb, hu, hc⟩ := h.at_ hk
  have hl : k < bs.length := by rw [← bv_len, h.1]; exact hk
  refine ⟨b, o, bs[k], rfl, hb, List.getElem?_eq_getElem hl, ?_⟩
  rw [hc, ← hu]
  simp [bv, List.getElem?_eq_getElem hl]
theorem take_next {bs : List Nat} {k x : Nat} (h : bs[k]? = some x) : bs.take (k + 1) = bs.take k ++ [x] := by
  obtain ⟨hl, rfl⟩ := List.getElem?_eq_some_iff.1 h
  exact List.take_succ_eq_append_getElem hl

def SumRel (f e : Nat → Nat) (r0 : Nat) (bs : List Nat) (r i : Value) : Prop := ∃ k : Nat, k ≤ bs.length ∧ i = .int .i64 (k : Int) ∧ r = .int .u32 ((reg f e r0 (bs.take k) : Nat) : Int)
def ItRel (f : Nat → Nat) (n r0 : Nat) (r i : Value) : Prop := ∃ k : Nat, k ≤ n ∧ i = .int .i64 (k : Int) ∧ r = .int .u32 ((it f k r0 : Nat) : Int)
def HalfRel (f : Nat → Nat) (r0 : Nat) (r i : Value) : Prop := ∃ k : Nat, k ≤ 2 ∧ i = .int .i64 (k : Int) ∧ r = .int .u32 ((it f (4 * k) r0 : Nat) : Int)

set_option maxHeartbeats 1000000 in
set_option maxHeartbeats 1000000 in
theorem sum24_any (A : Option Addr) (n c B : Nat) (bs : List Nat) (w : World) (ha : Row w B A n (bv bs)) (hB : B ≤ w.heap.size) (ho : Oct bs) (hn : n ≤ 4611686018427387904) :
    Calls Tryz.prog 147 #[.slice A n c] w fun e w' => e = .returned (.int .u32 ((sum24 bs : Nat) : Int)) ∧ Below w.heap.size w w' := by
  have HA := hid ha
  have HO := hid ho
  have hnl : n = bs.length := by rw [← bv_len, ha.1]
  have HN := hid hnl
  have HT : Hid (∀ k, reg st24 e24 11994318 (bs.take k) < 16777216) := hid (fun k => reg_lt reg24 ent24 _ _ (by decide) (ho.take k))
  have HU : Hid (sum24 bs = id (reg st24 e24 11994318 (bs.take n))) := hid (by rw [hnl, List.take_of_length_le (Nat.le_refl _)]; rfl)
  clear ha ho hnl
  go_enter Tryz.func147, Tryz.ntmps147
  go_wp2_with fail
  refine (table24_any w).mono ?_
  rintro e w1 ⟨rfl, bel⟩
  have h1 : Hid ((agg16 (tab st24 (fun i => i * 1048576))).all (·.oneCell') = true) := hid (agg16_one _ fun j => rfl)
  have hs : Hid ((agg16 (tab st24 (fun i => i * 1048576))).size = 16) := hid rfl
  have hcs : Hid (∀ j, j < 16 → (agg16 (tab st24 (fun i => i * 1048576)))[j]? = some (.int .u32 ((t24 j : Nat) : Int))) := hid (fun j hj => by
    rcases j with _ | _ | _ | _ | _ | _ | _ | _ | _ | _ | _ | _ | _ | _ | _ | _ | j <;> first | rfl | omega)
  generalize agg16 (tab st24 (fun i => i * 1048576)) = tb at *
  have HT1 : Hid ((w1.alloc (.cells zeros16 180)).there w1.heap.size 0 16) := hid (there_block (c := zeros16) (t := 180) (heap_alloc_new w1 _) 16 (by decide))
  have HB : Hid (Below w.heap.size w (w1.alloc (.cells zeros16 180))) := hid (bel.alloc bel.size _)
  go_wp2_with (
    (refine wpList_store_mid rfl 180 (.tmp 3) (.tmp 7) rfl w1.heap.size 0 tb rfl rfl (by rw [hs.out]; exact HT1.out) (by rw [size37, hs.out]) h1.out ?_))
  have hWd : ((w1.alloc (Obj.cells zeros16 180)).setCells w1.heap.size 0 tb.toList) = ((w1.alloc (Obj.cells zeros16 180)).setCells w1.heap.size 0 tb.toList) := rfl
  conv at hWd => lhs; simp only [zeros16, agg16]
  rw [hWd]
  clear hWd
  have HB2 : Hid (Below w.heap.size w ((w1.alloc (Obj.cells zeros16 180)).setCells w1.heap.size 0 tb.toList)) := hid (Below.setCells tb.toList 0 HB.out bel.size)
  have HC : Hid (∀ j, j < 16 → ((w1.alloc (Obj.cells zeros16 180)).setCells w1.heap.size 0 tb.toList).cell? ⟨w1.heap.size, j, none⟩ = some (.int .u32 ((t24 j : Nat) : Int))) := hid (fun j hj => by
    have := World.rangeAt_setCells_same (w1.alloc (Obj.cells zeros16 180)) w1.heap.size 0 tb.toList (by rw [Array.length_toList, hs.out]; exact HT1.out) j (.int .u32 ((t24 j : Nat) : Int)) (by rw [Array.getElem?_toList]; exact hcs.out j hj)
    rwa [Nat.zero_add] at this)
  have HR2 : Hid (Row ((w1.alloc (Obj.cells zeros16 180)).setCells w1.heap.size 0 tb.toList) B A n (bv bs)) := hid (HA.out.below (HB2.out.mono hB))
  clear HA HB HT1 h1 hs hcs bel
  generalize (w1.alloc (Obj.cells zeros16 180)).setCells w1.heap.size 0 tb.toList = W at *
  generalize w1.heap.size = g at *
  have HA := HR2
  clear HR2
  go_loop [4, 10] (SumRel st24 e24 11994318 bs) (fun _ i => n - (intOf i).toNat)
  case atStart => exact ⟨0, Nat.zero_le _, rfl, rfl⟩
  case round =>
    obtain ⟨k, hk, rfl, rfl⟩ := hrel
    have hkn : k ≤ n := by rw [HN.out]; exact hk
    obtain ⟨r, hr⟩ : ∃ r, r = reg st24 e24 11994318 (bs.take k) := ⟨_, rfl⟩
    have hrM : r < 16777216 := by rw [hr]; exact HT.out k
    have HR := hid hr
    rw [← hr]
    clear hr hk
    by_cases hlt : k < n
    · obtain ⟨b, o, x, rfl, hb, hx, hcell⟩ := HA.out.byte hlt
      have hx8 : x < 256 := HO.out x (List.mem_of_getElem? hx)
      have hxor : bits .xor .u32 (r : Int) ((x : Int) * 65536) = ((r ^^^ e24 x : Nat) : Int) := xor32 rfl (by unfold e24; omega) (by omega) (by unfold e24; omega) rfl
      have hr2M : r ^^^ e24 x < 16777216 := Nat.xor_lt_two_pow (n := 24) hrM (ent24.lt x hx8)
      have HR2 : Hid (reg st24 e24 11994318 (bs.take (k + 1)) = it st24 8 (r ^^^ e24 x)) := hid (by rw [take_next hx, reg_snoc, ← HR.out])
      clear hx
      generalize r ^^^ e24 x = r2 at *
      go_wp2
      go_loop [4, 19] (HalfRel st24 r2) (fun _ i => 2 - (intOf i).toNat)
      case atStart => exact ⟨0, by omega, rfl, rfl⟩
      case round =>
        obtain ⟨m, hm, rfl, rfl⟩ := hrel
        obtain ⟨y, hy⟩ : ∃ y, y = it st24 (4 * m) r2 := ⟨_, rfl⟩
        have hyM : y < 16777216 := by rw [hy]; exact it_M (M := 16777216) st24_lt _ r2 hr2M
        have HY := hid hy
        rw [← hy]
        clear hy hxor hr2M hrM hcell
        by_cases hm8 : m < 2
        · have HN2 : Hid (it st24 (4 * (m + 1)) r2 = it st24 4 y) := hid (by rw [show 4 * (m + 1) = 4 * m + 4 by omega, it_add, ← HY.out])
          have hand : bits .and .u32 ((y : Int) * 16 % 4294967296) 16777215 = ((y * 16 % 16777216 : Nat) : Int) := by
            rw [show (y : Int) * 16 % 4294967296 = ((y * 16 : Nat) : Int) by omega]
            exact (u32_and_nat (y * 16) 16777215 (by omega) (by omega)).trans (by rw [show (16777215 : Nat) = 2 ^ 24 - 1 by decide, Nat.and_two_pow_sub_one_eq_mod])
          have hand2 : bits .and .u32 ((y : Int) * 16) 16777215 = ((y * 16 % 16777216 : Nat) : Int) := by
            rw [show (y : Int) * 16 = ((y * 16 : Nat) : Int) by omega]
            exact (u32_and_nat (y * 16) 16777215 (by omega) (by omega)).trans (by rw [show (16777215 : Nat) = 2 ^ 24 - 1 by decide, Nat.and_two_pow_sub_one_eq_mod])
          have hqi : (y : Int) / 1048576 = ((y / 1048576 : Nat) : Int) := by omega
          have hq16 : y / 1048576 < 16 := by omega
          have htl : t24 (y / 1048576) < 16777216 := (reg24.it 4).lt _ (by omega)
          have hx4 : bits .xor .u32 ((y * 16 % 16777216 : Nat) : Int) ((t24 (y / 1048576) : Nat) : Int) = ((it st24 4 y : Nat) : Int) := xor32 rfl rfl (by omega) (by omega) (half24 y hyM)
          have hc4 := HC.out _ hq16
          generalize y * 16 % 16777216 = lo at *
          generalize t24 (y / 1048576) = tv at *
          generalize y / 1048576 = q at *
          go_wp2
          go_round
          case rel => exact ⟨m + 1, by omega, by go_num, by rw [HN2.out]⟩
          case measure => simp [intOf]; omega
        · obtain rfl : m = 2 := by omega
          go_wp2_with fail
          exact ⟨⟨k + 1, by rw [← HN.out]; omega, by go_num, by rw [HR2.out, ← HY.out]⟩, by simp [intOf]; omega⟩
    · obtain rfl : k = n := by omega
      go_wp2
      go_ret
      exact ⟨ret_int (by rw [HU.out, ← HR.out]; rfl), HB2.out⟩
end Go.Proofs.YtlgedfljmgedfaaGreat.F8
namespace Go.Proofs.YtlgedfljmgedfaaGreat.F8
open Go Go.RowKit

theorem same_any (A A2 : Option Addr) (n c m c2 B B2 : Nat) (a b : List Nat) (r : Bool) (w : World) (ha : Row w B A n (bv a)) (hb : Row w B2 A2 m (bv b)) (oa : Oct a) (ob : Oct b) (hr : decide (a = b) = r) :
    Calls Tryz.prog 101 #[.slice A n c, .slice A2 m c2] w fun e w' => e = .returned (.bool r) ∧ w = w' := by
  have h1 := run_str (P := Tryz.prog) w 33 5 Tryz.underlying33 Tryz.underlying5 B A n c a ha 9 Tryz.underlying9
  have h2 := run_str (P := Tryz.prog) w 33 5 Tryz.underlying33 Tryz.underlying5 B2 A2 m c2 b hb 9 Tryz.underlying9
  have HE := hid (str_eq oa ob)
  have HR := hid hr
  clear hr ha hb
  go_enter Tryz.func101, Tryz.ntmps101
  go_wp2
  go_ret
  exact ⟨ret_bool (by rw [← HR.out, ← HE.out]), rfl⟩
theorem equal_any (A A2 : Option Addr) (n c m c2 B B2 : Nat) (a b : List Nat) (r : Bool) (w : World) (ha : Row w B A n (bv a)) (hb : Row w B2 A2 m (bv b)) (oa : Oct a) (ob : Oct b) (hr : decide (a = b) = r) :
    Calls Tryz.prog 148 #[.slice A n c, .slice A2 m c2] w fun e w' => e = .returned (.bool r) ∧ w = w' := by
  have h1 := run_str (P := Tryz.prog) w 33 5 Tryz.underlying33 Tryz.underlying5 B A n c a ha 9 Tryz.underlying9
  have h2 := run_str (P := Tryz.prog) w 33 5 Tryz.underlying33 Tryz.underlying5 B2 A2 m c2 b hb 9 Tryz.underlying9
  have HE := hid (str_eq oa ob)
  have HR := hid hr
  clear hr ha hb
  go_enter Tryz.func148, Tryz.ntmps148
  go_wp2
  go_ret
  exact ⟨ret_bool (by rw [← HR.out, ← HE.out]), rfl⟩

/-- What is told is a new row of these cells. -/
def RetB (base : Nat) (vs : List Value) (w : World) (e : Ending) (w' : World) : Prop := ∃ A n c, e = .returned (.slice A n c) ∧ Own w' base 5 A n c vs ∧ Below base w w'
/-- A new row, and an error's number. -/
def RetE (base : Nat) (vs : List Value) (er : Nat) (w : World) (e : Ending) (w' : World) : Prop := ∃ A n c, e = .returned (.tuple #[.slice A n c, .int .i64 (er : Int)]) ∧ Own w' base 5 A n c vs ∧ Below base w w'

set_option maxHeartbeats 400000 in
theorem clone_any (A : Option Addr) (n c B : Nat) (bs : List Nat) (w : World) (ha : Row w B A n (bv bs)) (hn : n ≤ 10000000) (hB : B ≤ w.heap.size) :
    Calls Tryz.prog 149 #[.slice A n c] w (RetB w.heap.size (bv bs) w) := by
  have HA := hid ha
  have q22 : ∀ (w : World) (a : Option Addr) (n c : Nat), (binOp .eql 33 (.slice a n c) (.slice none 0 0)).run Tryz.prog w = .ok (.bool a.isNone) w := fun w a n c => by
    simp only [binOp]
    simp [run_equal_slice_nil w 33 5 a n c Tryz.underlying33]
  clear ha
  cases A with
  | none =>
    obtain rfl : n = 0 := by
      rcases Nat.eq_zero_or_pos n with h | h
      · exact h
      · obtain ⟨b, o, e, _⟩ := HA.out.2 h; cases e
    go_enter Tryz.func149, Tryz.ntmps149
    go_wp2
    go_ret
    have : bv bs = [] := List.eq_nil_of_length_eq_zero HA.out.1
    exact ⟨none, 0, 0, rfl, by rw [this]; exact Own.nil _ _ _, Below.refl _ _⟩
  | some a =>
    go_enter Tryz.func149, Tryz.ntmps149
    go_wp2_with (at_builtin; refine wpList_app _ rfl (.tmp 5) (.tmp 6) 33 rfl w.heap.size 5 (.int .u8 0) 1 Tryz.underlying33 info5 rfl _ 0 _ [] rfl (World.ownsRow_lit w #[] 0 (Nat.le_refl _) (by decide) rfl) B (some a) n c (bv bs) rfl (HA.out.alloc hB _) (bv_one bs) (by omega) (by omega) (by simp) ?_; intro A1 c1 w2 own2 bel2)
    go_ret
    exact ⟨A1, _, c1, rfl, by simpa using own2, ((Below.refl _ _).alloc (Nat.le_refl _) _).trans bel2⟩
/-- An own row that is not empty: where it lies, its cells, one of them stored anew. -/
theorem Own.at_ {w : World} {base e : Nat} {A : Option Addr} {n c : Nat} {vs : List Value} (h : Own w base e A n c vs) (hn : 0 < n) :
    ∃ g, A = some ⟨g, 0, none⟩ ∧ base ≤ g ∧ (∀ j, j < n → w.cell? ⟨g, j, none⟩ = vs[j]?) ∧ (∀ j, w.frozen? ⟨g, j, none⟩ = false) ∧ ∀ (j : Nat) (u : Value), Own (w.setCell ⟨g, j, none⟩ u) base e A n c (vs.set j u) := by
  rcases h.2 with ⟨_, h0⟩ | ⟨g, cap, cur, hv, hb, _⟩
  · omega
  · have hA : A = some ⟨g, 0, none⟩ := by injection hv
    subst hA
    exact ⟨g, rfl, hb, fun j hj => World.ownsRow.cellAt h j (by omega), fun j => World.ownsRow.frozenAt h j, fun j u => (World.ownsRow.stored h j u).1⟩
end Go.Proofs.YtlgedfljmgedfaaGreat.F8
namespace Go.Proofs.YtlgedfljmgedfaaGreat.F8
open Go Go.RowKit

theorem bv_tail24 {bs : List Nat} (ho : Oct bs) : bv (tail24 bs) = [.int .u8 ((sum24 bs : Int) / 65536), .int .u8 ((sum24 bs : Int) / 256 % 256), .int .u8 ((sum24 bs : Int) % 256)] := by
  have hs := sum24_lt ho
  rw [show (sum24 bs : Int) / 65536 = ((sum24 bs / 65536 % 256 : Nat) : Int) by omega, show (sum24 bs : Int) / 256 % 256 = ((sum24 bs / 256 % 256 : Nat) : Int) by omega, show (sum24 bs : Int) % 256 = ((sum24 bs % 256 : Nat) : Int) by omega]
  rfl
set_option maxHeartbeats 400000 in
theorem tail24_any (A : Option Addr) (n c B : Nat) (bs : List Nat) (w : World) (ha : Row w B A n (bv bs)) (hB : B ≤ w.heap.size) (ho : Oct bs) (hn : n ≤ 4611686018427387904) :
    Calls Tryz.prog 116 #[.slice A n c] w (RetB w.heap.size (bv (tail24 bs)) w) := by
  have HA := hid ha
  have hs := sum24_lt ho
  have HT := hid (bv_tail24 ho)
  clear ha
  go_enter Tryz.func116, Tryz.ntmps116
  go_wp2_with (go_at_call 147; refine (sum24_any A n c B bs w HA.out hB ho hn).mono ?_; rintro e w1 ⟨rfl, bel1⟩)
  go_ret
  refine ⟨_, 3, 3, rfl, ?_, bel1.alloc bel1.size _⟩
  rw [HT.out]
  exact World.ownsRow_lit (size := 1) w1 #[_, _, _] 3 bel1.size (by decide) rfl
end Go.Proofs.YtlgedfljmgedfaaGreat.F8
namespace Go.Proofs.YtlgedfljmgedfaaGreat.F8
open Go Go.RowKit

theorem undrew {w w1 : World} (h : Below w.drew.heap.size w.drew w1) : Below w.heap.size w w1 := ⟨h.os, h.tape, h.output, h.size, h.block⟩
theorem retE_none (er : Nat) (w : World) : RetE w.heap.size [] er w (.returned (.tuple #[.slice none 0 0, .int .i64 (er : Int)])) w := ⟨none, 0, 0, rfl, Own.nil _ _ _, Below.refl _ _⟩

set_option maxHeartbeats 1000000 in
set_option maxHeartbeats 1000000 in
theorem open24_in (A : Option Addr) (n c B : Nat) (bs : List Nat) (r : Bool) (w : World) (ha : Row w B A n (bv bs)) (hB : B ≤ w.heap.size) (ho : Oct bs) (hn1 : 3 ≤ n) (hn2 : n ≤ 1048576 + 3) (hnc : n ≤ c)
    (hr : decide (tail24 (bs.take (n - 3)) = bs.drop (n - 3)) = r) :
    Calls Tryz.prog 117 #[.slice A n c, .int .i64 3, .func (.func 116) #[] #[]] w (if r then RetE w.heap.size (bv (bs.take (n - 3))) 0 w else RetE w.heap.size [] 5 w) := by
  obtain ⟨k, rfl⟩ : ∃ k, n = k + 3 := ⟨n - 3, by omega⟩
  rw [Nat.add_sub_cancel] at hr ⊢
  obtain ⟨b, o, rfl, hbb, _⟩ := ha.2 (by omega)
  have HT : Hid (Row w B (some ⟨b, o, none⟩) k (bv (bs.take k))) := hid (by have := ha.take (show k ≤ k + 3 by omega); rwa [bv_take] at this)
  have HD : Hid (Row w B (if c = k then some ⟨b, o, none⟩ else some ⟨b, o + k, none⟩) 3 (bv (bs.drop k))) := hid (by
    have := ha.cut (l := k) (r := k + 3) (by omega) (Nat.le_refl _) hnc
    rw [List.take_of_length_le (by rw [ha.1]; exact Nat.le_refl _), bv_drop, show k + 3 - k = 3 by omega] at this
    simpa [plain_add] using this)
  have HO := hid ho
  have HRR := hid hr
  have hsub : (((k + 3 : Nat) : Int) - 3) = (k : Int) := by omega
  have hsub2 : ((k : Int) + 3 - 3) = (k : Int) := by omega
  clear ha ho hr
  go_enter Tryz.func117, Tryz.ntmps117
  go_wp2_with fail
  have i1 : (0 : Int) ≤ (k : Int) := Int.natCast_nonneg _
  have i2 : (k : Int) ≤ (c : Int) := by omega
  have i3 : (k : Int) ≤ (k : Int) + 3 := by omega
  have i4 : (k : Int) + 3 ≤ (c : Int) := by omega
  have HTL := hid (tail24_any (some ⟨b, o, none⟩) k c B (bs.take k) w.drew (HT.out.keep (fun _ _ => rfl)) hB (HO.out.take k) (by omega))
  go_region_held3 (fun _ => True) (trivial)
    (first | (go_at_call 116; refine (HTL.out).mono ?_; rintro e w1 ⟨A1, n1, c1, rfl, own1, bel1⟩; dsimp only)
           | (go_at_call 148; refine (equal_any A1 _ n1 c1 _ _ w1.heap.size B _ _ r _ own1.row (HD.out.below ((undrew bel1).mono hB)) (tail24_oct _) (HO.out.drop k) HRR.out).mono ?_; rintro e w2 ⟨rfl, rfl⟩; dsimp only))
  have HB1 := hid (undrew bel1)
  have HT1 : Hid (Row w1 B (some ⟨b, o, none⟩) k (bv (bs.take k))) := hid (HT.out.below (HB1.out.mono hB))
  have hB1 : B ≤ w1.heap.size := Nat.le_trans hB HB1.out.size
  clear own1 bel1 HTL HT HD HRR HO
  cases r with
  | true =>
    go_wp2_with (go_at_call 149; refine (clone_any (some ⟨b, o, none⟩) k c B (bs.take k) w1 HT1.out (by omega) hB1).mono ?_; rintro e w2 ⟨A2, n2, c2, rfl, own2, bel2⟩)
    go_ret2
    show RetE w.heap.size (bv (bs.take k)) 0 w _ _
    exact ⟨A2, n2, c2, rfl, own2.base_le HB1.out.size, HB1.out.trans (bel2.mono HB1.out.size)⟩
  | false =>
    go_wp2
    go_ret2
    show RetE w.heap.size [] 5 w _ _
    exact ⟨none, 0, 0, rfl, Own.nil _ _ _, HB1.out⟩
theorem open24_ok (A : Option Addr) (n c B : Nat) (bs : List Nat) (w : World) (ha : Row w B A n (bv bs)) (hB : B ≤ w.heap.size) (ho : Oct bs) (hn1 : 3 ≤ n) (hn2 : n ≤ 1048576 + 3) (hnc : n ≤ c) (hr : tail24 (bs.take (n - 3)) = bs.drop (n - 3)) :
    Calls Tryz.prog 68 #[.slice A n c] w (RetE w.heap.size (bv (bs.take (n - 3))) 0 w) := by
  have H1 := hid (open24_in A n c B bs true w ha hB ho hn1 hn2 hnc (decide_eq_true hr))
  clear ha ho hr
  go_enter Tryz.func68, Tryz.ntmps68
  go_wp2_with (go_at_call 117; refine (H1.out).mono ?_; rintro e w1 ⟨A1, n1, c1, rfl, own1, bel1⟩)
  go_ret2
  exact ⟨A1, n1, c1, rfl, own1, bel1⟩
theorem open24_bad (A : Option Addr) (n c B : Nat) (bs : List Nat) (w : World) (ha : Row w B A n (bv bs)) (hB : B ≤ w.heap.size) (ho : Oct bs) (hn1 : 3 ≤ n) (hn2 : n ≤ 1048576 + 3) (hnc : n ≤ c) (hr : tail24 (bs.take (n - 3)) ≠ bs.drop (n - 3)) :
    Calls Tryz.prog 68 #[.slice A n c] w (RetE w.heap.size [] 5 w) := by
  have H1 := hid (open24_in A n c B bs false w ha hB ho hn1 hn2 hnc (decide_eq_false hr))
  clear ha ho hr
  go_enter Tryz.func68, Tryz.ntmps68
  go_wp2_with (go_at_call 117; refine (H1.out).mono ?_; rintro e w1 ⟨A1, n1, c1, rfl, own1, bel1⟩)
  go_ret2
  exact ⟨A1, n1, c1, rfl, own1, bel1⟩
theorem open24_short (A : Option Addr) (n c : Nat) (w : World) (hn : n < 3) : Calls Tryz.prog 68 #[.slice A n c] w (RetE w.heap.size [] 3 w) := by
  have h1 : Calls Tryz.prog 117 #[.slice A n c, .int .i64 3, .func (.func 116) #[] #[]] w fun e w' => e = .returned (.tuple #[.slice none 0 0, .int .i64 3]) ∧ w = w' := by
    go_enter Tryz.func117, Tryz.ntmps117
    go_wp2
    go_ret2
    exact ⟨rfl, rfl⟩
  have H1 := hid h1
  clear h1
  go_enter Tryz.func68, Tryz.ntmps68
  go_wp2_with (go_at_call 117; refine (H1.out).mono ?_; rintro e w1 ⟨rfl, rfl⟩)
  go_ret2
  exact retE_none 3 w
end Go.Proofs.YtlgedfljmgedfaaGreat.F8
namespace Go.Proofs.YtlgedfljmgedfaaGreat.F8
open Go Go.RowKit

end Go.Proofs.YtlgedfljmgedfaaGreat.F8
namespace Go.Proofs.YtlgedfljmgedfaaGreat.F8
open Go

/-- The groups k to 1, the highest first, each with 128 more. -/
def grp (n : Nat) : Nat → List Nat
  | 0 => []
  | k + 1 => (n / 128 ^ (k + 1) % 128 + 128) :: grp n k
/-- How many groups a number has, but one. -/
def gn (n : Nat) : Nat := (Lib.bitLen n - 1) / 7
/-- A number that varies. -/
def vary (n : Nat) : List Nat := grp n (gn n) ++ [n % 128]
/-- A fixed number of a width. -/
def fixb (n : Nat) : Nat → List Nat
  | 0 => []
  | k + 1 => (n / 256 ^ k % 256) :: fixb n k
/-- All are bytes. -/
theorem grp_len (n : Nat) : ∀ k, (grp n k).length = k
  | 0 => rfl
  | k + 1 => by simp [grp, grp_len n k]
theorem vary_len (n : Nat) : (vary n).length = gn n + 1 := by simp [vary, grp_len]
theorem bitLen_aux : ∀ (f x : Nat), x < 2 ^ f → x < 2 ^ Lib.bitLenAux f x ∧ (x ≠ 0 → 2 ^ (Lib.bitLenAux f x - 1) ≤ x)
  | 0, x, h => by
    have : x = 0 := by simpa using h
    subst this; simp [Lib.bitLenAux]
  | f + 1, x, h => by
    by_cases h0 : x = 0
    · subst h0; simp [Lib.bitLenAux]
    · have ih := bitLen_aux f (x / 2) (by rw [Nat.pow_succ] at h; omega)
      simp only [Lib.bitLenAux, if_neg h0]
      refine ⟨?_, fun _ => ?_⟩
      · rw [Nat.add_comm, Nat.pow_succ]; omega
      · rw [Nat.add_sub_cancel_left]
        by_cases h1 : x / 2 = 0
        · rw [h1]; cases f <;> simp [Lib.bitLenAux] <;> omega
        · have h2 := ih.2 h1
          have h3 : Lib.bitLenAux f (x / 2) ≠ 0 := by
            intro e; rw [e] at ih; have := ih.1; simp at this; omega
          obtain ⟨m, hm⟩ : ∃ m, Lib.bitLenAux f (x / 2) = m + 1 := ⟨_, (Nat.succ_pred h3).symm⟩
          rw [hm] at h2 ⊢
          rw [Nat.pow_succ]; simp at h2; omega

theorem bitLen_lt (n : Nat) (h : n < 2 ^ 64) : n < 2 ^ Lib.bitLen n := (bitLen_aux 64 n h).1
theorem bitLen_ge (n : Nat) (h : n < 2 ^ 64) (h0 : n ≠ 0) : 2 ^ (Lib.bitLen n - 1) ≤ n := (bitLen_aux 64 n h).2 h0
theorem bitLen_le64 (n : Nat) (h : n < 2 ^ 64) : Lib.bitLen n ≤ 64 := Lib.bitLen_le n 64 (Nat.le_refl _) h
theorem bitLen_57 (n : Nat) (h : n < 2 ^ 64) : 57 < Lib.bitLen n ↔ 144115188075855872 ≤ n := by
  constructor
  · intro hb
    by_cases hn : n < 2 ^ 57
    · have := Lib.bitLen_le n 57 (by omega) hn; omega
    · have : (2 : Nat) ^ 57 = 144115188075855872 := by decide
      omega
  · intro hn
    have h1 := bitLen_lt n h
    apply Nat.lt_of_not_le; intro hb
    have h2 := Nat.pow_le_pow_right (show 0 < 2 by omega) hb
    have : (2 : Nat) ^ 57 = 144115188075855872 := by decide
    omega

theorem pow128 (k : Nat) : 128 ^ k = 2 ^ (7 * k) := by rw [Nat.pow_mul]
theorem gn_lt (n : Nat) (h : n < 2 ^ 64) : n < 128 ^ (gn n + 1) := by
  rw [pow128]
  exact Nat.lt_of_lt_of_le (bitLen_lt n h) (Nat.pow_le_pow_right (by omega) (by unfold gn; omega))
theorem gn_ge (n : Nat) (h : n < 2 ^ 64) (h0 : 0 < gn n) : 128 ^ gn n ≤ n := by
  rw [pow128]
  have hn : n ≠ 0 := by intro e; subst e; revert h0; decide
  exact Nat.le_trans (Nat.pow_le_pow_right (by omega) (by unfold gn; omega)) (bitLen_ge n h hn)
theorem pow_mono128 {i j : Nat} (h : i ≤ j) : 128 ^ i ≤ 128 ^ j := Nat.pow_le_pow_right (by omega) h
theorem gn_eq (n k : Nat) (h : n < 2 ^ 64) (h1 : n < 128 ^ (k + 1)) (h2 : 0 < k → 128 ^ k ≤ n) : gn n = k := by
  apply Nat.le_antisymm
  · apply Nat.le_of_not_lt; intro hlt
    have := gn_ge n h (by omega)
    have := pow_mono128 (show k + 1 ≤ gn n by omega)
    omega
  · apply Nat.le_of_not_lt; intro hlt
    have := gn_lt n h
    have := pow_mono128 (show gn n + 1 ≤ k by omega)
    have := h2 (by omega)
    omega
theorem div_pow_succ' (n k : Nat) : n / 128 ^ (k + 1) = n / 128 ^ k / 128 := by
  rw [Nat.div_div_eq_div_mul, Nat.pow_succ]
/-- What the bytes from a place on are: the number, the place behind, the error's number. -/
def tv (first : Bool) (acc k : Nat) : List Nat → Nat × Nat × Nat
  | [] => (0, 0, 3)
  | x :: r => if (first = true ∧ x = 128) ∨ 144115188075855872 ≤ acc then (0, 0, 4)
    else if x < 128 then (acc * 128 + x, k + 1, 0) else tv false (acc * 128 + x % 128) (k + 1) r

/-- What is read of bytes is a number with those bytes. -/
theorem tv_again : ∀ (l : List Nat) (f : Bool) (acc k n p : Nat), Oct l → acc < 2 ^ 64 → tv f acc k l = (n, p, 0) →
    ∃ j, p = k + (j + 1) ∧ j < l.length ∧ n < 2 ^ 64 ∧ acc = n / 128 ^ (j + 1) ∧ l.take (j + 1) = grp n j ++ [n % 128] ∧ (f = true → 0 < j → n / 128 ^ j % 128 ≠ 0)
  | [], f, acc, k, n, p, _, _, h => by simp [tv] at h
  | x :: r, f, acc, k, n, p, ho, ha, h => by
    simp only [tv] at h
    have hx : x < 256 := ho x (List.mem_cons_self ..)
    split at h
    · simp at h
    · rename_i hc
      have hc1 : acc < 144115188075855872 := by apply Nat.lt_of_not_le; intro e; exact hc (Or.inr e)
      have hc2 : f = true → x ≠ 128 := fun e e' => hc (Or.inl ⟨e, e'⟩)
      split at h
      · rename_i hlt
        obtain ⟨rfl, rfl, -⟩ : acc * 128 + x = n ∧ k + 1 = p ∧ True := by simpa using h
        refine ⟨0, rfl, by simp, by omega, by simp; omega, ?_, by omega⟩
        simp [grp]; omega
      · rename_i hge
        obtain ⟨j, rfl, hj, hn, hacc, htake, -⟩ := tv_again r false (acc * 128 + x % 128) (k + 1) n p (fun y hy => ho y (List.mem_cons_of_mem _ hy)) (by omega) h
        have e1 : n / 128 ^ (j + 1) % 128 = x % 128 := by rw [← hacc]; omega
        have e2 : acc = n / 128 ^ (j + 1 + 1) := by rw [div_pow_succ', ← hacc]; omega
        refine ⟨j + 1, by omega, by simp; omega, hn, e2, ?_, fun hf _ => ?_⟩
        · rw [List.take_succ_cons, htake]
          simp only [grp, List.cons_append, e1]
          congr 1; omega
        · have := hc2 hf; rw [e1]; omega
theorem tv_back (l : List Nat) (k n p : Nat) (ho : Oct l) (h : tv true 0 k l = (n, p, 0)) :
    n < 2 ^ 64 ∧ p = k + (vary n).length ∧ (vary n).length ≤ l.length ∧ l.take (vary n).length = vary n := by
  obtain ⟨j, rfl, hj, hn, hacc, htake, hf⟩ := tv_again l true 0 k n p ho (by decide) h
  have hg : gn n = j := by
    refine gn_eq n j hn ?_ (fun hp => ?_)
    · apply Nat.lt_of_not_le; intro hle
      have := Nat.div_pos hle (Nat.pow_pos (by omega)); omega
    · apply Nat.le_of_not_lt; intro hlt
      have := hf rfl hp
      rw [Nat.div_eq_of_lt hlt] at this
      simp at this
  subst hg
  rw [vary_len]
  exact ⟨hn, rfl, by omega, htake⟩
/-- The order of bytes, octet by octet. -/
def less : List Nat → List Nat → Bool
  | _, [] => false
  | [], _ :: _ => true
  | a :: x, b :: y => decide (a < b) || (decide (a = b) && less x y)

def fxv (a : Nat) (l : List Nat) : Nat := l.foldl (fun n x => n * 256 + x) a
theorem fxv_lt (l : List Nat) (ho : Oct l) : fxv 0 l < 256 ^ l.length := by
  have : ∀ (l : List Nat) (a : Nat), Oct l → fxv a l < (a + 1) * 256 ^ l.length := by
    intro l
    induction l with
    | nil => intro a _; simp [fxv]
    | cons x l ih =>
      intro a ho
      have h1 := ih (a * 256 + x) (fun y hy => ho y (List.mem_cons_of_mem _ hy))
      have h2 := ho x (List.mem_cons_self ..)
      have h3 : (a * 256 + x + 1) * 256 ^ l.length ≤ (a + 1) * 256 * 256 ^ l.length := Nat.mul_le_mul_right _ (by omega)
      simp only [fxv, List.foldl_cons, List.length_cons, Nat.pow_succ] at h1 ⊢
      rw [Nat.mul_comm (256 ^ l.length) 256, ← Nat.mul_assoc]
      omega
  simpa using this l 0 ho
theorem fxv_snoc (l : List Nat) (x : Nat) : fxv 0 (l ++ [x]) = fxv 0 l * 256 + x := by simp [fxv]
end Go.Proofs.YtlgedfljmgedfaaGreat.F8
namespace Go.Proofs.YtlgedfljmgedfaaGreat.F8
open Go Go.RowKit

end Go.Proofs.YtlgedfljmgedfaaGreat.F8
namespace Go.Proofs.YtlgedfljmgedfaaGreat.F8
open Go Go.RowKit

theorem len64_any (x : Nat) (w : World) (hx : x < 18446744073709551616) : Calls Tryz.prog 145 #[.int .u64 (x : Int)] w fun e w' => e = .returned (.int .i64 (Lib.bitLen x : Nat)) ∧ w = w' :=
  (Tryz.bits_Len64 (x : Int) w (by omega) (by omega)).mono fun e w' ⟨he, hw⟩ => ⟨by rw [he]; simp, hw.symm⟩

def AddRel (base : Nat) (bs : List Nat) (x : Nat) (w : World) (l i : Value) (wr : World) : Prop :=
  ∃ (k n c : Nat) (A : Option Addr) (ds : List Nat), k ≤ gn x ∧ i = .int .i64 (k : Int) ∧ l = .slice A n c ∧ ds ++ grp x k = grp x (gn x) ∧ Own wr base 5 A n c (bv (bs ++ ds)) ∧ Below base w wr

def varies (ns : List Nat) : List Nat := (ns.map vary).flatten
def VaryRel (base : Nat) (bs ns : List Nat) (w : World) (l i : Value) (wr : World) : Prop :=
  ∃ (k n c : Nat) (A : Option Addr), k ≤ ns.length ∧ i = .int .i64 (k : Int) ∧ l = .slice A n c ∧ Own wr base 5 A n c (bv (bs ++ varies (ns.take k))) ∧ Below base w wr

end Go.Proofs.YtlgedfljmgedfaaGreat.F8
namespace Go.Proofs.YtlgedfljmgedfaaGreat.F8
open Go Go.RowKit

def widB (x : Int) : Bool := decide (1 ≤ x ∧ x ≤ 8)
theorem isWidth_any (x : Int) (w : World) : Calls Tryz.prog 114 #[.int .i64 x] w fun e w' => e = .returned (.bool (widB x)) ∧ w = w' := by
  by_cases h : 1 ≤ x
  · go_enter Tryz.func114, Tryz.ntmps114
    go_wp2
    all_goals (go_ret; exact ⟨ret_bool (by simp [widB, h]), rfl⟩)
  · go_enter Tryz.func114, Tryz.ntmps114
    go_wp2
    all_goals (go_ret; exact ⟨ret_bool (by simp [widB]; omega), rfl⟩)

def RetBE (base : Nat) (vs : List Value) (w : World) (e : Ending) (w' : World) : Prop := ∃ A n c, e = .returned (.tuple #[.slice A n c, .int .i64 0]) ∧ Own w' base 5 A n c vs ∧ Below base w w'

def FixRel (base : Nat) (bs : List Nat) (x wd : Nat) (w : World) (l i : Value) (wr : World) : Prop :=
  ∃ (k n c : Nat) (A : Option Addr) (ds : List Nat), k ≤ wd ∧ i = .int .i64 ((k : Int) - 1) ∧ l = .slice A n c ∧ ds ++ fixb x k = fixb x wd ∧ Own wr base 5 A n c (bv (bs ++ ds)) ∧ Below base w wr

def TvRel (bs : List Nat) (k0 : Nat) (R : Nat × Nat × Nat) (a i : Value) : Prop :=
  ∃ k acc : Nat, k0 ≤ k ∧ i = .int .i64 (k : Int) ∧ a = .int .u64 (acc : Int) ∧ acc < 18446744073709551616 ∧ tv (decide (k = k0)) acc k (bs.drop k) = R

/-- A number, a place, and an error's number. -/
def tri (k : IntKind) (r : Nat × Nat × Nat) : Ending := .returned (.tuple #[.int k (r.1 : Int), .int .i64 (r.2.1 : Int), .int .i64 (r.2.2 : Int)])

theorem or7 (acc x : Nat) (h : acc < 144115188075855872) : bits .or .u64 ((acc : Int) * 128) ((x : Int) % 128) = ((acc * 128 + x % 128 : Nat) : Int) := by
  have hm : x % 128 < 2 ^ 7 := Nat.mod_lt _ (by omega)
  have e1 : (acc : Int) * 128 = ((acc * 128 : Nat) : Int) := by simp
  have e2 : (x : Int) % 128 = ((x % 128 : Nat) : Int) := by simp
  rw [e1, e2, u64_or_nat _ _ (by omega) (by omega)]
  have := Nat.two_pow_add_eq_or_of_lt hm acc
  rw [show (2 : Nat) ^ 7 = 128 from rfl, Nat.mul_comm 128 acc] at this
  rw [this]

set_option maxRecDepth 100000 in
set_option maxHeartbeats 1000000 in
theorem takeVary_R (A : Option Addr) (n c B k0 : Nat) (bs : List Nat) (R : Nat × Nat × Nat) (w : World) (hr : Row w B A n (bv bs)) (ho : Oct bs) (hn : n ≤ 9000000000000000000) (hR : tv true 0 k0 (bs.drop k0) = R) :
    Calls Tryz.prog 120 #[.slice A n c, .int .i64 (k0 : Int)] w fun e w' => e = tri .u64 R ∧ w = w' := by
  have HR := hid hr
  have HO := hid ho
  have hnl := hr.1
  rw [bv_len] at hnl
  have HNL := hid hnl
  have HRR := hid hR
  clear hr ho hnl hR
  go_enter Tryz.func120, Tryz.ntmps120
  go_wp2
  go_loop [7, 8] (TvRel bs k0 R) (fun _ i => n - (intOf i).toNat)
  case atStart => exact ⟨k0, 0, Nat.le_refl _, rfl, rfl, by decide, by simpa using HRR.out⟩
  case round =>
    obtain ⟨k, acc, hk, rfl, rfl, hacc, hrec⟩ := hrel
    have HREC := hid hrec
    clear hrec HRR
    by_cases hlt : k < n
    · obtain ⟨b, o, u, rfl, hbb, hu, hcell⟩ := HR.out.at_ hlt
      have hkn : k < bs.length := by have := HNL.out; omega
      obtain ⟨x, hxx⟩ : ∃ x, x = bs[k] := ⟨_, rfl⟩
      have hu' : u = .int .u8 (x : Int) := by
        simp only [bv, List.getElem?_map, List.getElem?_eq_getElem hkn] at hu
        rw [hxx]; simpa using hu.symm
      subst hu'
      have hx : x < 256 := by rw [hxx]; exact HO.out _ (List.getElem_mem hkn)
      have HT : Hid (bs.drop k = x :: bs.drop (k + 1)) := hid (by rw [hxx]; exact List.drop_eq_getElem_cons hkn)
      clear hxx hu
      have hL64 := bitLen_le64 acc hacc
      have H57 := hid (bitLen_57 acc hacc)
      have HSTEP : Hid (tv (decide (k = k0)) acc k (x :: bs.drop (k + 1)) = R) := hid (by rw [← HT.out]; exact HREC.out)
      clear HREC HT
      by_cases hkx : k = k0 ∧ x = 128
      · have HF : Hid ((0, 0, 4) = R) := hid (by rw [← HSTEP.out]; simp only [tv]; rw [if_pos (.inl ⟨by simp [hkx.1], hkx.2⟩)])
        have hkb : ((k : Int) == (k0 : Int)) = true := by rw [hkx.1]; simp
        have hxb : ((x : Int) == 128) = true := by rw [hkx.2]; rfl
        clear hkx HSTEP H57
        go_wp2
        go_ret3
        exact ⟨by rw [← HF.out]; rfl, rfl⟩
      · by_cases hbig : 144115188075855872 ≤ acc
        · have HF : Hid ((0, 0, 4) = R) := hid (by rw [← HSTEP.out]; simp only [tv]; rw [if_pos (.inr hbig)])
          have hL : 57 < Lib.bitLen acc := H57.out.2 hbig
          by_cases hkk : k = k0
          · have hkb : ((k : Int) == (k0 : Int)) = true := by rw [hkk]; simp
            have hxb : ((x : Int) == 128) = false := by rw [beq_eq_false_iff_ne]; intro e; exact hkx ⟨hkk, by omega⟩
            clear hkx HSTEP H57 hbig hkk
            go_wp2_with (go_at_call 145; refine (len64_any _ _ hacc).mono ?_; rintro e w' ⟨rfl, rfl⟩; generalize Lib.bitLen acc = L at hL hL64)
            go_ret3
            exact ⟨by rw [← HF.out]; rfl, rfl⟩
          · have hkb : ((k : Int) == (k0 : Int)) = false := by rw [beq_eq_false_iff_ne]; omega
            clear hkx HSTEP H57 hbig hkk
            go_wp2_with (go_at_call 145; refine (len64_any _ _ hacc).mono ?_; rintro e w' ⟨rfl, rfl⟩; generalize Lib.bitLen acc = L at hL hL64)
            go_ret3
            exact ⟨by rw [← HF.out]; rfl, rfl⟩
        · have hL : Lib.bitLen acc ≤ 57 := by apply Nat.le_of_not_lt; intro e; exact hbig (H57.out.1 e)
          have HC : Hid (¬ ((decide (k = k0) = true ∧ x = 128) ∨ 144115188075855872 ≤ acc)) := hid (by simp only [decide_eq_true_eq]; rintro (e | e); exact hkx e; exact hbig e)
          have hsm : acc < 144115188075855872 := by omega
          by_cases hx8 : x < 128
          · have HF : Hid ((acc * 128 + x, k + 1, 0) = R) := hid (by rw [← HSTEP.out]; simp only [tv]; rw [if_neg HC.out, if_pos hx8])
            by_cases hkk : k = k0
            · have hkb : ((k : Int) == (k0 : Int)) = true := by rw [hkk]; simp
              have hxb : ((x : Int) == 128) = false := by rw [beq_eq_false_iff_ne]; intro e; exact hkx ⟨hkk, by omega⟩
              clear hkx H57 hbig hkk HC HSTEP
              go_wp2_with (go_at_call 145; refine (len64_any _ _ hacc).mono ?_; rintro e w' ⟨rfl, rfl⟩; generalize Lib.bitLen acc = L at hL hL64)
              go_ret3
              refine ⟨?_, rfl⟩
              rw [← HF.out]
              show Ending.returned (.tuple #[.int .u64 (bits .or .u64 ((acc : Int) * 128) ((x : Int) % 128)), .int .i64 ((k : Int) + 1), .int .i64 0]) = _
              rw [or7 acc x hsm, Nat.mod_eq_of_lt hx8]
              rfl
            · have hkb : ((k : Int) == (k0 : Int)) = false := by rw [beq_eq_false_iff_ne]; omega
              clear hkx H57 hbig hkk HC HSTEP
              go_wp2_with (go_at_call 145; refine (len64_any _ _ hacc).mono ?_; rintro e w' ⟨rfl, rfl⟩; generalize Lib.bitLen acc = L at hL hL64)
              go_ret3
              refine ⟨?_, rfl⟩
              rw [← HF.out]
              show Ending.returned (.tuple #[.int .u64 (bits .or .u64 ((acc : Int) * 128) ((x : Int) % 128)), .int .i64 ((k : Int) + 1), .int .i64 0]) = _
              rw [or7 acc x hsm, Nat.mod_eq_of_lt hx8]
              rfl
          · have HF : Hid (tv (decide (k + 1 = k0)) (acc * 128 + x % 128) (k + 1) (bs.drop (k + 1)) = R) := hid (by rw [← HSTEP.out]; simp only [tv]; rw [if_neg HC.out, if_neg hx8, decide_eq_false (by omega : ¬ k + 1 = k0)])
            by_cases hkk : k = k0
            · have hkb : ((k : Int) == (k0 : Int)) = true := by rw [hkk]; simp
              have hxb : ((x : Int) == 128) = false := by rw [beq_eq_false_iff_ne]; intro e; exact hkx ⟨hkk, by omega⟩
              clear hkx H57 hbig hkk HC HSTEP
              go_wp2_with (go_at_call 145; refine (len64_any _ _ hacc).mono ?_; rintro e w' ⟨rfl, rfl⟩; generalize Lib.bitLen acc = L at hL hL64)
              go_round
              case rel => exact ⟨k + 1, acc * 128 + x % 128, by omega, by go_num, by rw [or7 acc x hsm], by omega, HF.out⟩
              case measure => simp [intOf]; omega
            · have hkb : ((k : Int) == (k0 : Int)) = false := by rw [beq_eq_false_iff_ne]; omega
              clear hkx H57 hbig hkk HC HSTEP
              go_wp2_with (go_at_call 145; refine (len64_any _ _ hacc).mono ?_; rintro e w' ⟨rfl, rfl⟩; generalize Lib.bitLen acc = L at hL hL64)
              go_round
              case rel => exact ⟨k + 1, acc * 128 + x % 128, by omega, by go_num, by rw [or7 acc x hsm], by omega, HF.out⟩
              case measure => simp [intOf]; omega
    · have HN : Hid (tv (decide (k = k0)) acc k [] = R) := hid (by have h1 : bs.drop k = [] := List.drop_eq_nil_of_le (by have := HNL.out; omega); rw [← h1]; exact HREC.out)
      go_wp2
      go_ret3
      exact ⟨by rw [← HN.out]; rfl, rfl⟩

theorem takeVary_any (A : Option Addr) (n c B k0 : Nat) (bs : List Nat) (w : World) (hr : Row w B A n (bv bs)) (ho : Oct bs) (hn : n ≤ 9000000000000000000) :
    Calls Tryz.prog 120 #[.slice A n c, .int .i64 (k0 : Int)] w fun e w' => e = tri .u64 (tv true 0 k0 (bs.drop k0)) ∧ w = w' :=
  takeVary_R A n c B k0 bs _ w hr ho hn rfl

end Go.Proofs.YtlgedfljmgedfaaGreat.F8
namespace Go.Proofs.YtlgedfljmgedfaaGreat.F8

/-- A frame: kind, from, slot, members. -/
structure Fr where
  k : Int
  f : Int
  s : Nat
  m : Nat
deriving DecidableEq
def fz : Fr := ⟨0, 0, 0, 0⟩
/-- It may be. -/
def OkF (x : Fr) : Prop := (x.k = 1 ∨ x.k = 2) ∧ 0 ≤ x.f ∧ x.f ≤ 15 ∧ x.s ≤ 4294967296
instance (x : Fr) : Decidable (OkF x) := by unfold OkF; infer_instance
/-- Its text, ahead of its sum, and whole. -/
def bare (x : Fr) : List Nat := [161, x.k.toNat, x.f.toNat] ++ (vary x.s ++ fixb x.m 2)
def sealedF (x : Fr) : List Nat := bare x ++ tail24 (bare x)

/-- A fixed number of a width, read from a place on; all of a frame's, one behind the other. -/
def tf (l : List Nat) (k wd : Nat) : Nat × Nat × Nat := if k + wd ≤ l.length then (fxv 0 ((l.drop k).take wd), k + wd, 0) else (0, 0, 3)
def flds (l : List Nat) : (Nat × Nat × Nat × Nat) × Bool :=
  ((( tf l (tf l 0 1).2.1 1).1, (tf l (tf l (tf l 0 1).2.1 1).2.1 1).1,
    (tv true 0 (tf l (tf l (tf l 0 1).2.1 1).2.1 1).2.1 (l.drop (tf l (tf l (tf l 0 1).2.1 1).2.1 1).2.1)).1,
    (tf l (tv true 0 (tf l (tf l (tf l 0 1).2.1 1).2.1 1).2.1 (l.drop (tf l (tf l (tf l 0 1).2.1 1).2.1 1).2.1)).2.1 2).1),
   decide ((tf l 0 1).1 = 161 ∧ (tf l 0 1).2.2 = 0 ∧ (tf l (tf l 0 1).2.1 1).2.2 = 0 ∧ (tf l (tf l (tf l 0 1).2.1 1).2.1 1).2.2 = 0 ∧
    (tv true 0 (tf l (tf l (tf l 0 1).2.1 1).2.1 1).2.1 (l.drop (tf l (tf l (tf l 0 1).2.1 1).2.1 1).2.1)).2.2 = 0 ∧
    (tf l (tv true 0 (tf l (tf l (tf l 0 1).2.1 1).2.1 1).2.1 (l.drop (tf l (tf l (tf l 0 1).2.1 1).2.1 1).2.1)).2.1 2).2.2 = 0 ∧
    (tf l (tv true 0 (tf l (tf l (tf l 0 1).2.1 1).2.1 1).2.1 (l.drop (tf l (tf l (tf l 0 1).2.1 1).2.1 1).2.1)).2.1 2).2.1 = l.length))

theorem fxv1 (x : Nat) : fxv 0 [x] = x := by simp [fxv]
theorem fxv2 (x y : Nat) : fxv 0 [x, y] = x * 256 + y := by simp [fxv]
theorem fixb2 (m : Nat) (h : m < 65536) : fixb m 2 = [m / 256, m % 256] := by
  simp only [fixb, Nat.pow_zero, Nat.pow_one, Nat.div_one]
  rw [Nat.mod_eq_of_lt (show m / 256 < 256 by omega)]
theorem fixb2_back (a b : Nat) (ha : a < 256) (hb : b < 256) : fixb (a * 256 + b) 2 = [a, b] := by
  rw [fixb2 _ (by omega)]; congr 1
  · omega
  · congr 1; omega
/-- The text begins with three bytes. -/
theorem flds_three (a k f : Nat) (r : List Nat) (s p e : Nat) (h : tv true 0 3 r = (s, p, e)) :
    flds (a :: k :: f :: r) = ((k, f, s, (tf (a :: k :: f :: r) p 2).1), decide (a = 161 ∧ e = 0 ∧ (tf (a :: k :: f :: r) p 2).2.2 = 0 ∧ (tf (a :: k :: f :: r) p 2).2.1 = r.length + 3)) := by
  have e0 : tf (a :: k :: f :: r) 0 1 = (a, 1, 0) := by simp [tf, fxv1]
  have e1 : tf (a :: k :: f :: r) 1 1 = (k, 2, 0) := by simp [tf, fxv1]
  have e2 : tf (a :: k :: f :: r) 2 1 = (f, 3, 0) := by simp [tf, fxv1]
  have e3 : tv true 0 3 ((a :: k :: f :: r).drop 3) = (s, p, e) := by simpa using h
  simp only [flds, e0, e1, e2, e3]
  simp
theorem tv_pos (r : List Nat) (s p : Nat) (ho : Oct r) (h : tv true 0 3 r = (s, p, 0)) : s < 2 ^ 64 ∧ p = 3 + (vary s).length ∧ r.take (vary s).length = vary s ∧ (vary s).length ≤ r.length := by
  obtain ⟨h1, h2, h3, h4⟩ := tv_back r 3 s p ho h
  exact ⟨h1, h2, h4, h3⟩
/-- Where all of a frame's stand, the text is that frame's. -/
theorem flds_true (l : List Nat) (ho : Oct l) (g : Nat × Nat × Nat × Nat) (h : flds l = (g, true)) :
    l = [161, g.1, g.2.1] ++ (vary g.2.2.1 ++ fixb g.2.2.2 2) ∧ g.1 < 256 ∧ g.2.1 < 256 ∧ g.2.2.1 < 2 ^ 64 ∧ g.2.2.2 < 65536 ∧ tv true 0 3 (l.drop 3) = (g.2.2.1, 3 + (vary g.2.2.1).length, 0) ∧ l.length = 3 + (vary g.2.2.1).length + 2 := by
  match l, ho, h with
  | [], _, h =>
    have := congrArg Prod.snd h
    simp [flds, tf] at this
  | [a], _, h =>
    have := congrArg Prod.snd h
    simp [flds, tf] at this
  | [a, k], _, h =>
    have := congrArg Prod.snd h
    simp [flds, tf] at this
  | a :: k :: f :: r, ho, h =>
    obtain ⟨s, p, e, hv⟩ : ∃ s p e, tv true 0 3 r = (s, p, e) := ⟨_, _, _, rfl⟩
    rw [flds_three _ _ _ _ _ _ _ hv] at h
    obtain ⟨hg, hd⟩ := Prod.mk.inj h
    have hd' := of_decide_eq_true hd
    obtain ⟨rfl, rfl, h3, h4⟩ := hd'
    have hor : Oct r := ho.tail.tail.tail
    obtain ⟨v1, v2, v3, v4⟩ := tv_pos r s p hor hv
    have hp : p + 2 ≤ (161 :: k :: f :: r).length := by
      apply Nat.le_of_not_lt; intro hlt
      unfold tf at h3; rw [if_neg (by omega)] at h3; simp at h3
    have htf : tf (161 :: k :: f :: r) p 2 = (fxv 0 (((161 :: k :: f :: r).drop p).take 2), p + 2, 0) := by unfold tf; rw [if_pos hp]
    rw [htf] at hg h4
    simp only at h4
    have hdrop : (161 :: k :: f :: r).drop p = r.drop (vary s).length := by rw [v2, Nat.add_comm]; simp
    have hl2 : (r.drop (vary s).length).length = 2 := by rw [List.length_drop]; omega
    obtain ⟨y, z, hyz⟩ : ∃ y z, r.drop (vary s).length = [y, z] := by
      match r.drop (vary s).length, hl2 with
      | [y, z], _ => exact ⟨y, z, rfl⟩
    have oyz : Oct [y, z] := by rw [← hyz]; exact hor.drop _
    have hr : r = vary s ++ [y, z] := by
      have := List.take_append_drop (vary s).length r
      rw [v3, hyz] at this; exact this.symm
    rw [hdrop, hyz] at hg
    have hg' : g = (k, f, s, y * 256 + z) := by rw [← hg]; simp [fxv2]
    subst hg'
    have hy := oyz.head
    have hz := oyz.tail.head
    refine ⟨?_, ho.tail.head, ho.tail.tail.head, v1, by simp only; omega, ?_, ?_⟩
    · show _ = [161, k, f] ++ (vary s ++ fixb (y * 256 + z) 2)
      rw [fixb2_back y z hy hz, ← hr]; rfl
    · show tv true 0 3 r = _
      rw [hv, v2]
    · simp only [List.length_cons]; omega

/-- What Read tells of a text: the frame, the error's number. -/
def frOf (g : Nat × Nat × Nat × Nat) : Fr := ⟨(g.1 : Int), (g.2.1 : Int), g.2.2.1, g.2.2.2⟩
def rd (bs : List Nat) : Fr × Nat :=
  if bs.length < 3 then (fz, 3) else if 1048579 < bs.length then (fz, 6) else
  if tail24 (bs.take (bs.length - 3)) = bs.drop (bs.length - 3) then
    if (flds (bs.take (bs.length - 3))).2 = true ∧ OkF (frOf (flds (bs.take (bs.length - 3))).1) then (frOf (flds (bs.take (bs.length - 3))).1, 0) else (fz, 4)
  else (fz, 5)
/-- What is no text of a frame is told so; what is, is its text. -/
theorem rd_ok (bs : List Nat) (ho : Oct bs) (g : Fr) (h : rd bs = (g, 0)) : OkF g ∧ g.m < 65536 ∧ bs = sealedF g := by
  unfold rd at h
  split at h
  · simp at h
  split at h
  · simp at h
  rename_i h3 h6
  split at h
  · rename_i ht
    split at h
    · rename_i hc
      obtain ⟨hc1, hc2⟩ := hc
      have hg : frOf (flds (bs.take (bs.length - 3))).1 = g := (Prod.mk.inj h).1
      rw [hg] at hc2
      have hf : flds (bs.take (bs.length - 3)) = ((flds (bs.take (bs.length - 3))).1, true) := by rw [← hc1]
      obtain ⟨t1, t2, t3, t4, t5, _⟩ := flds_true _ (ho.take _) _ hf
      generalize (flds (bs.take (bs.length - 3))).1 = y at *
      have eb : bs.take (bs.length - 3) = bare g := by
        rw [t1, ← hg]; simp [bare, frOf]
      refine ⟨hc2, by rw [← hg]; exact t5, ?_⟩
      unfold sealedF
      rw [← eb, ht, List.take_append_drop]
    · simp at h
  · simp at h
end Go.Proofs.YtlgedfljmgedfaaGreat.F8
namespace Go.Proofs.YtlgedfljmgedfaaGreat.F8
open Go

/-- Bit k of m is 1; m with it; m without it; how many of the lowest n are 1. -/
def hs (m k : Nat) : Bool := decide (m / 2 ^ k % 2 = 1)
def addb (m k : Nat) : Nat := if hs m k then m else m + 2 ^ k
def subb (m k : Nat) : Nat := if hs m k then m - 2 ^ k else m
def cn (m : Nat) : Nat → Nat
  | 0 => 0
  | n + 1 => cn m n + m / 2 ^ n % 2

theorem hs_bit (m k : Nat) : hs m k = m.testBit k := (Nat.testBit_eq_decide_div_mod_eq ..).symm
theorem one_bit (m k : Nat) : m / 2 ^ k % 2 = if hs m k then 1 else 0 := by
  unfold hs
  by_cases h : m / 2 ^ k % 2 = 1
  · simp [h]
  · simp [h]; omega
theorem pow15 (k : Nat) (h : k ≤ 15) : 2 ^ k ≤ 32768 := by
  have := Nat.pow_le_pow_right (show 0 < 2 by omega) h; simpa using this
theorem and_pow (m k : Nat) : m &&& 2 ^ k = if hs m k then 2 ^ k else 0 := by
  rw [nat_bit, one_bit]; split <;> simp
theorem or_pow (m k : Nat) : m ||| 2 ^ k = addb m k := by
  unfold addb
  split
  · rename_i h
    rw [hs_bit] at h
    refine Nat.eq_of_testBit_eq fun j => ?_
    rw [Nat.testBit_or, Nat.testBit_two_pow]
    by_cases e : k = j
    · subst e; simp [h]
    · simp [e]
  · rename_i h
    have h0 : m / 2 ^ k % 2 = 0 := by rw [one_bit, if_neg h]
    have hp := Nat.two_pow_pos k
    have e1 : m = 2 ^ (k + 1) * (m / 2 ^ k / 2) + m % 2 ^ k := by
      have a1 := Nat.div_add_mod m (2 ^ k)
      have a2 := Nat.div_add_mod (m / 2 ^ k) 2
      rw [h0, Nat.add_zero] at a2
      rw [Nat.pow_succ, Nat.mul_assoc, a2, a1]
    have hb := Nat.mod_lt m hp
    generalize m % 2 ^ k = b at e1 hb
    generalize m / 2 ^ k / 2 = a at e1
    have hb2 : b < 2 ^ (k + 1) := by rw [Nat.pow_succ]; omega
    have hb3 : 2 ^ k + b < 2 ^ (k + 1) := by rw [Nat.pow_succ]; omega
    rw [e1, ← nat_join (k + 1) (2 ^ (k + 1) * a) b (by simp) hb2, Nat.or_assoc, Nat.or_comm b, nat_join k (2 ^ k) b (by simp) hb, nat_join (k + 1) _ _ (by simp) hb3]
    rw [nat_join (k + 1) (2 ^ (k + 1) * a) b (by simp) hb2]
    omega
theorem addb_bit (m k j : Nat) : (addb m k).testBit j = (m.testBit j || decide (k = j)) := by
  rw [← or_pow, Nat.testBit_or, Nat.testBit_two_pow]
theorem addb_lt (m k : Nat) (hm : m < 65536) (hk : k ≤ 15) : addb m k < 65536 := by
  rw [← or_pow]
  exact Nat.or_lt_two_pow (n := 16) hm (Nat.pow_lt_pow_right (by omega) (by omega))
theorem subb_add (m k : Nat) (h : hs m k = true) : addb (m - 2 ^ k) k = m := by
  have h1 : m / 2 ^ k % 2 = 1 := by rw [one_bit, if_pos h]
  have hp := Nat.two_pow_pos k
  have h2 : 2 ^ k ≤ m := by
    apply Nat.le_of_not_lt; intro hlt
    rw [Nat.div_eq_of_lt hlt] at h1; omega
  have h3 : (m - 2 ^ k) / 2 ^ k = m / 2 ^ k - 1 := by
    have := Nat.sub_mul_div m (2 ^ k) 1
    rwa [Nat.mul_one] at this
  have h4 : hs (m - 2 ^ k) k = false := by
    unfold hs; rw [h3, decide_eq_false_iff_not]; omega
  unfold addb; rw [if_neg (by rw [h4]; decide)]; omega
theorem subb_bit (m k j : Nat) : (subb m k).testBit j = (m.testBit j && !decide (k = j)) := by
  unfold subb
  split
  · rename_i h
    have h1 := subb_add m k h
    have hp := Nat.two_pow_pos k
    by_cases e : k = j
    · subst e
      have h3 : (m - 2 ^ k) / 2 ^ k = m / 2 ^ k - 1 := by
        have := Nat.sub_mul_div m (2 ^ k) 1
        rwa [Nat.mul_one] at this
      have h5 : m / 2 ^ k % 2 = 1 := by rw [one_bit, if_pos h]
      rw [← hs_bit]; unfold hs
      rw [h3]; simp; omega
    · have h2 := addb_bit (m - 2 ^ k) k j
      rw [h1] at h2
      rw [h2]; simp [e]
  · rename_i h
    by_cases e : k = j
    · subst e; rw [hs_bit] at h; simp at h; simp [h]
    · simp [e]
theorem subb_le (m k : Nat) : subb m k ≤ m := by
  unfold subb; split
  · exact Nat.sub_le ..
  · exact Nat.le_refl _
theorem andNot_pow (m k : Nat) (hm : m < 65536) (hk : k ≤ 15) : m &&& (65535 - 2 ^ k) = subb m k := by
  refine Nat.eq_of_testBit_eq fun j => ?_
  have hp := pow15 k hk
  rw [subb_bit, Nat.testBit_and, show 65535 - 2 ^ k = 2 ^ 16 - (2 ^ k + 1) by omega, Nat.testBit_two_pow_sub_succ (by omega), Nat.testBit_two_pow]
  by_cases hj : j < 16
  · simp [hj]
  · have : m.testBit j = false := Nat.testBit_lt_two_pow (Nat.lt_of_lt_of_le hm (by
      have := Nat.pow_le_pow_right (show 0 < 2 by omega) (show 16 ≤ j by omega); simpa using this))
    simp [this]
/-! What follows of members. -/
theorem cn_le (m : Nat) : ∀ n, cn m n ≤ n
  | 0 => Nat.le_refl _
  | n + 1 => by have := cn_le m n; rw [cn]; omega
theorem cn_high (m : Nat) : ∀ n, cn m (8 + n) = cn m 8 + cn (m / 256) n
  | 0 => rfl
  | n + 1 => by
    show cn m (8 + n) + m / 2 ^ (8 + n) % 2 = cn m 8 + (cn (m / 256) n + m / 256 / 2 ^ n % 2)
    rw [cn_high m n, Nat.div_div_eq_div_mul, show (256 : Nat) * 2 ^ n = 2 ^ (8 + n) by rw [Nat.pow_add], Nat.add_assoc]
theorem cn_low (m : Nat) : ∀ n, n ≤ 8 → cn (m % 256) n = cn m n
  | 0, _ => rfl
  | n + 1, hn => by
    rw [cn, cn, cn_low m n (by omega), one_bit, one_bit, hs_bit, hs_bit, show (256 : Nat) = 2 ^ 8 by decide, Nat.testBit_mod_two_pow, decide_eq_true (show n < 8 by omega), Bool.true_and]
/-- By halves. -/
theorem cn_halves (m : Nat) : cn m 16 = cn (m / 256) 8 + cn (m % 256) 8 := by
  rw [cn_low m 8 (Nat.le_refl _), show (16 : Nat) = 8 + 8 by decide, cn_high, Nat.add_comm]
end Go.Proofs.YtlgedfljmgedfaaGreat.F8
namespace Go.Proofs.YtlgedfljmgedfaaGreat.F8
open Go Go.RowKit

end Go.Proofs.YtlgedfljmgedfaaGreat.F8
namespace Go.Proofs.YtlgedfljmgedfaaGreat.F8
open Go Go.RowKit
theorem or8 (acc x : Nat) (h : acc < 72057594037927936) (hx : x < 256) : bits .or .u64 ((acc : Int) * 256) (x : Int) = ((acc * 256 + x : Nat) : Int) := by
  have hm : x < 2 ^ 8 := hx
  have e1 : (acc : Int) * 256 = ((acc * 256 : Nat) : Int) := by simp
  rw [e1, u64_or_nat _ _ (by omega) (by omega)]
  have := Nat.two_pow_add_eq_or_of_lt hm acc
  rw [show (2 : Nat) ^ 8 = 256 from rfl, Nat.mul_comm 256 acc] at this
  rw [this]
end Go.Proofs.YtlgedfljmgedfaaGreat.F8
namespace Go.Proofs.YtlgedfljmgedfaaGreat.F8
open Go Go.RowKit

set_option maxRecDepth 100000 in
set_option maxHeartbeats 400000 in
theorem takeFixed_ok (A : Option Addr) (n c B k0 wd : Nat) (bs : List Nat) (w : World) (hr : Row w B A n (bv bs)) (ho : Oct bs) (hn : n ≤ c) (hn2 : n ≤ 1000000000) (hw1 : 1 ≤ wd) (hw2 : wd ≤ 8) (hk : k0 + wd ≤ n) :
    Calls Tryz.prog 151 #[.slice A n c, .int .i64 (k0 : Int), .int .i64 (wd : Int)] w fun r w' => r = .returned (.tuple #[.int .u64 (fxv 0 ((bs.drop k0).take wd) : Nat), .int .i64 ((k0 : Int) + (wd : Int)), .int .i64 0]) ∧ w = w' := by
  obtain ⟨b, o, rfl, hb, hc⟩ := hr.2 (by omega)
  have hl := hr.1
  rw [bv_len] at hl
  have HL := hid hl
  have HC := hid hc
  have HO := hid ho
  have hck : ¬ c = k0 := by omega
  have HW : Hid (widB wd = true) := hid (by simp [widB]; omega)
  clear hr hl hc ho
  go_enter Tryz.func151, Tryz.ntmps151
  go_wp2_with (go_at_call 114; refine (isWidth_any _ _).mono ?_; rintro e w' ⟨rfl, rfl⟩; have hwb := HW.out)
  go_loop [9, 32] (fun a i => ∃ k : Nat, k ≤ wd ∧ i = .int .i64 (k : Int) ∧ a = .int .u64 ((fxv 0 ((bs.drop k0).take k) : Nat) : Int)) (fun _ i => wd - (intOf i).toNat)
  case atStart => exact ⟨0, Nat.zero_le _, rfl, rfl⟩
  case round =>
    obtain ⟨k, hkw, rfl, rfl⟩ := hrel
    by_cases hlt : k < wd
    · have hkn : k0 + k < bs.length := by have := HL.out; omega
      obtain ⟨x, hxx⟩ : ∃ x, x = bs[k0 + k] := ⟨_, rfl⟩
      have hcell : w.cell? ⟨b, o + k0 + k, none⟩ = some (.int .u8 (x : Int)) := by
        rw [Nat.add_assoc]
        refine HC.out (k0 + k) _ ?_
        simp [bv, List.getElem?_eq_getElem hkn, hxx]
      have hx : x < 256 := by rw [hxx]; exact HO.out _ (List.getElem_mem hkn)
      have hdl : k < (bs.drop k0).length := by rw [List.length_drop]; omega
      have HT : Hid ((bs.drop k0).take (k + 1) = (bs.drop k0).take k ++ [x]) := hid (by rw [List.take_succ_eq_append_getElem hdl, List.getElem_drop, hxx])
      have hacc : fxv 0 ((bs.drop k0).take k) < 72057594037927936 := by
        have h1 := fxv_lt ((bs.drop k0).take k) ((HO.out.drop _).take _)
        have h2 : ((bs.drop k0).take k).length ≤ 7 := by rw [List.length_take]; omega
        have h3 := Nat.pow_le_pow_right (show 0 < 256 by omega) h2
        have h4 : (256 : Nat) ^ 7 = 72057594037927936 := by decide
        omega
      have HS : Hid (fxv 0 ((bs.drop k0).take (k + 1)) = fxv 0 ((bs.drop k0).take k) * 256 + x) := hid (by rw [HT.out, fxv_snoc])
      clear hxx HT
      generalize fxv 0 ((bs.drop k0).take k) = acc at HS hacc ⊢
      go_wp2
      go_round
      case rel => exact ⟨k + 1, by omega, by go_num, by rw [HS.out, or8 acc x hacc hx]⟩
      case measure => simp [intOf]; omega
    · obtain rfl : k = wd := by omega
      go_wp2
      go_ret3
      exact ⟨rfl, rfl⟩
/-- A record's bytes. -/
def rcd (kd : Nat) (body : List Nat) : List Nat := kd :: (vary body.length ++ body)

set_option maxHeartbeats 400000 in
/-- Where a record's body begins, and ends, or the error's number: of a text and a place in it, or behind. -/
def bod (bs : List Nat) (k : Nat) : Nat × Nat × Nat :=
  if bs.length ≤ k then (0, 0, 3) else
  let r := tv true 0 (k + 1) (bs.drop (k + 1))
  if r.2.2 ≠ 0 then (0, 0, r.2.2) else if 1048576 < r.1 then (0, 0, 6) else if bs.length - r.2.1 < r.1 then (0, 0, 3) else (r.2.1, r.2.1 + r.1, 0)
end Go.Proofs.YtlgedfljmgedfaaGreat.F8
namespace Go.Proofs.YtlgedfljmgedfaaGreat.F8
open Go Go.RowKit

end Go.Proofs.YtlgedfljmgedfaaGreat.F8
namespace Go.Proofs.YtlgedfljmgedfaaGreat.F8
open Go Go.RowKit

end Go.Proofs.YtlgedfljmgedfaaGreat.F8
