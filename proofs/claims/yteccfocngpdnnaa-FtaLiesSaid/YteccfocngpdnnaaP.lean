/-
  Plain: half of two numbers together by their bits; a list in order, what is left of it, its mean, its greatest and its least; how far apart the means of two nodes are. No condition but what each head says.
-/
import Derived.WalkKit
namespace Go.Proofs.Yteccfocngpdnnaa
open Go
theorem two_bits : ∀ (n X Y : Nat), X < 2 ^ n → Y < 2 ^ n → X + Y = 2 * (X &&& Y) + (X ^^^ Y)
  | 0, X, Y, hX, hY => by
    obtain rfl : X = 0 := by omega
    obtain rfl : Y = 0 := by omega
    rfl
  | n + 1, X, Y, hX, hY => by
    have hp : 2 ^ (n + 1) = 2 * 2 ^ n := by rw [Nat.pow_succ]; omega
    have ih := two_bits n (X / 2) (Y / 2) (by omega) (by omega)
    rw [← Nat.and_div_two, ← Nat.xor_div_two] at ih
    have ha : (X &&& Y) % 2 = (X % 2) &&& (Y % 2) := Nat.and_mod_two_pow (n := 1)
    have hx : (X ^^^ Y) % 2 = (X % 2) ^^^ (Y % 2) := Nat.xor_mod_two_pow (n := 1)
    rcases (show X % 2 = 0 ∨ X % 2 = 1 by omega) with h | h <;> rcases (show Y % 2 = 0 ∨ Y % 2 = 1 by omega) with h' | h' <;> rw [h, h'] at ha hx <;> simp only [Nat.reduceAnd, Nat.reduceXor] at ha hx <;> omega
theorem mid_plain (a b X Y A B x y p q : Int) (a0 : -9223372036854775808 ≤ a) (a1 : a ≤ 9223372036854775807) (b0 : -9223372036854775808 ≤ b) (b1 : b ≤ 9223372036854775807)
    (hX : X = a % 18446744073709551616) (hY : Y = b % 18446744073709551616) (h : X + Y = 2 * A + B) (B0 : 0 ≤ B) (B1 : B < 18446744073709551616)
    (hx : X / 9223372036854775808 = x) (hy : Y / 9223372036854775808 = y) (hp : A / 9223372036854775808 = p) (hq : B / 9223372036854775808 = q)
    (hc : x = 0 ∧ y = 0 ∧ p = 0 ∧ q = 0 ∨ x = 0 ∧ y = 1 ∧ p = 0 ∧ q = 1 ∨ x = 1 ∧ y = 0 ∧ p = 0 ∧ q = 1 ∨ x = 1 ∧ y = 1 ∧ p = 1 ∧ q = 0) :
    ((A + 9223372036854775808) % 18446744073709551616 - 9223372036854775808) + ((B + 9223372036854775808) % 18446744073709551616 - 9223372036854775808) / 2 = (a + b) / 2 := by
  rcases hc with ⟨rfl, rfl, rfl, rfl⟩ | ⟨rfl, rfl, rfl, rfl⟩ | ⟨rfl, rfl, rfl, rfl⟩ | ⟨rfl, rfl, rfl, rfl⟩
  · have e1 : (A + 9223372036854775808) % 18446744073709551616 - 9223372036854775808 = A := by omega
    have e2 : (B + 9223372036854775808) % 18446744073709551616 - 9223372036854775808 = B := by omega
    have e3 : X = a := by omega
    have e4 : Y = b := by omega
    omega
  · have e1 : (A + 9223372036854775808) % 18446744073709551616 - 9223372036854775808 = A := by omega
    have e2 : (B + 9223372036854775808) % 18446744073709551616 - 9223372036854775808 = B - 18446744073709551616 := by omega
    have e3 : X = a := by omega
    have e4 : Y = b + 18446744073709551616 := by omega
    omega
  · have e1 : (A + 9223372036854775808) % 18446744073709551616 - 9223372036854775808 = A := by omega
    have e2 : (B + 9223372036854775808) % 18446744073709551616 - 9223372036854775808 = B - 18446744073709551616 := by omega
    have e3 : X = a + 18446744073709551616 := by omega
    have e4 : Y = b := by omega
    omega
  · have e1 : (A + 9223372036854775808) % 18446744073709551616 - 9223372036854775808 = A - 18446744073709551616 := by omega
    have e2 : (B + 9223372036854775808) % 18446744073709551616 - 9223372036854775808 = B := by omega
    have e3 : X = a + 18446744073709551616 := by omega
    have e4 : Y = b + 18446744073709551616 := by omega
    omega
theorem half_bits (X Y : Nat) (hX : X < 18446744073709551616) (hY : Y < 18446744073709551616) :
    (X &&& Y) < 18446744073709551616 ∧ (X ^^^ Y) < 18446744073709551616 ∧ X + Y = 2 * (X &&& Y) + (X ^^^ Y) ∧
    (X / 9223372036854775808 = 0 ∧ Y / 9223372036854775808 = 0 ∧ (X &&& Y) / 9223372036854775808 = 0 ∧ (X ^^^ Y) / 9223372036854775808 = 0 ∨
     X / 9223372036854775808 = 0 ∧ Y / 9223372036854775808 = 1 ∧ (X &&& Y) / 9223372036854775808 = 0 ∧ (X ^^^ Y) / 9223372036854775808 = 1 ∨
     X / 9223372036854775808 = 1 ∧ Y / 9223372036854775808 = 0 ∧ (X &&& Y) / 9223372036854775808 = 0 ∧ (X ^^^ Y) / 9223372036854775808 = 1 ∨
     X / 9223372036854775808 = 1 ∧ Y / 9223372036854775808 = 1 ∧ (X &&& Y) / 9223372036854775808 = 1 ∧ (X ^^^ Y) / 9223372036854775808 = 0) := by
  have e64 : (2 : Nat) ^ 64 = 18446744073709551616 := by decide
  have e63 : (2 : Nat) ^ 63 = 9223372036854775808 := by decide
  have h1 : (X &&& Y) / 2 ^ 63 = X / 2 ^ 63 &&& Y / 2 ^ 63 := Nat.and_div_two_pow
  have h2 : (X ^^^ Y) / 2 ^ 63 = X / 2 ^ 63 ^^^ Y / 2 ^ 63 := Nat.xor_div_two_pow
  have h3 : (X ^^^ Y) < 2 ^ 64 := Nat.xor_lt_two_pow (by rw [e64]; exact hX) (by rw [e64]; exact hY)
  have h4 := two_bits 64 X Y (by rw [e64]; exact hX) (by rw [e64]; exact hY)
  have h5 : (X &&& Y) ≤ X := Nat.and_le_left
  rw [e63] at h1 h2
  rw [e64] at h3
  refine ⟨by omega, h3, h4, ?_⟩
  rcases (show X / 9223372036854775808 = 0 ∨ X / 9223372036854775808 = 1 by omega) with e | e <;> rcases (show Y / 9223372036854775808 = 0 ∨ Y / 9223372036854775808 = 1 by omega) with e' | e' <;> rw [e, e'] at h1 h2 <;> simp only [Nat.reduceAnd, Nat.reduceXor] at h1 h2
  · exact .inl ⟨e, e', h1, h2⟩
  · exact .inr (.inl ⟨e, e', h1, h2⟩)
  · exact .inr (.inr (.inl ⟨e, e', h1, h2⟩))
  · exact .inr (.inr (.inr ⟨e, e', h1, h2⟩))
theorem nat_of (a : Int) : ((BitVec.ofInt 64 a).toNat : Int) = a % 18446744073709551616 := by
  rw [BitVec.toNat_ofInt]
  have : ((2 ^ 64 : Nat) : Int) = 18446744073709551616 := by decide
  rw [this]
  exact Int.toNat_of_nonneg (Int.emod_nonneg _ (by decide))
theorem nat_lt (a : Int) : (BitVec.ofInt 64 a).toNat < 18446744073709551616 := (BitVec.ofInt 64 a).isLt
theorem mid_eq (a b : Int) (a0 : -9223372036854775808 ≤ a) (a1 : a ≤ 9223372036854775807) (b0 : -9223372036854775808 ≤ b) (b1 : b ≤ 9223372036854775807) :
    bits .and .i64 a b + bits .xor .i64 a b / 2 = (a + b) / 2 := by
  have ea : bits .and .i64 a b = IntKind.i64.wrap (((BitVec.ofInt 64 a).toNat &&& (BitVec.ofInt 64 b).toNat : Nat) : Int) := by simp only [bits, BitVec.toNat_and]; rfl
  have ex : bits .xor .i64 a b = IntKind.i64.wrap (((BitVec.ofInt 64 a).toNat ^^^ (BitVec.ofInt 64 b).toNat : Nat) : Int) := by simp only [bits, BitVec.toNat_xor]; rfl
  obtain ⟨h1, h2, h3, h4⟩ := half_bits _ _ (nat_lt a) (nat_lt b)
  have hX := nat_of a
  have hY := nat_of b
  rw [ea, ex, IntKind.wrap_i64, IntKind.wrap_i64]
  clear ea ex
  generalize (BitVec.ofInt 64 a).toNat &&& (BitVec.ofInt 64 b).toNat = A at *
  generalize (BitVec.ofInt 64 a).toNat ^^^ (BitVec.ofInt 64 b).toNat = B at *
  generalize (BitVec.ofInt 64 a).toNat = X at *
  generalize (BitVec.ofInt 64 b).toNat = Y at *
  exact mid_plain a b X Y A B _ _ _ _ a0 a1 b0 b1 hX hY (by omega) (by omega) (by omega) rfl rfl rfl rfl (by omega)
def srt (l : List Int) : List Int := l.mergeSort fun x y => decide (x ≤ y)
theorem srt_perm (l : List Int) : (srt l).Perm l := List.mergeSort_perm l _
theorem srt_pw (l : List Int) : (srt l).Pairwise (· ≤ ·) := by
  have := List.pairwise_mergeSort (le := fun x y : Int => decide (x ≤ y)) (fun a b c h1 h2 => by simp only [decide_eq_true_eq] at *; omega) (fun a b => by simp; omega) l
  exact this.imp fun h => by simpa using h
theorem srt_len (l : List Int) : (srt l).length = l.length := (srt_perm l).length_eq
theorem srt_of {a b : List Int} (hp : a.Perm b) (hs : a.Pairwise (· ≤ ·)) : a = srt b :=
  List.Perm.eq_of_pairwise (le := fun x y : Int => x ≤ y) (fun x y _ _ h1 h2 => by omega) hs (srt_pw b) (hp.trans (srt_perm b).symm)
theorem srt_same {a b : List Int} (hp : a.Perm b) : srt a = srt b := srt_of ((srt_perm a).trans hp) (srt_pw a)
theorem srt_map (l : List Int) (k : Int) : srt (l.map (· + k)) = (srt l).map (· + k) := by
  symm
  refine srt_of ((srt_perm l).map _) ?_
  rw [List.pairwise_map]
  exact (srt_pw l).imp fun h => by omega
/-- What is left of a list; its mean. -/
def kept (l : List Int) : List Int := if 2 < l.length then ((srt l).take (l.length - 1)).drop 1 else srt l
def avg (l : List Int) : Int := ((kept l).getD 0 0 + (kept l).getD ((kept l).length - 1) 0) / 2
theorem kept_len (l : List Int) : (kept l).length = if 2 < l.length then l.length - 2 else l.length := by
  unfold kept
  split
  · rw [List.length_drop, List.length_take, srt_len]; omega
  · exact srt_len l
theorem kept_mem {l : List Int} {x : Int} (h : x ∈ kept l) : x ∈ l := by
  refine (srt_perm l).mem_iff.1 ?_
  unfold kept at h
  split at h
  · exact List.mem_of_mem_take (List.mem_of_mem_drop h)
  · exact h
theorem kept_map (l : List Int) (k : Int) : kept (l.map (· + k)) = (kept l).map (· + k) := by
  unfold kept
  rw [List.length_map, srt_map]
  split
  · rw [List.map_drop, List.map_take]
  · rfl
theorem kept_same {a b : List Int} (hp : a.Perm b) : kept a = kept b := by unfold kept; rw [srt_same hp, hp.length_eq]
theorem avg_same {a b : List Int} (hp : a.Perm b) : avg a = avg b := by unfold avg; rw [kept_same hp]
theorem kept_pos {l : List Int} (h : l ≠ []) : 0 < (kept l).length := by
  have : 0 < l.length := List.length_pos_iff.2 h
  rw [kept_len]; split <;> omega
theorem getD_map (l : List Int) (k : Int) (i : Nat) (h : i < l.length) : (l.map (· + k)).getD i 0 = l.getD i 0 + k := by
  simp [List.getD, List.getElem?_eq_getElem h]
theorem avg_map {l : List Int} (h : l ≠ []) (k : Int) : avg (l.map (· + k)) = avg l + k := by
  have hp := kept_pos h
  unfold avg
  rw [kept_map, List.length_map, getD_map _ _ _ hp, getD_map _ _ _ (by omega)]
  omega
theorem getD_mem {l : List Int} {i : Nat} (h : i < l.length) : l.getD i 0 ∈ l := by
  simp [List.getD, List.getElem?_eq_getElem h]
theorem avg_within {l : List Int} (h : l ≠ []) {a b : Int} (hb : ∀ x ∈ l, a ≤ x ∧ x ≤ b) : a ≤ avg l ∧ avg l ≤ b := by
  have hp := kept_pos h
  have h1 := hb _ (kept_mem (getD_mem hp))
  have h2 := hb _ (kept_mem (getD_mem (show (kept l).length - 1 < (kept l).length by omega)))
  unfold avg
  omega
theorem avg_zero {l : List Int} (h : ∀ x ∈ l, x = 0) : avg l = 0 := by
  cases l with
  | nil => simp [avg, kept, srt]
  | cons a t =>
    have := avg_within (l := a :: t) (by simp) (a := 0) (b := 0) (fun x hx => by have := h x hx; omega)
    omega
/-- The greatest, and the least. -/
def mx : List Int → Int
  | [] => 0
  | a :: t => t.foldl max a
def mn : List Int → Int
  | [] => 0
  | a :: t => t.foldl min a
theorem mx_snoc {l : List Int} (h : l ≠ []) (a : Int) : mx (l ++ [a]) = max (mx l) a := by
  cases l with
  | nil => exact absurd rfl h
  | cons b t => simp [mx, List.foldl_append]
theorem mn_snoc {l : List Int} (h : l ≠ []) (a : Int) : mn (l ++ [a]) = min (mn l) a := by
  cases l with
  | nil => exact absurd rfl h
  | cons b t => simp [mn, List.foldl_append]
theorem fold_max (t : List Int) : ∀ a, (t.foldl max a = a ∨ t.foldl max a ∈ t) ∧ a ≤ t.foldl max a ∧ ∀ x ∈ t, x ≤ t.foldl max a := by
  induction t with
  | nil => intro a; simp
  | cons b t ih =>
    intro a
    obtain ⟨h1, h2, h3⟩ := ih (max a b)
    simp only [List.foldl_cons, List.mem_cons]
    refine ⟨?_, by omega, fun x hx => ?_⟩
    · rcases h1 with h | h
      · rw [h]; omega
      · exact .inr (.inr h)
    · rcases hx with rfl | hx
      · omega
      · exact h3 x hx
theorem fold_min (t : List Int) : ∀ a, (t.foldl min a = a ∨ t.foldl min a ∈ t) ∧ t.foldl min a ≤ a ∧ ∀ x ∈ t, t.foldl min a ≤ x := by
  induction t with
  | nil => intro a; simp
  | cons b t ih =>
    intro a
    obtain ⟨h1, h2, h3⟩ := ih (min a b)
    simp only [List.foldl_cons, List.mem_cons]
    refine ⟨?_, by omega, fun x hx => ?_⟩
    · rcases h1 with h | h
      · rw [h]; omega
      · exact .inr (.inr h)
    · rcases hx with rfl | hx
      · omega
      · exact h3 x hx
theorem mx_mem {l : List Int} (h : l ≠ []) : mx l ∈ l := by
  cases l with
  | nil => exact absurd rfl h
  | cons b t => rcases (fold_max t b).1 with h | h <;> simp [mx, h]
theorem mn_mem {l : List Int} (h : l ≠ []) : mn l ∈ l := by
  cases l with
  | nil => exact absurd rfl h
  | cons b t => rcases (fold_min t b).1 with h | h <;> simp [mn, h]
theorem le_mx {l : List Int} {x : Int} (h : x ∈ l) : x ≤ mx l := by
  cases l with
  | nil => cases h
  | cons b t =>
    have := fold_max t b
    rcases List.mem_cons.1 h with rfl | h
    · exact this.2.1
    · exact this.2.2 x h
theorem mn_le {l : List Int} {x : Int} (h : x ∈ l) : mn l ≤ x := by
  cases l with
  | nil => cases h
  | cons b t =>
    have := fold_min t b
    rcases List.mem_cons.1 h with rfl | h
    · exact this.2.1
    · exact this.2.2 x h
theorem mx_map {l : List Int} (h : l ≠ []) (k : Int) : mx (l.map (· + k)) = mx l + k := by
  have h1 := mx_mem (l := l.map (· + k)) (by simpa using h)
  obtain ⟨x, hx, e⟩ := List.mem_map.1 h1
  have h2 := le_mx hx
  have h3 := le_mx (List.mem_map.2 ⟨mx l, mx_mem h, rfl⟩ : mx l + k ∈ l.map (· + k))
  omega
theorem mn_map {l : List Int} (h : l ≠ []) (k : Int) : mn (l.map (· + k)) = mn l + k := by
  have h1 := mn_mem (l := l.map (· + k)) (by simpa using h)
  obtain ⟨x, hx, e⟩ := List.mem_map.1 h1
  have h2 := mn_le hx
  have h3 := mn_le (List.mem_map.2 ⟨mn l, mn_mem h, rfl⟩ : mn l + k ∈ l.map (· + k))
  omega
/-- Two of a list in order are such, if the second one is. -/
theorem second {α : Type} (R : α → α → Prop) (p : α → Bool) (hd : ∀ x y, R x y → p y = true → p x = true) (z : α) {s : List α} (hs : s.Pairwise R) (h2 : 2 ≤ s.length) : 2 ≤ s.countP p ↔ p (s.getD 1 z) = true := by
  match s, hs, h2 with
  | a :: b :: t, hs, _ =>
    obtain ⟨ha, hs⟩ := List.pairwise_cons.1 hs
    obtain ⟨hb, hs⟩ := List.pairwise_cons.1 hs
    show _ ↔ p b = true
    rw [List.countP_cons, List.countP_cons]
    constructor
    · intro h
      cases hpb : p b with
      | true => rfl
      | false =>
        have : t.countP p = 0 := List.countP_eq_zero.2 fun y hy hpy => by
          have := hd b y (hb y hy) hpy
          rw [hpb] at this; cases this
        rw [this, hpb] at h
        simp only [Bool.false_eq_true, if_false] at h
        split at h <;> omega
    · intro hpb
      have hpa := hd a b (ha b (List.mem_cons_self ..)) hpb
      rw [hpa, hpb]
      simp
theorem rev_pw {s : List Int} (h : s.Pairwise (· ≤ ·)) : s.reverse.Pairwise (· ≥ ·) := List.pairwise_reverse.2 h
theorem kept_ends {l : List Int} (h : 3 < l.length) : avg l = ((srt l).getD 1 0 + (srt l).reverse.getD 1 0) / 2 := by
  unfold avg
  have hs := srt_len l
  rw [kept_len, if_pos (by omega)]
  unfold kept
  rw [if_pos (by omega)]
  generalize srt l = s at *
  rw [← hs] at h ⊢
  have e1 : ((s.take (s.length - 1)).drop 1).getD 0 0 = s.getD 1 0 := by
    simp only [List.getD, List.getElem?_drop, List.getElem?_take]
    rw [if_pos (by omega)]
  have e2 : ((s.take (s.length - 1)).drop 1).getD (s.length - 2 - 1) 0 = s.reverse.getD 1 0 := by
    simp only [List.getD, List.getElem?_drop, List.getElem?_take]
    rw [if_pos (by omega), List.getElem?_reverse (by omega)]
    congr 2; omega
  rw [e1, e2]
/-- Readings that are off by no more than so much. -/
def Near (off : Int) : List Int → List Int → Prop
  | [], [] => True
  | c :: cs, x :: xs => (c - off ≤ x ∧ x ≤ c + off) ∧ Near off cs xs
  | _, _ => False
theorem Near.snoc {off : Int} {a b : Int} (h : a - off ≤ b ∧ b ≤ a + off) : ∀ {c x : List Int}, Near off c x → Near off (c ++ [a]) (x ++ [b])
  | [], [], _ => ⟨h, trivial⟩
  | _ :: _, _ :: _, hn => ⟨hn.1, Near.snoc h hn.2⟩
theorem Near.len {off : Int} : ∀ {c x : List Int}, Near off c x → x.length = c.length
  | [], [], _ => rfl
  | _ :: _, _ :: _, hn => by simp [hn.2.len]
theorem Near.low {off v : Int} : ∀ {c x : List Int}, Near off c x → c.countP (fun z => decide (z ≤ v)) ≤ x.countP fun z => decide (z ≤ v + off)
  | [], [], _ => Nat.le_refl _
  | a :: c, b :: x, hn => by
    have := hn.2.low (v := v)
    have h1 := hn.1
    rw [List.countP_cons, List.countP_cons]
    by_cases h : a ≤ v
    · rw [if_pos (decide_eq_true h), if_pos (decide_eq_true (show b ≤ v + off by omega))]; omega
    · rw [if_neg (by simpa using h)]; omega
theorem Near.high {off v : Int} : ∀ {c x : List Int}, Near off c x → c.countP (fun z => decide (v ≤ z)) ≤ x.countP fun z => decide (v - off ≤ z)
  | [], [], _ => Nat.le_refl _
  | a :: c, b :: x, hn => by
    have := hn.2.high (v := v)
    have h1 := hn.1
    rw [List.countP_cons, List.countP_cons]
    by_cases h : v ≤ a
    · rw [if_pos (decide_eq_true h), if_pos (decide_eq_true (show v - off ≤ b by omega))]; omega
    · rw [if_neg (by simpa using h)]; omega
theorem Near.mem {off lo hi : Int} : ∀ {c x : List Int}, Near off c x → (∀ z ∈ c, lo ≤ z ∧ z ≤ hi) → ∀ z ∈ x, lo - off ≤ z ∧ z ≤ hi + off
  | [], [], _, _ => fun z hz => by cases hz
  | a :: c, b :: x, hn, hc => fun z hz => by
    rcases List.mem_cons.1 hz with rfl | hz
    · have := hc a (List.mem_cons_self ..); have := hn.1; omega
    · exact hn.2.mem (fun z hz => hc z (List.mem_cons_of_mem _ hz)) z hz
theorem near_sum {off lo hi m lie : Int} {c x : List Int} (hn : Near off c x) (h3 : 3 ≤ c.length) (hc : ∀ z ∈ c, lo ≤ z ∧ z ≤ hi)
    (hm1 : 2 ≤ c.countP fun z => decide (z ≤ m)) (hm2 : 2 ≤ c.countP fun z => decide (m ≤ z)) :
    ∃ u v, avg (x ++ [lie]) = (u + v) / 2 ∧ lo - off ≤ u ∧ u ≤ m + off ∧ m - off ≤ v ∧ v ≤ hi + off := by
  have hl : (x ++ [lie]).length = c.length + 1 := by simp [hn.len]
  have hb := hn.mem hc
  refine ⟨_, _, kept_ends (by omega), ?_⟩
  have hs := srt_pw (x ++ [lie])
  have hr := rev_pw hs
  have hlen := srt_len (x ++ [lie])
  have cp : ∀ p : Int → Bool, (srt (x ++ [lie])).countP p = x.countP p + (if p lie then 1 else 0) := fun p => by
    rw [(srt_perm (x ++ [lie])).countP_eq]; simp [List.countP_append, List.countP_cons]
  have cr : ∀ p : Int → Bool, (srt (x ++ [lie])).reverse.countP p = x.countP p + (if p lie then 1 else 0) := fun p => by
    rw [List.countP_reverse, cp]
  have z1 : x.countP (fun z => decide (z < lo - off)) = 0 := List.countP_eq_zero.2 fun z hz => by have := hb z hz; simp; omega
  have z2 : x.countP (fun z => decide (hi + off < z)) = 0 := List.countP_eq_zero.2 fun z hz => by have := hb z hz; simp; omega
  refine ⟨?_, ?_, ?_, ?_⟩
  · have := second (fun a b : Int => a ≤ b) (fun z => decide (z < lo - off)) (fun a b h1 h2 => by simp only [decide_eq_true_eq] at *; omega) 0 hs (by omega)
    rw [cp, z1] at this
    simp only [decide_eq_true_eq] at this
    by_cases h : (srt (x ++ [lie])).getD 1 0 < lo - off
    · have := this.2 h; split at this <;> omega
    · omega
  · have := second (fun a b : Int => a ≤ b) (fun z => decide (z ≤ m + off)) (fun a b h1 h2 => by simp only [decide_eq_true_eq] at *; omega) 0 hs (by omega)
    have h := this.1 (by rw [cp]; have := hn.low (v := m); omega)
    simpa using h
  · have := second (fun a b : Int => a ≥ b) (fun z => decide (m - off ≤ z)) (fun a b h1 h2 => by simp only [decide_eq_true_eq] at *; omega) 0 hr (by simp; omega)
    have h := this.1 (by rw [cr]; have := hn.high (v := m); omega)
    simpa using h
  · have := second (fun a b : Int => a ≥ b) (fun z => decide (hi + off < z)) (fun a b h1 h2 => by simp only [decide_eq_true_eq] at *; omega) 0 hr (by simp; omega)
    rw [cr, z2] at this
    simp only [decide_eq_true_eq] at this
    by_cases h : hi + off < (srt (x ++ [lie])).reverse.getD 1 0
    · have := this.2 h; split at this <;> omega
    · omega
theorem middle_one {c : List Int} (h : 3 ≤ c.length) : ∃ m, (2 ≤ c.countP fun z => decide (z ≤ m)) ∧ 2 ≤ c.countP fun z => decide (m ≤ z) := by
  have hp := srt_perm c
  have hs := srt_pw c
  have hl := srt_len c
  match e : srt c, hl with
  | a :: b :: d :: t, _ =>
    rw [e] at hs hp
    obtain ⟨ha, hs⟩ := List.pairwise_cons.1 hs
    obtain ⟨hb, hs⟩ := List.pairwise_cons.1 hs
    have h1 := ha b (by simp)
    have h2 := hb d (by simp)
    refine ⟨b, ?_, ?_⟩
    · rw [← hp.countP_eq]; simp [List.countP_cons, h1]
    · rw [← hp.countP_eq]; simp only [List.countP_cons, decide_eq_true_eq]; rw [if_pos (Int.le_refl b), if_pos h2]; omega
  | [], h' => simp at h'; omega
  | [_], h' => simp at h'; omega
  | [_, _], h' => simp at h'; omega
/-- The means of two nodes. -/
theorem means_near {off lie other : Int} {c x y : List Int} (hx : Near off c x) (hy : Near off c y) (h3 : 3 ≤ c.length) :
    avg (x ++ [lie]) - avg (y ++ [other]) ≤ (mx c - mn c) / 2 + 2 * off + 1 ∧ avg (y ++ [other]) - avg (x ++ [lie]) ≤ (mx c - mn c) / 2 + 2 * off + 1 := by
  obtain ⟨m, hm1, hm2⟩ := middle_one h3
  have hc : ∀ z ∈ c, mn c ≤ z ∧ z ≤ mx c := fun z hz => ⟨mn_le hz, le_mx hz⟩
  obtain ⟨u, v, e, h1, h2, h4, h5⟩ := near_sum (lie := lie) hx h3 hc hm1 hm2
  obtain ⟨u', v', e', h1', h2', h4', h5'⟩ := near_sum (lie := other) hy h3 hc hm1 hm2
  rw [e, e']
  omega
end Go.Proofs.Yteccfocngpdnnaa
