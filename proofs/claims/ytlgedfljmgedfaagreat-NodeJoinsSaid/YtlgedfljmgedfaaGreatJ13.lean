/-
  Texts Fc of this seat, as far as they are used.
-/
import Derived.Test.YtlgedfljmgedfaaGreatJ1
import Derived.Test.YtlgedfljmgedfaaGreatJ10
import Derived.Test.YtlgedfljmgedfaaGreatJ12
import Derived.Lib.BitFns
import Derived.Laws.BitsAllLaws
namespace Go.Proofs.YtlgedfljmgedfaaGreat.F8
open Go

/-- The groups k to 1, the highest first, each with 128 more. -/
def grp (n : Nat) : Nat → List Nat
  | 0 => []
  | k + 1 => (n / 128 ^ (k + 1) % 128 + 128) :: grp n k
/-- How many groups a number has, but one. -/
def gn (n : Nat) : Nat := (Lib.bitLen n - 1) / 7
/-- A number that varies. -/
def vary (n : Nat) : List Nat := grp n (gn n) ++ [n % 128]
/-- A fixed number of a width. -/
def fixb (n : Nat) : Nat → List Nat
  | 0 => []
  | k + 1 => (n / 256 ^ k % 256) :: fixb n k
/-- All are bytes. -/
theorem grp_len (n : Nat) : ∀ k, (grp n k).length = k
  | 0 => rfl
  | k + 1 => by simp [grp, grp_len n k]
theorem grp_oct (n : Nat) : ∀ k, Oct (grp n k)
  | 0 => Oct.nil
  | k + 1 => Oct.cons (by have := Nat.mod_lt (n / 128 ^ (k + 1)) (show 0 < 128 by omega); omega) (grp_oct n k)
theorem vary_len (n : Nat) : (vary n).length = gn n + 1 := by simp [vary, grp_len]
theorem vary_oct (n : Nat) : Oct (vary n) := (grp_oct n _).app (Oct.cons (by omega) Oct.nil)
theorem fixb_len (n : Nat) : ∀ k, (fixb n k).length = k
  | 0 => rfl
  | k + 1 => by simp [fixb, fixb_len n k]
theorem fixb_oct (n : Nat) : ∀ k, Oct (fixb n k)
  | 0 => Oct.nil
  | k + 1 => Oct.cons (Nat.mod_lt _ (by omega)) (fixb_oct n k)

theorem bitLen_aux : ∀ (f x : Nat), x < 2 ^ f → x < 2 ^ Lib.bitLenAux f x ∧ (x ≠ 0 → 2 ^ (Lib.bitLenAux f x - 1) ≤ x)
  | 0, x, h => by
    have : x = 0 := by simpa using h
    subst this; simp [Lib.bitLenAux]
  | f + 1, x, h => by
    by_cases h0 : x = 0
    · subst h0; simp [Lib.bitLenAux]
    · have ih := bitLen_aux f (x / 2) (by rw [Nat.pow_succ] at h; omega)
      simp only [Lib.bitLenAux, if_neg h0]
      refine ⟨?_, fun _ => ?_⟩
      · rw [Nat.add_comm, Nat.pow_succ]; omega
      · rw [Nat.add_sub_cancel_left]
        by_cases h1 : x / 2 = 0
        · rw [h1]; cases f <;> simp [Lib.bitLenAux] <;> omega
        · have h2 := ih.2 h1
          have h3 : Lib.bitLenAux f (x / 2) ≠ 0 := by
            intro e; rw [e] at ih; have := ih.1; simp at this; omega
          obtain ⟨m, hm⟩ : ∃ m, Lib.bitLenAux f (x / 2) = m + 1 := ⟨_, (Nat.succ_pred h3).symm⟩
          rw [hm] at h2 ⊢
          rw [Nat.pow_succ]; simp at h2; omega

theorem bitLen_lt (n : Nat) (h : n < 2 ^ 64) : n < 2 ^ Lib.bitLen n := (bitLen_aux 64 n h).1
theorem bitLen_ge (n : Nat) (h : n < 2 ^ 64) (h0 : n ≠ 0) : 2 ^ (Lib.bitLen n - 1) ≤ n := (bitLen_aux 64 n h).2 h0
theorem bitLen_le64 (n : Nat) (h : n < 2 ^ 64) : Lib.bitLen n ≤ 64 := Lib.bitLen_le n 64 (Nat.le_refl _) h
theorem bitLen_57 (n : Nat) (h : n < 2 ^ 64) : 57 < Lib.bitLen n ↔ 144115188075855872 ≤ n := by
  constructor
  · intro hb
    by_cases hn : n < 2 ^ 57
    · have := Lib.bitLen_le n 57 (by omega) hn; omega
    · have : (2 : Nat) ^ 57 = 144115188075855872 := by decide
      omega
  · intro hn
    have h1 := bitLen_lt n h
    apply Nat.lt_of_not_le; intro hb
    have h2 := Nat.pow_le_pow_right (show 0 < 2 by omega) hb
    have : (2 : Nat) ^ 57 = 144115188075855872 := by decide
    omega

theorem pow128 (k : Nat) : 128 ^ k = 2 ^ (7 * k) := by rw [Nat.pow_mul]
theorem gn_lt (n : Nat) (h : n < 2 ^ 64) : n < 128 ^ (gn n + 1) := by
  rw [pow128]
  exact Nat.lt_of_lt_of_le (bitLen_lt n h) (Nat.pow_le_pow_right (by omega) (by unfold gn; omega))
theorem gn_ge (n : Nat) (h : n < 2 ^ 64) (h0 : 0 < gn n) : 128 ^ gn n ≤ n := by
  rw [pow128]
  have hn : n ≠ 0 := by intro e; subst e; revert h0; decide
  exact Nat.le_trans (Nat.pow_le_pow_right (by omega) (by unfold gn; omega)) (bitLen_ge n h hn)
theorem gn_le (n : Nat) (h : n < 2 ^ 64) : gn n ≤ 9 := by
  have := bitLen_le64 n h
  unfold gn; omega
theorem pow_mono128 {i j : Nat} (h : i ≤ j) : 128 ^ i ≤ 128 ^ j := Nat.pow_le_pow_right (by omega) h
theorem gn_eq (n k : Nat) (h : n < 2 ^ 64) (h1 : n < 128 ^ (k + 1)) (h2 : 0 < k → 128 ^ k ≤ n) : gn n = k := by
  apply Nat.le_antisymm
  · apply Nat.le_of_not_lt; intro hlt
    have := gn_ge n h (by omega)
    have := pow_mono128 (show k + 1 ≤ gn n by omega)
    omega
  · apply Nat.le_of_not_lt; intro hlt
    have := gn_lt n h
    have := pow_mono128 (show gn n + 1 ≤ k by omega)
    have := h2 (by omega)
    omega
theorem div_pow_succ (n k : Nat) : n / 128 ^ (k + 1) = n / 128 / 128 ^ k := by
  rw [Nat.div_div_eq_div_mul, Nat.pow_succ, Nat.mul_comm]
theorem div_pow_succ' (n k : Nat) : n / 128 ^ (k + 1) = n / 128 ^ k / 128 := by
  rw [Nat.div_div_eq_div_mul, Nat.pow_succ]
/-- What the bytes from a place on are: the number, the place behind, the error's number. -/
def tv (first : Bool) (acc k : Nat) : List Nat → Nat × Nat × Nat
  | [] => (0, 0, 3)
  | x :: r => if (first = true ∧ x = 128) ∨ 144115188075855872 ≤ acc then (0, 0, 4)
    else if x < 128 then (acc * 128 + x, k + 1, 0) else tv false (acc * 128 + x % 128) (k + 1) r

theorem acc_step (n k : Nat) : n / 128 ^ (k + 1) * 128 + n / 128 ^ k % 128 = n / 128 ^ k := by
  rw [div_pow_succ']; omega
theorem div_lt57 (n k : Nat) (h : n < 2 ^ 64) : n / 128 ^ (k + 1) < 144115188075855872 := by
  rw [div_pow_succ]
  exact Nat.lt_of_le_of_lt (Nat.div_le_self _ _) (by omega)
theorem tv_grp (n : Nat) (h : n < 2 ^ 64) (rest : List Nat) : ∀ (j : Nat) (f : Bool) (k : Nat), (f = true → 0 < j → n / 128 ^ j % 128 ≠ 0) →
    tv f (n / 128 ^ (j + 1)) k (grp n j ++ [n % 128] ++ rest) = (n, k + (j + 1), 0)
  | 0, f, k, _ => by
    have h1 := div_lt57 n 0 h
    have h2 : n % 128 < 128 := Nat.mod_lt _ (by omega)
    simp only [grp, List.nil_append, List.cons_append, tv]
    rw [if_neg (by rintro (⟨_, e⟩ | e) <;> omega), if_pos h2]
    have : n / 128 ^ (0 + 1) * 128 + n % 128 = n := by simp; omega
    rw [this]
  | j + 1, f, k, hf => by
    have h1 := div_lt57 n (j + 1) h
    have h2 : n / 128 ^ (j + 1) % 128 < 128 := Nat.mod_lt _ (by omega)
    simp only [grp, List.cons_append, tv]
    rw [if_neg (by
      rintro (⟨e1, e⟩ | e)
      · exact hf e1 (by omega) (by omega)
      · omega), if_neg (by omega)]
    have e : (n / 128 ^ (j + 1) % 128 + 128) % 128 = n / 128 ^ (j + 1) % 128 := by omega
    rw [e, acc_step, tv_grp n h rest j false (k + 1) (by intro e; cases e)]
    simp; omega
theorem tv_vary (n : Nat) (h : n < 2 ^ 64) (k : Nat) (rest : List Nat) : tv true 0 k (vary n ++ rest) = (n, k + (vary n).length, 0) := by
  have h0 : n / 128 ^ (gn n + 1) = 0 := Nat.div_eq_of_lt (gn_lt n h)
  have := tv_grp n h rest (gn n) true k (fun _ hp => by
    have h1 := gn_ge n h hp
    have h2 := gn_lt n h
    have h3 : n / 128 ^ gn n < 128 := (Nat.div_lt_iff_lt_mul (by exact Nat.pow_pos (by omega))).2 (by rw [Nat.mul_comm, ← Nat.pow_succ]; exact h2)
    have h4 : 0 < n / 128 ^ gn n := Nat.div_pos h1 (Nat.pow_pos (by omega))
    rw [Nat.mod_eq_of_lt h3]; omega)
  rw [h0] at this
  rw [vary_len]
  exact this

/-- What is read of bytes is a number with those bytes. -/
theorem tv_again : ∀ (l : List Nat) (f : Bool) (acc k n p : Nat), Oct l → acc < 2 ^ 64 → tv f acc k l = (n, p, 0) →
    ∃ j, p = k + (j + 1) ∧ j < l.length ∧ n < 2 ^ 64 ∧ acc = n / 128 ^ (j + 1) ∧ l.take (j + 1) = grp n j ++ [n % 128] ∧ (f = true → 0 < j → n / 128 ^ j % 128 ≠ 0)
  | [], f, acc, k, n, p, _, _, h => by simp [tv] at h
  | x :: r, f, acc, k, n, p, ho, ha, h => by
    simp only [tv] at h
    have hx : x < 256 := ho x (List.mem_cons_self ..)
    split at h
    · simp at h
    · rename_i hc
      have hc1 : acc < 144115188075855872 := by apply Nat.lt_of_not_le; intro e; exact hc (Or.inr e)
      have hc2 : f = true → x ≠ 128 := fun e e' => hc (Or.inl ⟨e, e'⟩)
      split at h
      · rename_i hlt
        obtain ⟨rfl, rfl, -⟩ : acc * 128 + x = n ∧ k + 1 = p ∧ True := by simpa using h
        refine ⟨0, rfl, by simp, by omega, by simp; omega, ?_, by omega⟩
        simp [grp]; omega
      · rename_i hge
        obtain ⟨j, rfl, hj, hn, hacc, htake, -⟩ := tv_again r false (acc * 128 + x % 128) (k + 1) n p (fun y hy => ho y (List.mem_cons_of_mem _ hy)) (by omega) h
        have e1 : n / 128 ^ (j + 1) % 128 = x % 128 := by rw [← hacc]; omega
        have e2 : acc = n / 128 ^ (j + 1 + 1) := by rw [div_pow_succ', ← hacc]; omega
        refine ⟨j + 1, by omega, by simp; omega, hn, e2, ?_, fun hf _ => ?_⟩
        · rw [List.take_succ_cons, htake]
          simp only [grp, List.cons_append, e1]
          congr 1; omega
        · have := hc2 hf; rw [e1]; omega
theorem tv_back (l : List Nat) (k n p : Nat) (ho : Oct l) (h : tv true 0 k l = (n, p, 0)) :
    n < 2 ^ 64 ∧ p = k + (vary n).length ∧ (vary n).length ≤ l.length ∧ l.take (vary n).length = vary n := by
  obtain ⟨j, rfl, hj, hn, hacc, htake, hf⟩ := tv_again l true 0 k n p ho (by decide) h
  have hg : gn n = j := by
    refine gn_eq n j hn ?_ (fun hp => ?_)
    · apply Nat.lt_of_not_le; intro hle
      have := Nat.div_pos hle (Nat.pow_pos (by omega)); omega
    · apply Nat.le_of_not_lt; intro hlt
      have := hf rfl hp
      rw [Nat.div_eq_of_lt hlt] at this
      simp at this
  subst hg
  rw [vary_len]
  exact ⟨hn, rfl, by omega, htake⟩
/-- The order of bytes, octet by octet. -/
def less : List Nat → List Nat → Bool
  | _, [] => false
  | [], _ :: _ => true
  | a :: x, b :: y => decide (a < b) || (decide (a = b) && less x y)

def fxv (a : Nat) (l : List Nat) : Nat := l.foldl (fun n x => n * 256 + x) a
theorem fxv_lt (l : List Nat) (ho : Oct l) : fxv 0 l < 256 ^ l.length := by
  have : ∀ (l : List Nat) (a : Nat), Oct l → fxv a l < (a + 1) * 256 ^ l.length := by
    intro l
    induction l with
    | nil => intro a _; simp [fxv]
    | cons x l ih =>
      intro a ho
      have h1 := ih (a * 256 + x) (fun y hy => ho y (List.mem_cons_of_mem _ hy))
      have h2 := ho x (List.mem_cons_self ..)
      have h3 : (a * 256 + x + 1) * 256 ^ l.length ≤ (a + 1) * 256 * 256 ^ l.length := Nat.mul_le_mul_right _ (by omega)
      simp only [fxv, List.foldl_cons, List.length_cons, Nat.pow_succ] at h1 ⊢
      rw [Nat.mul_comm (256 ^ l.length) 256, ← Nat.mul_assoc]
      omega
  simpa using this l 0 ho
theorem fxv_snoc (l : List Nat) (x : Nat) : fxv 0 (l ++ [x]) = fxv 0 l * 256 + x := by simp [fxv]
theorem fxv_fixb (x : Nat) : ∀ (k a : Nat), a = x / 256 ^ k → fxv a (fixb x k) = x
  | 0, a, h => by simp [fixb, fxv, h]
  | k + 1, a, h => by
    simp only [fixb, fxv, List.foldl_cons]
    refine fxv_fixb x k _ ?_
    rw [h, Nat.pow_succ, ← Nat.div_div_eq_div_mul]
    omega
end Go.Proofs.YtlgedfljmgedfaaGreat.F8
namespace Go.Proofs.YtlgedfljmgedfaaGreat.F8
open Go Go.RowKit

set_option maxHeartbeats 400000 in
theorem copied_any (A : Option Addr) (n c B r : Nat) (vs : List Value) (w : World) (ha : Row w B A n vs) (h1 : ∀ u ∈ vs, u.oneCell' = true) (hn : n + r ≤ 10000000) (hB : B ≤ w.heap.size) :
    Calls Tryz.prog 112 #[.slice A n c, .int .i64 (r : Int)] w (RetB w.heap.size vs w) := by
  obtain ⟨i, hi0, hi1, hi2, hi3⟩ := info_parts info5
  have HA := hid ha
  have H1 := hid h1
  clear ha h1
  go_enter Tryz.func112, Tryz.ntmps112
  go_wp2_with (first
    | (refine wpList_make_own _ rfl (.const (.int .i64 0)) (.tmp 8) 33 rfl w.heap.size 5 i (.int .u8 0) 1 Tryz.underlying33 hi0 hi1 hi2 .i64 .i64 ((n : Int) + (r : Int)) (n + r) rfl rfl (by omega) (by rw [hi3]; omega) (by unfold maxLen; omega) (Nat.le_refl _) ?_
       intro w1 own1 gr1)
    | (at_builtin
       refine wpList_app _ rfl (.tmp 9) (.tmp 10) 33 rfl w.heap.size 5 (.int .u8 0) 1 Tryz.underlying33 info5 rfl _ 0 _ [] rfl own1 B A n c vs rfl ((HA.out).keep (fun p hp => World.cell?_of_block (gr1.block p.block (by omega) (by simp)))) H1.out (by omega) (by omega) gr1.size ?_
       intro A1 c1 w2 own2 bel2))
  go_ret
  exact ⟨A1, _, c1, rfl, by simpa using own2, ((Below.refl _ _).grown gr1 (Nat.le_refl _) (by simp)).trans bel2⟩
end Go.Proofs.YtlgedfljmgedfaaGreat.F8
namespace Go.Proofs.YtlgedfljmgedfaaGreat.F8
open Go Go.RowKit

theorem len64_any (x : Nat) (w : World) (hx : x < 18446744073709551616) : Calls Tryz.prog 145 #[.int .u64 (x : Int)] w fun e w' => e = .returned (.int .i64 (Lib.bitLen x : Nat)) ∧ w = w' :=
  (Tryz.bits_Len64 (x : Int) w (by omega) (by omega)).mono fun e w' ⟨he, hw⟩ => ⟨by rw [he]; simp, hw.symm⟩

def AddRel (base : Nat) (bs : List Nat) (x : Nat) (w : World) (l i : Value) (wr : World) : Prop :=
  ∃ (k n c : Nat) (A : Option Addr) (ds : List Nat), k ≤ gn x ∧ i = .int .i64 (k : Int) ∧ l = .slice A n c ∧ ds ++ grp x k = grp x (gn x) ∧ Own wr base 5 A n c (bv (bs ++ ds)) ∧ Below base w wr

theorem or128_u8 : ∀ v : Fin 256, bits .or .u8 (v.val : Int) 128 = ((v.val % 128 + 128 : Nat) : Int) := by decide +kernel
theorem or128 (x k : Nat) : bits .or .u8 ((x : Int) / 2 ^ (7 * k) % 256) 128 = ((x / 128 ^ k % 128 + 128 : Nat) : Int) := by
  have e : (x : Int) / 2 ^ (7 * k) % 256 = ((x / 128 ^ k % 256 : Nat) : Int) := by rw [pow128]; simp
  rw [e, or128_u8 ⟨x / 128 ^ k % 256, Nat.mod_lt _ (by omega)⟩]
  congr 1
  show x / 128 ^ k % 256 % 128 + 128 = _
  omega
theorem gstart (L : Nat) : ((L : Int) - 1).tdiv 7 = (((L - 1) / 7 : Nat) : Int) := by
  cases L with
  | zero => rfl
  | succ m => rw [Int.tdiv_eq_ediv_of_nonneg (by omega)]; omega

set_option maxHeartbeats 400000 in
theorem addVary_any (A : Option Addr) (n c base : Nat) (bs : List Nat) (x : Nat) (w : World) (ho : Own w base 5 A n c (bv bs)) (hx : x < 18446744073709551616) (hn : n ≤ 10000000) (hbase : base ≤ w.heap.size) :
    Calls Tryz.prog 113 #[.slice A n c, .int .u64 (x : Int)] w (RetB base (bv (bs ++ vary x)) w) := by
  have HO := hid ho
  have hL : Lib.bitLen x ≤ 64 := bitLen_le64 x hx
  have HG : Hid (gn x = (Lib.bitLen x - 1) / 7) := hid rfl
  have hlen := ho.len
  clear ho
  have HL := hid hlen
  clear hlen
  go_enter Tryz.func113, Tryz.ntmps113
  go_wp2_with (go_at_call 145; refine (len64_any _ _ hx).mono ?_; rintro e w' ⟨rfl, rfl⟩)
  generalize Lib.bitLen x = L at *
  go_loopw [0, 5] (AddRel base bs x w) (fun _ i _ => (intOf i).toNat)
  case atStart => exact ⟨gn x, n, c, A, [], Nat.le_refl _, by rw [HG.out, gstart], rfl, rfl, by simpa using HO.out, Below.refl _ _⟩
  case round =>
    obtain ⟨k, n', c', A', ds, hk, rfl, rfl, hd, hown, hbel⟩ := hrel
    have hg9 : gn x ≤ 9 := gn_le x hx
    have hnl := hown.len
    have hdl := congrArg List.length hd
    simp only [bv_len, List.length_append, grp_len] at hnl hdl
    have hn' : n' ≤ 10000009 := by have := HL.out; rw [bv_len] at this; omega
    have HNL := hid hnl
    clear hnl hdl
    have HD := hid hd
    have HOW := hid hown
    have HB := hid hbel
    clear hd hown hbel HO HL HG
    cases k with
    | zero =>
      go_wp2_with (at_builtin; refine wpList_app _ rfl (.tmp 23) (.tmp 27) 33 rfl base 5 (.int .u8 0) 1 Tryz.underlying33 info5 rfl A' n' c' _ rfl (HOW.out.alloc _) (wr.heap.size + 1) _ 1 1 [_] rfl (Row.laid wr 5 [_]) (by intro u hu; simp at hu; subst hu; rfl) (by omega) (by omega) (by have := HB.out.size; simp; omega) ?_; intro A2 c2 w2 own2 bel2)
      go_ret
      refine ⟨A2, _, c2, rfl, ?_, (HB.out.alloc (Nat.le_trans hbase HB.out.size) _).trans bel2⟩
      have e : bv (bs ++ vary x) = bv (bs ++ ds) ++ [.int .u8 ((x : Int) % 128)] := by
        have := HD.out
        simp only [grp, List.append_nil] at this
        unfold vary
        rw [this, ← List.append_assoc, bv_app]
        simp [bv]
      rw [e]; exact own2
    | succ j =>
      go_wp2_with (at_builtin; refine wpList_app _ rfl (.tmp 14) (.tmp 21) 33 rfl base 5 (.int .u8 0) 1 Tryz.underlying33 info5 rfl A' n' c' _ rfl (HOW.out.alloc _) (wr.heap.size + 1) _ 1 1 [_] rfl (Row.laid wr 5 [_]) (by intro u hu; simp at hu; subst hu; rfl) (by omega) (by omega) (by have := HB.out.size; simp; omega) ?_; intro A2 c2 w2 own2 bel2)
      rw [or128 x (j + 1)] at own2 bel2
      refine ⟨⟨j, n' + 1, c2, A2, ds ++ [x / 128 ^ (j + 1) % 128 + 128], by omega, rfl, rfl, ?_, ?_, (HB.out.alloc (Nat.le_trans hbase HB.out.size) _).trans bel2⟩, by simp [intOf]⟩
      · rw [← HD.out]; simp [grp]
      · rw [← List.append_assoc, bv_app]; exact own2

def varies (ns : List Nat) : List Nat := (ns.map vary).flatten
theorem varies_snoc (ns : List Nat) (x : Nat) : varies (ns ++ [x]) = varies ns ++ vary x := by simp [varies]
theorem varies_len (ns : List Nat) (h : ∀ x ∈ ns, x < 18446744073709551616) : (varies ns).length ≤ 10 * ns.length := by
  induction ns with
  | nil => simp [varies]
  | cons x ns ih =>
    have h1 := ih (fun y hy => h y (List.mem_cons_of_mem _ hy))
    have h2 := gn_le x (h x (List.mem_cons_self ..))
    simp only [varies, List.map_cons, List.flatten_cons, List.length_append, List.length_cons] at h1 ⊢
    rw [vary_len]; omega

def VaryRel (base : Nat) (bs ns : List Nat) (w : World) (l i : Value) (wr : World) : Prop :=
  ∃ (k n c : Nat) (A : Option Addr), k ≤ ns.length ∧ i = .int .i64 (k : Int) ∧ l = .slice A n c ∧ Own wr base 5 A n c (bv (bs ++ varies (ns.take k))) ∧ Below base w wr

set_option maxHeartbeats 400000 in
theorem vary_any (A A2 : Option Addr) (n c m c2 B B2 : Nat) (bs ns : List Nat) (w : World) (hb : Row w B A n (bv bs)) (hB : B ≤ w.heap.size) (hns : Row w B2 A2 m (uv ns)) (hB2 : B2 ≤ w.heap.size) (hx : ∀ x ∈ ns, x < 18446744073709551616)
    (hn : n ≤ 1000000) (hm : m ≤ 10000) : Calls Tryz.prog 62 #[.slice A n c, .slice A2 m c2] w (RetB w.heap.size (bv (bs ++ varies ns)) w) := by
  have HB := hid hb
  have HN := hid hns
  have HX := hid hx
  have hml := hns.1
  have hnl := hb.1
  rw [uv_len] at hml
  rw [bv_len] at hnl
  have HM := hid hml
  have HNL := hid hnl
  clear hb hns hx hml hnl
  go_enter Tryz.func62, Tryz.ntmps62
  go_wp2_with (go_at_call 112; refine (copied_any A n c B m (bv bs) _ HB.out (bv_one bs) (by omega) hB).mono ?_; rintro e w1 ⟨A1, n1, c1, rfl, own1, bel1⟩)
  go_loopw [5, 14] (VaryRel w.heap.size bs ns w) (fun _ i _ => m - (intOf i).toNat)
  case atStart => exact ⟨0, n1, c1, A1, Nat.zero_le _, rfl, rfl, by simpa [varies] using own1, bel1⟩
  case round =>
    obtain ⟨k, n', c', A', hk, rfl, rfl, hown, hbel⟩ := hrel
    have hkm : k ≤ m := by have := HM.out; omega
    have hln : n' ≤ 1100000 := by
      have h1 := hown.len
      have h2 := varies_len (ns.take k) (fun x hx => HX.out x (List.mem_of_mem_take hx))
      have h3 : (ns.take k).length ≤ k := by simp; omega
      have := HNL.out
      rw [bv_len, List.length_append] at h1
      omega
    have HO := hid hown
    have HBL := hid hbel
    clear hown hbel own1 bel1
    by_cases hlt : k < m
    · obtain ⟨b, o, u, rfl, hbb, hu, hcell⟩ := (HN.out.below (HBL.out.mono hB2)).at_ hlt
      have hkn : k < ns.length := by have := HM.out; omega
      obtain ⟨x, hxx⟩ : ∃ x, x = ns[k] := ⟨_, rfl⟩
      have hu' : u = .int .u64 (x : Int) := by
        simp only [uv, List.getElem?_map, List.getElem?_eq_getElem hkn] at hu
        rw [hxx]; simpa using hu.symm
      subst hu'
      have hx64 : x < 18446744073709551616 := by rw [hxx]; exact HX.out _ (List.getElem_mem hkn)
      have HT : Hid (ns.take (k + 1) = ns.take k ++ [x]) := hid (by rw [hxx]; exact List.take_succ_eq_append_getElem hkn)
      have HXX := hid hxx
      clear hxx hu
      go_wp2_with (go_at_call 113; refine (addVary_any A' n' c' w.heap.size _ x _ HO.out hx64 (by omega) HBL.out.size).mono ?_; rintro e w2 ⟨A3, n3, c3, rfl, own3, bel3⟩)
      go_roundw
      case rel => exact ⟨k + 1, n3, c3, A3, by omega, by go_num, rfl, by rw [HT.out, varies_snoc, ← List.append_assoc]; exact own3, HBL.out.trans bel3⟩
      case measure => simp [intOf]; omega
    · go_wp2
      go_ret
      refine ⟨A', n', c', rfl, ?_, HBL.out⟩
      have := HO.out
      rwa [List.take_of_length_le (by have := HM.out; omega)] at this
end Go.Proofs.YtlgedfljmgedfaaGreat.F8
namespace Go.Proofs.YtlgedfljmgedfaaGreat.F8
open Go Go.RowKit

def widB (x : Int) : Bool := decide (1 ≤ x ∧ x ≤ 8)
theorem isWidth_any (x : Int) (w : World) : Calls Tryz.prog 114 #[.int .i64 x] w fun e w' => e = .returned (.bool (widB x)) ∧ w = w' := by
  by_cases h : 1 ≤ x
  · go_enter Tryz.func114, Tryz.ntmps114
    go_wp2
    all_goals (go_ret; exact ⟨ret_bool (by simp [widB, h]), rfl⟩)
  · go_enter Tryz.func114, Tryz.ntmps114
    go_wp2
    all_goals (go_ret; exact ⟨ret_bool (by simp [widB]; omega), rfl⟩)

theorem pow256 (k : Nat) : 256 ^ k = 2 ^ (8 * k) := by rw [Nat.pow_mul]
theorem shr8 (x k : Nat) : (x : Int) / 2 ^ (8 * k) = ((x / 256 ^ k : Nat) : Int) := by rw [pow256]; simp

def RetBE (base : Nat) (vs : List Value) (w : World) (e : Ending) (w' : World) : Prop := ∃ A n c, e = .returned (.tuple #[.slice A n c, .int .i64 0]) ∧ Own w' base 5 A n c vs ∧ Below base w w'

def FixRel (base : Nat) (bs : List Nat) (x wd : Nat) (w : World) (l i : Value) (wr : World) : Prop :=
  ∃ (k n c : Nat) (A : Option Addr) (ds : List Nat), k ≤ wd ∧ i = .int .i64 ((k : Int) - 1) ∧ l = .slice A n c ∧ ds ++ fixb x k = fixb x wd ∧ Own wr base 5 A n c (bv (bs ++ ds)) ∧ Below base w wr

set_option maxHeartbeats 400000 in
theorem fixed_ok (A : Option Addr) (n c B wd x : Nat) (bs : List Nat) (w : World) (hr : Row w B A n (bv bs)) (hB : B ≤ w.heap.size) (hn : n ≤ 1000000) (hw1 : 1 ≤ wd) (hw2 : wd ≤ 8) (hx : x < 256 ^ wd) :
    Calls Tryz.prog 63 #[.slice A n c, .int .i64 (wd : Int), .int .u64 (x : Int)] w (RetBE w.heap.size (bv (bs ++ fixb x wd)) w) := by
  have HR := hid hr
  have hnl := hr.1
  rw [bv_len] at hnl
  have HNL := hid hnl
  have hne : ((x : Int) / 2 ^ (8 * wd) != 0) = false := by
    rw [shr8, Nat.div_eq_of_lt hx]; rfl
  have HB : Hid (widB wd = true) := hid (by simp [widB]; omega)
  clear hr hnl hx
  go_enter Tryz.func63, Tryz.ntmps63
  go_wp2_with (first
    | (go_at_call 114; refine (isWidth_any _ _).mono ?_; rintro e w' ⟨rfl, rfl⟩; have hb := HB.out)
    | (go_at_call 112; refine (copied_any A n c B wd (bv bs) _ HR.out (bv_one bs) (by omega) hB).mono ?_; rintro e w1 ⟨A1, n1, c1, rfl, own1, bel1⟩))
  clear hne hb
  go_loopw [8, 9] (FixRel w.heap.size bs x wd w) (fun _ i _ => (intOf i + 1).toNat)
  case atStart => exact ⟨wd, n1, c1, A1, [], Nat.le_refl _, rfl, rfl, rfl, by simpa using own1, bel1⟩
  case round =>
    obtain ⟨k, n', c', A', ds, hk, rfl, rfl, hd, hown, hbel⟩ := hrel
    have hnl' := hown.len
    have hdl := congrArg List.length hd
    simp only [bv_len, List.length_append, fixb_len] at hnl' hdl
    have hn' : n' ≤ 1000008 := by have := HNL.out; omega
    have HD := hid hd
    have HOW := hid hown
    have HBL := hid hbel
    clear hd hown hbel hnl' hdl own1 bel1
    cases k with
    | zero =>
      go_wp2
      go_ret2
      refine ⟨A', n', c', rfl, ?_, HBL.out⟩
      have h1 := HD.out
      simp only [fixb, List.append_nil] at h1
      rw [← h1]; exact HOW.out
    | succ j =>
      have e1 : (((j + 1 : Nat) : Int) - 1) = (j : Int) := by omega
      rw [e1]
      clear e1
      go_wp2_with (at_builtin; refine wpList_app _ rfl (.tmp 29) (.tmp 35) 33 rfl w.heap.size 5 (.int .u8 0) 1 Tryz.underlying33 info5 rfl A' n' c' _ rfl (HOW.out.alloc _) (wr.heap.size + 1) _ 1 1 [_] rfl (Row.laid wr 5 [_]) (by intro u hu; simp at hu; subst hu; rfl) (by omega) (by omega) (by have := HBL.out.size; simp; omega) ?_; intro A2 c2 w2 own2 bel2)
      have e2 : (x : Int) / 2 ^ (8 * j) % 256 = ((x / 256 ^ j % 256 : Nat) : Int) := by rw [shr8]; simp
      rw [e2] at own2 bel2
      refine ⟨⟨j, n' + 1, c2, A2, ds ++ [x / 256 ^ j % 256], by omega, by rfl, rfl, ?_, ?_, (HBL.out.alloc HBL.out.size _).trans bel2⟩, by simp [intOf]⟩
      · rw [← HD.out]; simp [fixb]
      · rw [← List.append_assoc, bv_app]; exact own2

def TvRel (bs : List Nat) (k0 : Nat) (R : Nat × Nat × Nat) (a i : Value) : Prop :=
  ∃ k acc : Nat, k0 ≤ k ∧ i = .int .i64 (k : Int) ∧ a = .int .u64 (acc : Int) ∧ acc < 18446744073709551616 ∧ tv (decide (k = k0)) acc k (bs.drop k) = R

/-- A number, a place, and an error's number. -/
def tri (k : IntKind) (r : Nat × Nat × Nat) : Ending := .returned (.tuple #[.int k (r.1 : Int), .int .i64 (r.2.1 : Int), .int .i64 (r.2.2 : Int)])

theorem or7 (acc x : Nat) (h : acc < 144115188075855872) : bits .or .u64 ((acc : Int) * 128) ((x : Int) % 128) = ((acc * 128 + x % 128 : Nat) : Int) := by
  have hm : x % 128 < 2 ^ 7 := Nat.mod_lt _ (by omega)
  have e1 : (acc : Int) * 128 = ((acc * 128 : Nat) : Int) := by simp
  have e2 : (x : Int) % 128 = ((x % 128 : Nat) : Int) := by simp
  rw [e1, e2, u64_or_nat _ _ (by omega) (by omega)]
  have := Nat.two_pow_add_eq_or_of_lt hm acc
  rw [show (2 : Nat) ^ 7 = 128 from rfl, Nat.mul_comm 128 acc] at this
  rw [this]

set_option maxRecDepth 100000 in
set_option maxHeartbeats 1000000 in
theorem takeVary_R (A : Option Addr) (n c B k0 : Nat) (bs : List Nat) (R : Nat × Nat × Nat) (w : World) (hr : Row w B A n (bv bs)) (ho : Oct bs) (hn : n ≤ 9000000000000000000) (hR : tv true 0 k0 (bs.drop k0) = R) :
    Calls Tryz.prog 120 #[.slice A n c, .int .i64 (k0 : Int)] w fun e w' => e = tri .u64 R ∧ w = w' := by
  have HR := hid hr
  have HO := hid ho
  have hnl := hr.1
  rw [bv_len] at hnl
  have HNL := hid hnl
  have HRR := hid hR
  clear hr ho hnl hR
  go_enter Tryz.func120, Tryz.ntmps120
  go_wp2
  go_loop [7, 8] (TvRel bs k0 R) (fun _ i => n - (intOf i).toNat)
  case atStart => exact ⟨k0, 0, Nat.le_refl _, rfl, rfl, by decide, by simpa using HRR.out⟩
  case round =>
    obtain ⟨k, acc, hk, rfl, rfl, hacc, hrec⟩ := hrel
    have HREC := hid hrec
    clear hrec HRR
    by_cases hlt : k < n
    · obtain ⟨b, o, u, rfl, hbb, hu, hcell⟩ := HR.out.at_ hlt
      have hkn : k < bs.length := by have := HNL.out; omega
      obtain ⟨x, hxx⟩ : ∃ x, x = bs[k] := ⟨_, rfl⟩
      have hu' : u = .int .u8 (x : Int) := by
        simp only [bv, List.getElem?_map, List.getElem?_eq_getElem hkn] at hu
        rw [hxx]; simpa using hu.symm
      subst hu'
      have hx : x < 256 := by rw [hxx]; exact HO.out _ (List.getElem_mem hkn)
      have HT : Hid (bs.drop k = x :: bs.drop (k + 1)) := hid (by rw [hxx]; exact List.drop_eq_getElem_cons hkn)
      clear hxx hu
      have hL64 := bitLen_le64 acc hacc
      have H57 := hid (bitLen_57 acc hacc)
      have HSTEP : Hid (tv (decide (k = k0)) acc k (x :: bs.drop (k + 1)) = R) := hid (by rw [← HT.out]; exact HREC.out)
      clear HREC HT
      by_cases hkx : k = k0 ∧ x = 128
      · have HF : Hid ((0, 0, 4) = R) := hid (by rw [← HSTEP.out]; simp only [tv]; rw [if_pos (.inl ⟨by simp [hkx.1], hkx.2⟩)])
        have hkb : ((k : Int) == (k0 : Int)) = true := by rw [hkx.1]; simp
        have hxb : ((x : Int) == 128) = true := by rw [hkx.2]; rfl
        clear hkx HSTEP H57
        go_wp2
        go_ret3
        exact ⟨by rw [← HF.out]; rfl, rfl⟩
      · by_cases hbig : 144115188075855872 ≤ acc
        · have HF : Hid ((0, 0, 4) = R) := hid (by rw [← HSTEP.out]; simp only [tv]; rw [if_pos (.inr hbig)])
          have hL : 57 < Lib.bitLen acc := H57.out.2 hbig
          by_cases hkk : k = k0
          · have hkb : ((k : Int) == (k0 : Int)) = true := by rw [hkk]; simp
            have hxb : ((x : Int) == 128) = false := by rw [beq_eq_false_iff_ne]; intro e; exact hkx ⟨hkk, by omega⟩
            clear hkx HSTEP H57 hbig hkk
            go_wp2_with (go_at_call 145; refine (len64_any _ _ hacc).mono ?_; rintro e w' ⟨rfl, rfl⟩; generalize Lib.bitLen acc = L at hL hL64)
            go_ret3
            exact ⟨by rw [← HF.out]; rfl, rfl⟩
          · have hkb : ((k : Int) == (k0 : Int)) = false := by rw [beq_eq_false_iff_ne]; omega
            clear hkx HSTEP H57 hbig hkk
            go_wp2_with (go_at_call 145; refine (len64_any _ _ hacc).mono ?_; rintro e w' ⟨rfl, rfl⟩; generalize Lib.bitLen acc = L at hL hL64)
            go_ret3
            exact ⟨by rw [← HF.out]; rfl, rfl⟩
        · have hL : Lib.bitLen acc ≤ 57 := by apply Nat.le_of_not_lt; intro e; exact hbig (H57.out.1 e)
          have HC : Hid (¬ ((decide (k = k0) = true ∧ x = 128) ∨ 144115188075855872 ≤ acc)) := hid (by simp only [decide_eq_true_eq]; rintro (e | e); exact hkx e; exact hbig e)
          have hsm : acc < 144115188075855872 := by omega
          by_cases hx8 : x < 128
          · have HF : Hid ((acc * 128 + x, k + 1, 0) = R) := hid (by rw [← HSTEP.out]; simp only [tv]; rw [if_neg HC.out, if_pos hx8])
            by_cases hkk : k = k0
            · have hkb : ((k : Int) == (k0 : Int)) = true := by rw [hkk]; simp
              have hxb : ((x : Int) == 128) = false := by rw [beq_eq_false_iff_ne]; intro e; exact hkx ⟨hkk, by omega⟩
              clear hkx H57 hbig hkk HC HSTEP
              go_wp2_with (go_at_call 145; refine (len64_any _ _ hacc).mono ?_; rintro e w' ⟨rfl, rfl⟩; generalize Lib.bitLen acc = L at hL hL64)
              go_ret3
              refine ⟨?_, rfl⟩
              rw [← HF.out]
              show Ending.returned (.tuple #[.int .u64 (bits .or .u64 ((acc : Int) * 128) ((x : Int) % 128)), .int .i64 ((k : Int) + 1), .int .i64 0]) = _
              rw [or7 acc x hsm, Nat.mod_eq_of_lt hx8]
              rfl
            · have hkb : ((k : Int) == (k0 : Int)) = false := by rw [beq_eq_false_iff_ne]; omega
              clear hkx H57 hbig hkk HC HSTEP
              go_wp2_with (go_at_call 145; refine (len64_any _ _ hacc).mono ?_; rintro e w' ⟨rfl, rfl⟩; generalize Lib.bitLen acc = L at hL hL64)
              go_ret3
              refine ⟨?_, rfl⟩
              rw [← HF.out]
              show Ending.returned (.tuple #[.int .u64 (bits .or .u64 ((acc : Int) * 128) ((x : Int) % 128)), .int .i64 ((k : Int) + 1), .int .i64 0]) = _
              rw [or7 acc x hsm, Nat.mod_eq_of_lt hx8]
              rfl
          · have HF : Hid (tv (decide (k + 1 = k0)) (acc * 128 + x % 128) (k + 1) (bs.drop (k + 1)) = R) := hid (by rw [← HSTEP.out]; simp only [tv]; rw [if_neg HC.out, if_neg hx8, decide_eq_false (by omega : ¬ k + 1 = k0)])
            by_cases hkk : k = k0
            · have hkb : ((k : Int) == (k0 : Int)) = true := by rw [hkk]; simp
              have hxb : ((x : Int) == 128) = false := by rw [beq_eq_false_iff_ne]; intro e; exact hkx ⟨hkk, by omega⟩
              clear hkx H57 hbig hkk HC HSTEP
              go_wp2_with (go_at_call 145; refine (len64_any _ _ hacc).mono ?_; rintro e w' ⟨rfl, rfl⟩; generalize Lib.bitLen acc = L at hL hL64)
              go_round
              case rel => exact ⟨k + 1, acc * 128 + x % 128, by omega, by go_num, by rw [or7 acc x hsm], by omega, HF.out⟩
              case measure => simp [intOf]; omega
            · have hkb : ((k : Int) == (k0 : Int)) = false := by rw [beq_eq_false_iff_ne]; omega
              clear hkx H57 hbig hkk HC HSTEP
              go_wp2_with (go_at_call 145; refine (len64_any _ _ hacc).mono ?_; rintro e w' ⟨rfl, rfl⟩; generalize Lib.bitLen acc = L at hL hL64)
              go_round
              case rel => exact ⟨k + 1, acc * 128 + x % 128, by omega, by go_num, by rw [or7 acc x hsm], by omega, HF.out⟩
              case measure => simp [intOf]; omega
    · have HN : Hid (tv (decide (k = k0)) acc k [] = R) := hid (by have h1 : bs.drop k = [] := List.drop_eq_nil_of_le (by have := HNL.out; omega); rw [← h1]; exact HREC.out)
      go_wp2
      go_ret3
      exact ⟨by rw [← HN.out]; rfl, rfl⟩

theorem takeVary_any (A : Option Addr) (n c B k0 : Nat) (bs : List Nat) (w : World) (hr : Row w B A n (bv bs)) (ho : Oct bs) (hn : n ≤ 9000000000000000000) :
    Calls Tryz.prog 120 #[.slice A n c, .int .i64 (k0 : Int)] w fun e w' => e = tri .u64 (tv true 0 k0 (bs.drop k0)) ∧ w = w' :=
  takeVary_R A n c B k0 bs _ w hr ho hn rfl

end Go.Proofs.YtlgedfljmgedfaaGreat.F8
