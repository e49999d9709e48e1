/-
  Plain words of the lexer, without the model's runs: a rune of a list of bytes, a piece, a number's and a piece's token, what a text is cut into, and a byte's place; and what follows of them alone. No condition.
-/
import GoSem.Core.Utf8
import Derived.Lib.DecodeN
namespace Go.Proofs.YtinjhnflnfpoeaaGreatDoor
open Go

def gb (l : List UInt8) (k : Nat) : Nat := (l.getD k 0).toNat
/-- the rune that a text begins with, and its bytes -/
def dec (l : List UInt8) : Nat × Nat := Lib.decodeN l.length (gb l 0) (gb l 1) (gb l 2) (gb l 3)

theorem get!_of (s : ByteArray) (i : Nat) : s.get! i = s.data.toList.getD i 0 := by
  show s.data[i]! = _
  simp [getElem!_def, List.getD]
  cases s.data[i]? <;> rfl

theorem dec_of (s : ByteArray) (i : Nat) : Utf8.decode s i = dec (s.data.toList.drop i) := by
  rw [Lib.decode_at]
  have h : ∀ k, (s.get! (i + k)).toNat = gb (s.data.toList.drop i) k := by
    intro k
    unfold gb
    rw [get!_of, List.getD_eq_getElem?_getD, List.getD_eq_getElem?_getD, List.getElem?_drop]
  have h0 := h 0
  rw [Nat.add_zero] at h0
  rw [h0, h 1, h 2, h 3]
  unfold dec
  rw [List.length_drop]
  rfl

theorem decodeN_pos (n b0 b1 b2 b3 : Nat) : 1 ≤ (Lib.decodeN n b0 b1 b2 b3).2 ∧ (1 ≤ n → (Lib.decodeN n b0 b1 b2 b3).2 ≤ n) := by
  unfold Lib.decodeN
  repeat' split
  all_goals (constructor <;> simp only <;> omega)
theorem dec_pos (l : List UInt8) : 1 ≤ (dec l).2 := (decodeN_pos _ _ _ _ _).1
theorem dec_le (c : UInt8) (r : List UInt8) : (dec (c :: r)).2 ≤ r.length + 1 := (decodeN_pos _ _ _ _ _).2 (by simp)
theorem dec_ascii (c : UInt8) (r : List UInt8) (h : c.toNat < 128) : dec (c :: r) = (c.toNat, 1) := by
  unfold dec Lib.decodeN
  rw [if_pos (by simpa [gb] using h)]
  simp [gb]
theorem decodeN_high (n b0 b1 b2 b3 : Nat) (h : 128 ≤ b0) : 128 ≤ (Lib.decodeN n b0 b1 b2 b3).1 := by
  unfold Lib.decodeN
  repeat' split
  all_goals (simp only; omega)
theorem dec_high (c : UInt8) (r : List UInt8) (h : 128 ≤ c.toNat) : 128 ≤ (dec (c :: r)).1 := decodeN_high _ _ _ _ _ (by simpa [gb] using h)
/-- a rune below 128 is its byte -/
theorem dec_low (c : UInt8) (r : List UInt8) (h : (dec (c :: r)).1 < 128) : c.toNat = (dec (c :: r)).1 ∧ (dec (c :: r)).2 = 1 := by
  by_cases hc : c.toNat < 128
  · rw [dec_ascii c r hc]; exact ⟨rfl, rfl⟩
  · have := dec_high c r (by omega); omega
theorem decodeN_top (n b0 b1 b2 b3 : Nat) : (Lib.decodeN n b0 b1 b2 b3).1 ≤ 1114111 := by
  unfold Lib.decodeN
  repeat' split
  all_goals (simp only; omega)
theorem dec_top (l : List UInt8) : (dec l).1 ≤ 1114111 := decodeN_top _ _ _ _ _

/-- a byte that is no rune's -/
def brok (l : List UInt8) : Bool := (dec l).1 == 65533 && !([239, 191, 189] : List UInt8).isPrefixOf l

def letB (c : UInt8) : Bool := decide (97 ≤ c.toNat) && decide (c.toNat ≤ 122)
def digB (c : UInt8) : Bool := decide (48 ≤ c.toNat) && decide (c.toNat ≤ 57)
def ldB (c : UInt8) : Bool := letB c || digB c
def sgB (c : UInt8) : Bool := c == 59 || c == 123 || c == 125

structure Pl where
  line : Nat
  col : Nat
deriving DecidableEq
def behindP (p : Pl) (r : Nat) : Pl := if r = 10 then ⟨p.line + 1, 1⟩ else ⟨p.line, p.col + 1⟩
def firstP : Pl := ⟨1, 1⟩

structure Tk where
  kind : Int
  s : List UInt8
  n : Int
  time : Bool
deriving DecidableEq

def pieceF : List UInt8 → List UInt8
  | [] => []
  | c :: r => if sgB c then [c] else (c :: r).take (dec (c :: r)).2 ++ ((c :: r).drop (dec (c :: r)).2).takeWhile ldB

theorem pieceF_cons (c : UInt8) (r : List UInt8) : pieceF (c :: r) = if sgB c then [c] else (c :: r).take (dec (c :: r)).2 ++ ((c :: r).drop (dec (c :: r)).2).takeWhile ldB := rfl
def wordB : List UInt8 → Bool
  | [] => false
  | c :: r => letB c && r.all ldB && decide (r.length ≤ 15)

def unitF (l : List UInt8) : Option Int :=
  if l = [112, 115] then some 1 else if l = [110, 115] then some 1000 else if l = [117, 115] then some 1000000 else if l = [109, 115] then some 1000000000 else if l = [115] then some 1000000000000 else none

def decV (l : List UInt8) : Nat := l.foldl (fun n c => 10 * n + (c.toNat - 48)) 0
def sizeF : List UInt8 → List UInt8
  | [] => []
  | c :: r => if c = 45 then r else c :: r
theorem sizeF_cons (c : UInt8) (r : List UInt8) : sizeF (c :: r) = if c = 45 then r else c :: r := rfl
def minusB : List UInt8 → Bool
  | [] => false
  | c :: _ => c == 45
def valF (p : List UInt8) : Int := if minusB p then -(decV ((sizeF p).takeWhile digB) : Int) else decV ((sizeF p).takeWhile digB)

def numF (p : List UInt8) : Except Nat Tk :=
  if (sizeF p).takeWhile digB = [] ∨ ((sizeF p).dropWhile digB ≠ [] ∧ unitF ((sizeF p).dropWhile digB) = none) then .error 4
  else if 18 < ((sizeF p).takeWhile digB).length then .error 6
  else match unitF ((sizeF p).dropWhile digB) with
    | some ps => if -1000000000000000000 < valF p * ps ∧ valF p * ps < 1000000000000000000 then .ok ⟨2, p, valF p * ps, true⟩ else .error 2
    | none => .ok ⟨2, p, valF p, false⟩

def tokF (p : List UInt8) : Except Nat Tk :=
  match p with
  | [] => .error 4
  | c :: r => if r = [] ∧ sgB c then .ok ⟨3, p, 0, false⟩ else if wordB p then .ok ⟨1, p, 0, false⟩ else if letB c then .error 6 else numF p

/-- what a text is cut into, from a place on, in a remark or not; and what is wrong, and where -/
def cutL : List UInt8 → Bool → Pl → List (Tk × Pl) × Option (Pl × Nat)
  | [], _, _ => ([], none)
  | c :: r, rem, here =>
    if brok (c :: r) then ([], some (here, 4))
    else if (dec (c :: r)).1 = 10 then cutL (r.drop ((dec (c :: r)).2 - 1)) false (behindP here 10)
    else if rem = true ∨ (dec (c :: r)).1 = 32 ∨ (dec (c :: r)).1 = 9 then cutL (r.drop ((dec (c :: r)).2 - 1)) rem (behindP here (dec (c :: r)).1)
    else if (dec (c :: r)).1 = 35 then cutL (r.drop ((dec (c :: r)).2 - 1)) true (behindP here (dec (c :: r)).1)
    else match tokF (pieceF (c :: r)) with
      | .error e => ([], some (here, e))
      | .ok t => ((t, here) :: (cutL (r.drop ((pieceF (c :: r)).length - 1)) false ⟨here.line, here.col + (pieceF (c :: r)).length⟩).1, (cutL (r.drop ((pieceF (c :: r)).length - 1)) false ⟨here.line, here.col + (pieceF (c :: r)).length⟩).2)
termination_by l => l.length
decreasing_by all_goals (simp only [List.length_drop, List.length_cons]; omega)

/-- the place of the rune at a byte, or around it -/
def plAt : List UInt8 → Pl → Nat → Pl
  | [], p, _ => p
  | c :: r, p, a => if a < (dec (c :: r)).2 then p else plAt (r.drop ((dec (c :: r)).2 - 1)) (behindP p (dec (c :: r)).1) (a - (dec (c :: r)).2)
termination_by l => l.length
decreasing_by (simp only [List.length_drop, List.length_cons]; omega)

theorem tail_drop (c : UInt8) (r : List UInt8) (k : Nat) (h : 1 ≤ k) : r.drop (k - 1) = (c :: r).drop k := by
  obtain ⟨j, rfl⟩ : ∃ j, k = j + 1 := ⟨k - 1, by omega⟩
  rfl

theorem ld_ascii {c : UInt8} (h : ldB c = true) : c.toNat < 128 ∧ c.toNat ≠ 10 := by
  simp only [ldB, letB, digB, Bool.or_eq_true, Bool.and_eq_true, decide_eq_true_eq] at h
  omega
theorem sg_ascii {c : UInt8} (h : sgB c = true) : c.toNat < 128 ∧ c.toNat ≠ 10 := by
  simp only [sgB, Bool.or_eq_true, beq_iff_eq] at h
  rcases h with (rfl | rfl) | rfl <;> decide
theorem all_takeWhile (f : UInt8 → Bool) (l : List UInt8) : (l.takeWhile f).all f = true := by
  induction l with
  | nil => rfl
  | cons c l ih =>
    by_cases h : f c = true
    · rw [List.takeWhile_cons_of_pos h, List.all_cons, h, ih]; rfl
    · rw [List.takeWhile_cons_of_neg h]; rfl
theorem takeWhile_all (f : UInt8 → Bool) (l : List UInt8) (h : l.all f = true) : l.takeWhile f = l := by
  induction l with
  | nil => rfl
  | cons c l ih =>
    rw [List.all_cons, Bool.and_eq_true] at h
    rw [List.takeWhile_cons_of_pos h.1, ih h.2]

theorem unit_all (u : List UInt8) (ps : Int) (h : unitF u = some ps) : u.all letB = true ∧ u ≠ [] ∧ 0 < ps ∧ ps ≤ 1000000000000 := by
  have h : (if u = [112, 115] then some 1 else if u = [110, 115] then some 1000 else if u = [117, 115] then some 1000000 else if u = [109, 115] then some 1000000000 else if u = [115] then some 1000000000000 else none) = some ps := h
  by_cases h1 : u = [112, 115]
  · subst h1; rw [if_pos rfl] at h; cases h; exact ⟨by decide, by decide, by decide, by decide⟩
  rw [if_neg h1] at h
  by_cases h2 : u = [110, 115]
  · subst h2; rw [if_pos rfl] at h; cases h; exact ⟨by decide, by decide, by decide, by decide⟩
  rw [if_neg h2] at h
  by_cases h3 : u = [117, 115]
  · subst h3; rw [if_pos rfl] at h; cases h; exact ⟨by decide, by decide, by decide, by decide⟩
  rw [if_neg h3] at h
  by_cases h4 : u = [109, 115]
  · subst h4; rw [if_pos rfl] at h; cases h; exact ⟨by decide, by decide, by decide, by decide⟩
  rw [if_neg h4] at h
  by_cases h5 : u = [115]
  · subst h5; rw [if_pos rfl] at h; cases h; exact ⟨by decide, by decide, by decide, by decide⟩
  rw [if_neg h5] at h
  cases h

/-- all bytes of a piece that is a token are ASCII, and no line's end -/
theorem tok_ascii (p : List UInt8) (t : Tk) (h : tokF p = .ok t) : t.s = p ∧ p ≠ [] ∧ ∀ c ∈ p, c.toNat < 128 ∧ c.toNat ≠ 10 := by
  match p with
  | [] => cases h
  | c :: r =>
    unfold tokF at h
    simp only at h
    split at h
    · rename_i h1
      cases h
      refine ⟨rfl, by simp, ?_⟩
      obtain ⟨rfl, h1⟩ := h1
      intro d hd
      rw [List.mem_singleton] at hd
      subst hd
      exact sg_ascii h1
    split at h
    · rename_i h1
      cases h
      refine ⟨rfl, by simp, ?_⟩
      simp only [wordB, Bool.and_eq_true, decide_eq_true_eq, List.all_eq_true] at h1
      intro d hd
      rcases List.mem_cons.1 hd with rfl | hd
      · exact ld_ascii (by simp [ldB, h1.1.1])
      · exact ld_ascii (h1.1.2 d hd)
    split at h
    · cases h
    · have hs : ∀ d ∈ c :: r, d = 45 ∨ d ∈ sizeF (c :: r) := by
        intro d hd
        rw [sizeF_cons]
        split
        · rename_i hc
          rcases List.mem_cons.1 hd with rfl | hd
          · exact .inl hc
          · exact .inr hd
        · exact .inr hd
      have hall : (∀ d ∈ sizeF (c :: r), digB d = true ∨ letB d = true) ∧ t.s = c :: r := by
        unfold numF at h
        split at h
        · cases h
        rename_i h1
        split at h
        · cases h
        have hm : ∀ d ∈ sizeF (c :: r), d ∈ (sizeF (c :: r)).takeWhile digB ∨ d ∈ (sizeF (c :: r)).dropWhile digB := by
          intro d hd
          rw [← List.takeWhile_append_dropWhile (p := digB) (l := sizeF (c :: r))] at hd
          exact List.mem_append.1 hd
        have htk : ∀ d ∈ (sizeF (c :: r)).takeWhile digB, digB d = true := fun d hd => List.all_eq_true.1 (all_takeWhile _ _) d hd
        split at h
        · rename_i ps hu
          split at h
          · cases h
            refine ⟨fun d hd => ?_, rfl⟩
            rcases hm d hd with h2 | h2
            · exact .inl (htk d h2)
            · exact .inr (List.all_eq_true.1 (unit_all _ _ hu).1 d h2)
          · cases h
        · rename_i hu
          cases h
          refine ⟨fun d hd => ?_, rfl⟩
          have he : (sizeF (c :: r)).dropWhile digB = [] := by
            rcases Classical.em ((sizeF (c :: r)).dropWhile digB = []) with h2 | h2
            · exact h2
            · exact absurd (.inr ⟨h2, hu⟩) h1
          rcases hm d hd with h2 | h2
          · exact .inl (htk d h2)
          · rw [he] at h2; cases h2
      refine ⟨hall.2, by simp, fun d hd => ?_⟩
      rcases hs d hd with rfl | h2
      · decide
      · rcases hall.1 d h2 with h3 | h3
        · exact ld_ascii (by simp [ldB, h3])
        · exact ld_ascii (by simp [ldB, h3])

theorem piece_pre (l : List UInt8) : ∃ k, pieceF l = l.take k ∧ k ≤ l.length ∧ (l ≠ [] → 1 ≤ k) := by
  match l with
  | [] => exact ⟨0, rfl, Nat.le_refl _, fun h => absurd rfl h⟩
  | c :: r =>
    rw [pieceF_cons]
    split
    · exact ⟨1, rfl, by simp, fun _ => Nat.le_refl _⟩
    · have hle := dec_le c r
      have hpos := dec_pos (c :: r)
      refine ⟨(dec (c :: r)).2 + (((c :: r).drop (dec (c :: r)).2).takeWhile ldB).length, ?_, ?_, fun _ => by omega⟩
      · rw [List.take_add]
        congr 1
        exact (List.prefix_iff_eq_take.1 (List.takeWhile_prefix _))
      · have h := (List.takeWhile_prefix ldB (l := (c :: r).drop (dec (c :: r)).2)).length_le
        rw [List.length_drop] at h
        simp only [List.length_cons] at h ⊢
        omega
theorem piece_take (l : List UInt8) : pieceF l = l.take (pieceF l).length := by
  obtain ⟨k, hk, hle, _⟩ := piece_pre l
  rw [hk, List.length_take, Nat.min_eq_left hle]
theorem piece_len (l : List UInt8) : (pieceF l).length ≤ l.length ∧ (l ≠ [] → 1 ≤ (pieceF l).length) := by
  obtain ⟨k, hk, hle, h1⟩ := piece_pre l
  rw [hk, List.length_take, Nat.min_eq_left hle]
  exact ⟨hle, h1⟩
end Go.Proofs.YtinjhnflnfpoeaaGreatDoor
