/-
  What a reader takes from a text: TakeFixed at every place, frame's fixed and its closure, the closure that takes a number and goes on.
-/
import Derived.Test.YtldegdhpblkhhaaV
import Derived.Test.YtldegdhpblkhhaaWH
namespace Go.Proofs.Ytldegdhpblkhhaa
open Go Go.RowKit

set_option maxRecDepth 100000 in
theorem takeFixed_short (A : Option Addr) (n c k0 wd : Nat) (w : World) (_hn : n ≤ 1000000000) (hw1 : 1 ≤ wd) (hw2 : wd ≤ 8) (hk2 : k0 ≤ n) (hk : n < k0 + wd) :
    Calls Try.prog 54 #[.slice A n c, .int .i64 (k0 : Int), .int .i64 (wd : Int)] w fun r w' => r = .returned (.tuple #[.int .u64 0, .int .i64 0, .int .i64 3]) ∧ w = w' := by
  have HW : Hid (widB wd = true) := hid (by simp [widB]; omega)
  have h1 : decide ((n : Int) - (k0 : Int) < (wd : Int)) = true := by rw [decide_eq_true_eq]; omega
  go_enter Try.func54, Try.ntmps54
  go_wp2_with (go_at_call 43; refine (isWidth_any _ _).mono ?_; rintro e w' ⟨rfl, rfl⟩; have hwb := HW.out)
  go_ret3
  exact ⟨rfl, rfl⟩
theorem takeFixed_any (A : Option Addr) (n c B k0 wd : Nat) (bs : List Nat) (w : World) (hr : Row w B A n (bv bs)) (ho : Oct bs) (hn : n ≤ c) (hn2 : n ≤ 1000000000) (hw1 : 1 ≤ wd) (hw2 : wd ≤ 8) (hk : k0 ≤ n) :
    Calls Try.prog 54 #[.slice A n c, .int .i64 (k0 : Int), .int .i64 (wd : Int)] w fun r w' => r = tri .u64 (tf bs k0 wd) ∧ w = w' := by
  have hl : bs.length = n := by rw [← bv_len]; exact hr.1
  unfold tf
  by_cases h : k0 + wd ≤ n
  · rw [if_pos (by omega)]
    refine (takeFixed_ok A n c B k0 wd bs w hr ho hn hn2 hw1 hw2 h).mono ?_
    rintro e w' ⟨rfl, rfl⟩
    exact ⟨by simp [tri], rfl⟩
  · rw [if_neg (by omega)]
    exact takeFixed_short A n c k0 wd w hn2 hw1 hw2 hk (by omega)

theorem fixed1_any (A : Option Addr) (n c B k0 wd g : Nat) (bs : List Nat) (w : World) (hg : w.cell? ⟨g, 0, none⟩ = some (.int .i64 (wd : Int))) (hr : Row w B A n (bv bs)) (ho : Oct bs) (hn : n ≤ c) (hn2 : n ≤ 1000000000) (hw1 : 1 ≤ wd) (hw2 : wd ≤ 8) (hk : k0 ≤ n) :
    Calls Try.prog 53 #[.slice A n c, .int .i64 (k0 : Int), .pointer (some ⟨g, 0, none⟩)] w fun r w' => r = tri .u64 (tf bs k0 wd) ∧ w = w' := by
  have HT := hid (takeFixed_any A n c B k0 wd bs w hr ho hn hn2 hw1 hw2 hk)
  clear hr ho hn hn2 hk hw1 hw2
  obtain ⟨⟨x, p, e⟩, hx⟩ : ∃ r, r = tf bs k0 wd := ⟨_, rfl⟩
  rw [← hx] at HT ⊢
  unfold tri at HT ⊢
  clear hx
  go_enter Try.func53, Try.ntmps53
  go_wp2_with (go_at_call 54; refine (HT.out).mono ?_; rintro r w' ⟨rfl, rfl⟩)
  go_ret3
  exact ⟨rfl, rfl⟩
theorem fixedr_any (wd : Nat) (w : World) : Calls Try.prog 47 #[.int .i64 (wd : Int)] w fun r w' => r = .returned (.func (.func 53) #[] #[.pointer (some ⟨w.heap.size, 0, none⟩)]) ∧ w'.cell? ⟨w.heap.size, 0, none⟩ = some (.int .i64 (wd : Int)) ∧ Below w.heap.size w w' := by
  go_enter Try.func47, Try.ntmps47
  go_wp2
  go_ret
  refine ⟨rfl, ?_, (Below.refl _ _).alloc (Nat.le_refl _) _⟩
  rw [cell_of_row _ _ _ _ _ (0, 0) (heap_alloc_new w _)]; rfl

/-- What the reading of a frame's fields holds on to: the text, the place, whether all was there, and the answer's variable, still empty. -/
structure Fs (w0 w : World) (gt g2 ga gw : Nat) (A : Option Addr) (n c k : Nat) (wh : Bool) : Prop where
  bel : Below w0.heap.size w0 w
  t : w.cell? ⟨gt, 0, none⟩ = some (.slice A n c)
  a : w.cell? ⟨ga, 0, none⟩ = some (.int .i64 (k : Int))
  h : w.cell? ⟨gw, 0, none⟩ = some (.bool wh)
  fa : w.frozen? ⟨ga, 0, none⟩ = false
  fh : w.frozen? ⟨gw, 0, none⟩ = false
  v : VarF w g2 fz
  o0 : w0.heap.size ≤ gt
  o1 : gt < g2
  o2 : g2 < ga
  o3 : ga < gw
  lt : gw < w.heap.size
section
variable {w0 w w' : World} {gt g2 ga gw : Nat} {A : Option Addr} {n c k : Nat} {wh : Bool}
theorem Fs.keep (H : Fs w0 w gt g2 ga gw A n c k wh) (hb : Below w.heap.size w w') : Fs w0 w' gt g2 ga gw A n c k wh := by
  have h0 := H.o0; have h1 := H.o1; have h2 := H.o2; have h3 := H.o3; have h4 := H.lt
  exact ⟨H.bel.trans (hb.mono (by omega)), (hb.cell (p := ⟨gt, 0, none⟩) (by show gt < _; omega)).trans H.t, (hb.cell (p := ⟨ga, 0, none⟩) (by show ga < _; omega)).trans H.a, (hb.cell (p := ⟨gw, 0, none⟩) (by show gw < _; omega)).trans H.h,
    (hb.frozen (p := ⟨ga, 0, none⟩) (by show ga < _; omega)).trans H.fa, (hb.frozen (p := ⟨gw, 0, none⟩) (by show gw < _; omega)).trans H.fh, H.v.keep hb, h0, h1, h2, h3, Nat.lt_of_lt_of_le h4 hb.size⟩
theorem Fs.set (H : Fs w0 w gt g2 ga gw A n c k wh) (p : Nat) (b : Bool) : Fs w0 ((w.setCell ⟨ga, 0, none⟩ (.int .i64 (p : Int))).setCell ⟨gw, 0, none⟩ (.bool b)) gt g2 ga gw A n c p b := by
  have h0 := H.o0; have h1 := H.o1; have h2 := H.o2; have h3 := H.o3; have h4 := H.lt
  have hB : Below ga w ((w.setCell ⟨ga, 0, none⟩ (.int .i64 (p : Int))).setCell ⟨gw, 0, none⟩ (.bool b)) := ((Below.refl _ _).setCell (p := ⟨ga, 0, none⟩) (Nat.le_refl _) _).setCell (p := ⟨gw, 0, none⟩) (by show ga ≤ gw; omega) _
  have n1 : (⟨gw, 0, none⟩ : Addr) ≠ ⟨ga, 0, none⟩ := fun e => by injection e with e; omega
  have n2 : (⟨ga, 0, none⟩ : Addr) ≠ ⟨gw, 0, none⟩ := fun e => by injection e with e; omega
  have c1 : (w.setCell ⟨ga, 0, none⟩ (.int .i64 (p : Int))).cell? ⟨gw, 0, none⟩ = some (.bool wh) := (World.cell?_setCell_other (h := n2) ..).trans H.h
  refine ⟨H.bel.trans (hB.mono (by omega)), (hB.cell (p := ⟨gt, 0, none⟩) (by show gt < _; omega)).trans H.t, (World.cell?_setCell_other (h := n1) ..).trans (World.cell?_setCell_same (h := H.a) ..), World.cell?_setCell_same (h := c1) .., ?_, ?_, H.v.below hB (by omega), h0, h1, h2, h3, by simpa using h4⟩
  · simpa using H.fa
  · simpa using H.fh
end
set_option maxRecDepth 100000 in
theorem take53 (w0 w : World) (gt g2 ga gw gp n c k x p e : Nat) (A : Option Addr) (wh : Bool) (H : Fs w0 w gt g2 ga gw A n c k wh)
    (R : Calls Try.prog 53 #[.slice A n c, .int .i64 (k : Int), .pointer (some ⟨gp, 0, none⟩)] w fun r w' => r = tri .u64 (x, p, e) ∧ w = w') :
    Calls Try.prog 46 #[.func (.func 53) #[] #[.pointer (some ⟨gp, 0, none⟩)], .pointer (some ⟨gt, 0, none⟩), .pointer (some ⟨ga, 0, none⟩), .pointer (some ⟨gw, 0, none⟩)] w fun r w' => r = .returned (.int .u64 (x : Int)) ∧ Fs w0 w' gt g2 ga gw A n c p (wh && decide (e = 0)) := by
  have HR := hid R
  unfold tri at HR
  have ht := H.t
  have ha := H.a
  have hh := H.h
  have ffa := H.fa
  have ffh := H.fh
  have HS := hid (H.set p (wh && decide (e = 0)))
  have hne : ¬ ga = gw := by have := H.o3; omega
  have HE : Hid (((e : Int) == 0) = decide (e = 0)) := hid (by rw [Bool.eq_iff_iff, beq_iff_eq, decide_eq_true_eq]; omega)
  clear H R
  obtain ⟨z, hz⟩ : ∃ z, z = decide (e = 0) := ⟨_, rfl⟩
  rw [← hz] at HE HS ⊢
  have hze := HE.out
  clear hz HE
  cases wh with
  | true =>
    go_enter Try.func46, Try.ntmps46
    go_wp2_with (go_at_call 53; refine (HR.out).mono ?_; rintro r w' ⟨rfl, rfl⟩)
    go_ret
    exact ⟨rfl, HS.out⟩
  | false =>
    go_enter Try.func46, Try.ntmps46
    go_wp2_with (go_at_call 53; refine (HR.out).mono ?_; rintro r w' ⟨rfl, rfl⟩)
    go_ret
    exact ⟨rfl, HS.out⟩
set_option maxRecDepth 100000 in
theorem take48 (w0 w : World) (gt g2 ga gw n c k x p e : Nat) (A : Option Addr) (wh : Bool) (H : Fs w0 w gt g2 ga gw A n c k wh)
    (R : Calls Try.prog 48 #[.slice A n c, .int .i64 (k : Int)] w fun r w' => r = tri .u64 (x, p, e) ∧ w = w') :
    Calls Try.prog 46 #[.func (.func 48) #[] #[], .pointer (some ⟨gt, 0, none⟩), .pointer (some ⟨ga, 0, none⟩), .pointer (some ⟨gw, 0, none⟩)] w fun r w' => r = .returned (.int .u64 (x : Int)) ∧ Fs w0 w' gt g2 ga gw A n c p (wh && decide (e = 0)) := by
  have HR := hid R
  unfold tri at HR
  have ht := H.t
  have ha := H.a
  have hh := H.h
  have ffa := H.fa
  have ffh := H.fh
  have HS := hid (H.set p (wh && decide (e = 0)))
  have hne : ¬ ga = gw := by have := H.o3; omega
  have HE : Hid (((e : Int) == 0) = decide (e = 0)) := hid (by rw [Bool.eq_iff_iff, beq_iff_eq, decide_eq_true_eq]; omega)
  clear H R
  obtain ⟨z, hz⟩ : ∃ z, z = decide (e = 0) := ⟨_, rfl⟩
  rw [← hz] at HE HS ⊢
  have hze := HE.out
  clear hz HE
  cases wh with
  | true =>
    go_enter Try.func46, Try.ntmps46
    go_wp2_with (go_at_call 48; refine (HR.out).mono ?_; rintro r w' ⟨rfl, rfl⟩)
    go_ret
    exact ⟨rfl, HS.out⟩
  | false =>
    go_enter Try.func46, Try.ntmps46
    go_wp2_with (go_at_call 48; refine (HR.out).mono ?_; rintro r w' ⟨rfl, rfl⟩)
    go_ret
    exact ⟨rfl, HS.out⟩
end Go.Proofs.Ytldegdhpblkhhaa
