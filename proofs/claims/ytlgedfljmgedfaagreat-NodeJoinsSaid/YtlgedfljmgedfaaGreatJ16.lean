/-
  Texts Ff of this seat, as far as they are used.
-/
import Derived.Test.YtlgedfljmgedfaaGreatJ14
import Derived.Test.YtlgedfljmgedfaaGreatJ15
namespace Go.Proofs.YtlgedfljmgedfaaGreat.F8
open Go Go.RowKit

set_option maxRecDepth 100000 in
theorem takeFixed_short (A : Option Addr) (n c k0 wd : Nat) (w : World) (_hn : n ≤ 1000000000) (hw1 : 1 ≤ wd) (hw2 : wd ≤ 8) (hk2 : k0 ≤ n) (hk : n < k0 + wd) :
    Calls Tryz.prog 151 #[.slice A n c, .int .i64 (k0 : Int), .int .i64 (wd : Int)] w fun r w' => r = .returned (.tuple #[.int .u64 0, .int .i64 0, .int .i64 3]) ∧ w = w' := by
  have HW : Hid (widB wd = true) := hid (by simp [widB]; omega)
  have h1 : decide ((n : Int) - (k0 : Int) < (wd : Int)) = true := by rw [decide_eq_true_eq]; omega
  go_enter Tryz.func151, Tryz.ntmps151
  go_wp2_with (go_at_call 114; refine (isWidth_any _ _).mono ?_; rintro e w' ⟨rfl, rfl⟩; have hwb := HW.out)
  go_ret3
  exact ⟨rfl, rfl⟩
theorem takeFixed_any (A : Option Addr) (n c B k0 wd : Nat) (bs : List Nat) (w : World) (hr : Row w B A n (bv bs)) (ho : Oct bs) (hn : n ≤ c) (hn2 : n ≤ 1000000000) (hw1 : 1 ≤ wd) (hw2 : wd ≤ 8) (hk : k0 ≤ n) :
    Calls Tryz.prog 151 #[.slice A n c, .int .i64 (k0 : Int), .int .i64 (wd : Int)] w fun r w' => r = tri .u64 (tf bs k0 wd) ∧ w = w' := by
  have hl : bs.length = n := by rw [← bv_len]; exact hr.1
  unfold tf
  by_cases h : k0 + wd ≤ n
  · rw [if_pos (by omega)]
    refine (takeFixed_ok A n c B k0 wd bs w hr ho hn hn2 hw1 hw2 h).mono ?_
    rintro e w' ⟨rfl, rfl⟩
    exact ⟨by simp [tri], rfl⟩
  · rw [if_neg (by omega)]
    exact takeFixed_short A n c k0 wd w hn2 hw1 hw2 hk (by omega)

theorem fixed1_any (A : Option Addr) (n c B k0 wd g : Nat) (bs : List Nat) (w : World) (hg : w.cell? ⟨g, 0, none⟩ = some (.int .i64 (wd : Int))) (hr : Row w B A n (bv bs)) (ho : Oct bs) (hn : n ≤ c) (hn2 : n ≤ 1000000000) (hw1 : 1 ≤ wd) (hw2 : wd ≤ 8) (hk : k0 ≤ n) :
    Calls Tryz.prog 150 #[.slice A n c, .int .i64 (k0 : Int), .pointer (some ⟨g, 0, none⟩)] w fun r w' => r = tri .u64 (tf bs k0 wd) ∧ w = w' := by
  have HT := hid (takeFixed_any A n c B k0 wd bs w hr ho hn hn2 hw1 hw2 hk)
  clear hr ho hn hn2 hk hw1 hw2
  obtain ⟨⟨x, p, e⟩, hx⟩ : ∃ r, r = tf bs k0 wd := ⟨_, rfl⟩
  rw [← hx] at HT ⊢
  unfold tri at HT ⊢
  clear hx
  go_enter Tryz.func150, Tryz.ntmps150
  go_wp2_with (go_at_call 151; refine (HT.out).mono ?_; rintro r w' ⟨rfl, rfl⟩)
  go_ret3
  exact ⟨rfl, rfl⟩
theorem fixedr_any (wd : Nat) (w : World) : Calls Tryz.prog 119 #[.int .i64 (wd : Int)] w fun r w' => r = .returned (.func (.func 150) #[] #[.pointer (some ⟨w.heap.size, 0, none⟩)]) ∧ w'.cell? ⟨w.heap.size, 0, none⟩ = some (.int .i64 (wd : Int)) ∧ Below w.heap.size w w' := by
  go_enter Tryz.func119, Tryz.ntmps119
  go_wp2
  go_ret
  refine ⟨rfl, ?_, (Below.refl _ _).alloc (Nat.le_refl _) _⟩
  rw [cell_of_row _ _ _ _ _ (0, 0) (heap_alloc_new w _)]; rfl

/-- What the reading of a frame's fields holds on to: the text, the place, whether all was there, and the answer's variable, still empty. -/
structure Fs (w0 w : World) (gt g2 ga gw : Nat) (A : Option Addr) (n c k : Nat) (wh : Bool) : Prop where
  bel : Below w0.heap.size w0 w
  t : w.cell? ⟨gt, 0, none⟩ = some (.slice A n c)
  a : w.cell? ⟨ga, 0, none⟩ = some (.int .i64 (k : Int))
  h : w.cell? ⟨gw, 0, none⟩ = some (.bool wh)
  fa : w.frozen? ⟨ga, 0, none⟩ = false
  fh : w.frozen? ⟨gw, 0, none⟩ = false
  v : VarF w g2 fz
  o0 : w0.heap.size ≤ gt
  o1 : gt < g2
  o2 : g2 < ga
  o3 : ga < gw
  lt : gw < w.heap.size
section
variable {w0 w w' : World} {gt g2 ga gw : Nat} {A : Option Addr} {n c k : Nat} {wh : Bool}
theorem Fs.keep (H : Fs w0 w gt g2 ga gw A n c k wh) (hb : Below w.heap.size w w') : Fs w0 w' gt g2 ga gw A n c k wh := by
  have h0 := H.o0; have h1 := H.o1; have h2 := H.o2; have h3 := H.o3; have h4 := H.lt
  exact ⟨H.bel.trans (hb.mono (by omega)), (hb.cell (p := ⟨gt, 0, none⟩) (by show gt < _; omega)).trans H.t, (hb.cell (p := ⟨ga, 0, none⟩) (by show ga < _; omega)).trans H.a, (hb.cell (p := ⟨gw, 0, none⟩) (by show gw < _; omega)).trans H.h,
    (hb.frozen (p := ⟨ga, 0, none⟩) (by show ga < _; omega)).trans H.fa, (hb.frozen (p := ⟨gw, 0, none⟩) (by show gw < _; omega)).trans H.fh, H.v.keep hb, h0, h1, h2, h3, Nat.lt_of_lt_of_le h4 hb.size⟩
theorem Fs.set (H : Fs w0 w gt g2 ga gw A n c k wh) (p : Nat) (b : Bool) : Fs w0 ((w.setCell ⟨ga, 0, none⟩ (.int .i64 (p : Int))).setCell ⟨gw, 0, none⟩ (.bool b)) gt g2 ga gw A n c p b := by
  have h0 := H.o0; have h1 := H.o1; have h2 := H.o2; have h3 := H.o3; have h4 := H.lt
  have hB : Below ga w ((w.setCell ⟨ga, 0, none⟩ (.int .i64 (p : Int))).setCell ⟨gw, 0, none⟩ (.bool b)) := ((Below.refl _ _).setCell (p := ⟨ga, 0, none⟩) (Nat.le_refl _) _).setCell (p := ⟨gw, 0, none⟩) (by show ga ≤ gw; omega) _
  have n1 : (⟨gw, 0, none⟩ : Addr) ≠ ⟨ga, 0, none⟩ := fun e => by injection e with e; omega
  have n2 : (⟨ga, 0, none⟩ : Addr) ≠ ⟨gw, 0, none⟩ := fun e => by injection e with e; omega
  have c1 : (w.setCell ⟨ga, 0, none⟩ (.int .i64 (p : Int))).cell? ⟨gw, 0, none⟩ = some (.bool wh) := (World.cell?_setCell_other (h := n2) ..).trans H.h
  refine ⟨H.bel.trans (hB.mono (by omega)), (hB.cell (p := ⟨gt, 0, none⟩) (by show gt < _; omega)).trans H.t, (World.cell?_setCell_other (h := n1) ..).trans (World.cell?_setCell_same (h := H.a) ..), World.cell?_setCell_same (h := c1) .., ?_, ?_, H.v.below hB (by omega), h0, h1, h2, h3, by simpa using h4⟩
  · simpa using H.fa
  · simpa using H.fh
end
set_option maxRecDepth 100000 in
theorem take53 (w0 w : World) (gt g2 ga gw gp n c k x p e : Nat) (A : Option Addr) (wh : Bool) (H : Fs w0 w gt g2 ga gw A n c k wh)
    (R : Calls Tryz.prog 150 #[.slice A n c, .int .i64 (k : Int), .pointer (some ⟨gp, 0, none⟩)] w fun r w' => r = tri .u64 (x, p, e) ∧ w = w') :
    Calls Tryz.prog 118 #[.func (.func 150) #[] #[.pointer (some ⟨gp, 0, none⟩)], .pointer (some ⟨gt, 0, none⟩), .pointer (some ⟨ga, 0, none⟩), .pointer (some ⟨gw, 0, none⟩)] w fun r w' => r = .returned (.int .u64 (x : Int)) ∧ Fs w0 w' gt g2 ga gw A n c p (wh && decide (e = 0)) := by
  have HR := hid R
  unfold tri at HR
  have ht := H.t
  have ha := H.a
  have hh := H.h
  have ffa := H.fa
  have ffh := H.fh
  have HS := hid (H.set p (wh && decide (e = 0)))
  have hne : ¬ ga = gw := by have := H.o3; omega
  have HE : Hid (((e : Int) == 0) = decide (e = 0)) := hid (by rw [Bool.eq_iff_iff, beq_iff_eq, decide_eq_true_eq]; omega)
  clear H R
  obtain ⟨z, hz⟩ : ∃ z, z = decide (e = 0) := ⟨_, rfl⟩
  rw [← hz] at HE HS ⊢
  have hze := HE.out
  clear hz HE
  cases wh with
  | true =>
    go_enter Tryz.func118, Tryz.ntmps118
    go_wp2_with (go_at_call 150; refine (HR.out).mono ?_; rintro r w' ⟨rfl, rfl⟩)
    go_ret
    exact ⟨rfl, HS.out⟩
  | false =>
    go_enter Tryz.func118, Tryz.ntmps118
    go_wp2_with (go_at_call 150; refine (HR.out).mono ?_; rintro r w' ⟨rfl, rfl⟩)
    go_ret
    exact ⟨rfl, HS.out⟩
set_option maxRecDepth 100000 in
theorem take48 (w0 w : World) (gt g2 ga gw n c k x p e : Nat) (A : Option Addr) (wh : Bool) (H : Fs w0 w gt g2 ga gw A n c k wh)
    (R : Calls Tryz.prog 120 #[.slice A n c, .int .i64 (k : Int)] w fun r w' => r = tri .u64 (x, p, e) ∧ w = w') :
    Calls Tryz.prog 118 #[.func (.func 120) #[] #[], .pointer (some ⟨gt, 0, none⟩), .pointer (some ⟨ga, 0, none⟩), .pointer (some ⟨gw, 0, none⟩)] w fun r w' => r = .returned (.int .u64 (x : Int)) ∧ Fs w0 w' gt g2 ga gw A n c p (wh && decide (e = 0)) := by
  have HR := hid R
  unfold tri at HR
  have ht := H.t
  have ha := H.a
  have hh := H.h
  have ffa := H.fa
  have ffh := H.fh
  have HS := hid (H.set p (wh && decide (e = 0)))
  have hne : ¬ ga = gw := by have := H.o3; omega
  have HE : Hid (((e : Int) == 0) = decide (e = 0)) := hid (by rw [Bool.eq_iff_iff, beq_iff_eq, decide_eq_true_eq]; omega)
  clear H R
  obtain ⟨z, hz⟩ : ∃ z, z = decide (e = 0) := ⟨_, rfl⟩
  rw [← hz] at HE HS ⊢
  have hze := HE.out
  clear hz HE
  cases wh with
  | true =>
    go_enter Tryz.func118, Tryz.ntmps118
    go_wp2_with (go_at_call 120; refine (HR.out).mono ?_; rintro r w' ⟨rfl, rfl⟩)
    go_ret
    exact ⟨rfl, HS.out⟩
  | false =>
    go_enter Tryz.func118, Tryz.ntmps118
    go_wp2_with (go_at_call 120; refine (HR.out).mono ?_; rintro r w' ⟨rfl, rfl⟩)
    go_ret
    exact ⟨rfl, HS.out⟩
end Go.Proofs.YtlgedfljmgedfaaGreat.F8
namespace Go.Proofs.YtlgedfljmgedfaaGreat.F8
open Go Go.RowKit
theorem tf_place (l : List Nat) (k wd x p e : Nat) (ho : Oct l) (h : tf l k wd = (x, p, e)) : x < 256 ^ wd ∧ p ≤ l.length := by
  unfold tf at h
  split at h
  · rename_i hh
    obtain ⟨rfl, h2⟩ := Prod.mk.inj h
    obtain ⟨rfl, rfl⟩ := Prod.mk.inj h2
    refine ⟨Nat.lt_of_lt_of_le (fxv_lt _ ((ho.drop k).take wd)) (Nat.pow_le_pow_right (by omega) (by rw [List.length_take]; omega)), hh⟩
  · obtain ⟨rfl, h2⟩ := Prod.mk.inj h
    obtain ⟨rfl, rfl⟩ := Prod.mk.inj h2
    exact ⟨Nat.pow_pos (by omega), Nat.zero_le _⟩
theorem tv_shape : ∀ (l : List Nat) (f : Bool) (acc k : Nat), (tv f acc k l).2.2 = 0 ∨ ((tv f acc k l).1 = 0 ∧ (tv f acc k l).2.1 = 0)
  | [], f, acc, k => .inr ⟨rfl, rfl⟩
  | x :: r, f, acc, k => by
    rw [tv]
    split
    · exact .inr ⟨rfl, rfl⟩
    · split
      · exact .inl rfl
      · exact tv_shape r false _ _
theorem tv_place (l : List Nat) (k x p e : Nat) (ho : Oct l) (hk : k ≤ l.length) (h : tv true 0 k (l.drop k) = (x, p, e)) : x < 18446744073709551616 ∧ p ≤ l.length := by
  have hs := tv_shape (l.drop k) true 0 k
  rw [h] at hs
  rcases hs with hs | ⟨h1, h2⟩
  · simp only at hs
    subst hs
    obtain ⟨t1, t2, t3, _⟩ := tv_back (l.drop k) k x p (ho.drop k) h
    rw [List.length_drop] at t3
    exact ⟨t1, by omega⟩
  · simp only at h1 h2
    subst h1 h2
    exact ⟨by omega, Nat.zero_le _⟩
theorem fixedr_1 (w : World) : Calls Tryz.prog 119 #[.int .i64 1] w fun r w' => r = .returned (.func (.func 150) #[] #[.pointer (some ⟨w.heap.size, 0, none⟩)]) ∧ w'.cell? ⟨w.heap.size, 0, none⟩ = some (.int .i64 ((1 : Nat) : Int)) ∧ Below w.heap.size w w' := fixedr_any 1 w
theorem fixedr_2 (w : World) : Calls Tryz.prog 119 #[.int .i64 2] w fun r w' => r = .returned (.func (.func 150) #[] #[.pointer (some ⟨w.heap.size, 0, none⟩)]) ∧ w'.cell? ⟨w.heap.size, 0, none⟩ = some (.int .i64 ((2 : Nat) : Int)) ∧ Below w.heap.size w w' := fixedr_any 2 w
theorem results_f1 {w : World} {g : Nat} {x : Fr} {fn : Func} {p r : Tmp} (h : fn.results = #[.cell p 54, .tmp r]) (tmps : Array Value) (hp : tmps.getD p undef = .pointer (some ⟨g, 0, none⟩)) (hx : VarF w g x) :
    (results fn tmps).run Tryz.prog w = .ok (.tuple #[fv x, tmps.getD r undef]) w := by
  have := ldfv hx
  have hp' : tmps[p]?.getD undef = .pointer (some ⟨g, 0, none⟩) := by simpa using hp
  simp only [results, h]
  simp [Result.andThen, hp', this, asAddr]
/-- How the reading begins. -/
theorem Fs.start (w w2 : World) (A : Option Addr) (n c : Nat) (v2 : VarF w2 (w.alloc (Obj.cells #[.slice A n c] 33)).heap.size fz) (b2 : Below (w.alloc (Obj.cells #[.slice A n c] 33)).heap.size (w.alloc (Obj.cells #[.slice A n c] 33)) w2) (s2 : w2.heap.size = (w.alloc (Obj.cells #[.slice A n c] 33)).heap.size + 1) :
    Fs w ((w2.alloc (Obj.cells #[.int .i64 0] 3)).alloc (Obj.cells #[.bool true] 4)) w.heap.size (w.heap.size + 1) w2.heap.size (w2.heap.size + 1) A n c 0 true := by
  have z1 : (w.alloc (Obj.cells #[.slice A n c] 33)).heap.size = w.heap.size + 1 := by simp
  rw [z1] at v2 b2 s2
  have k2 : Below w2.heap.size w2 ((w2.alloc (Obj.cells #[.int .i64 0] 3)).alloc (Obj.cells #[.bool true] 4)) := ((Below.refl _ _).alloc (Nat.le_refl _) _).alloc (by simp) _
  have t1 : (w.alloc (Obj.cells #[.slice A n c] 33)).cell? ⟨w.heap.size, 0, none⟩ = some (.slice A n c) := by
    rw [cell_of_row _ _ _ _ _ (0, 0) (heap_alloc_new w _)]; rfl
  have a1 : (w2.alloc (Obj.cells #[.int .i64 0] 3)).heap[w2.heap.size]? = some (.cells #[.int .i64 0] 3) := heap_alloc_new w2 _
  have a2 : ((w2.alloc (Obj.cells #[.int .i64 0] 3)).alloc (Obj.cells #[.bool true] 4)).heap[w2.heap.size]? = some (.cells #[.int .i64 0] 3) := by
    rw [← a1]; exact (((Below.refl (w2.heap.size + 1) (w2.alloc (Obj.cells #[.int .i64 0] 3))).alloc (by simp) (Obj.cells #[.bool true] 4)).block w2.heap.size (by omega))
  have h1 : ((w2.alloc (Obj.cells #[.int .i64 0] 3)).alloc (Obj.cells #[.bool true] 4)).heap[w2.heap.size + 1]? = some (.cells #[.bool true] 4) := heap_alloc_new' _ _ (by simp)
  exact ⟨(((Below.refl _ w).alloc (Nat.le_refl _) _).trans (b2.mono (by omega))).trans (k2.mono (by omega)),
    (k2.cell (p := ⟨w.heap.size, 0, none⟩) (by show w.heap.size < _; omega)).trans ((b2.cell (p := ⟨w.heap.size, 0, none⟩) (by show w.heap.size < _; omega)).trans t1),
    by rw [cell_of_row _ _ _ _ _ (0, 0) a2]; rfl, by rw [cell_of_row _ _ _ _ _ (0, 0) h1]; rfl, frozen_of_row _ _ _ _ _ a2, frozen_of_row _ _ _ _ _ h1, v2.keep k2, Nat.le_refl _, by omega, by omega, by omega, by simp⟩
set_option maxRecDepth 100000 in
set_option maxHeartbeats 2000000 in
theorem fields_any (A : Option Addr) (n c B : Nat) (l : List Nat) (w : World) (hr : Row w B A n (bv l)) (hB : B ≤ w.heap.size) (ho : Oct l) (hnc : n ≤ c) (hn : n ≤ 1048576) :
    Calls Tryz.prog 69 #[.slice A n c] w fun e w' => e = .returned (.tuple #[fv (frOf (flds l).1), .bool (flds l).2]) ∧ Below w.heap.size w w' := by
  have hl : l.length = n := by rw [← bv_len]; exact hr.1
  obtain ⟨x0, p0, e0, h0⟩ : ∃ x p e, tf l 0 1 = (x, p, e) := ⟨_, _, _, rfl⟩
  obtain ⟨x1, p1, e1, h1⟩ : ∃ x p e, tf l p0 1 = (x, p, e) := ⟨_, _, _, rfl⟩
  obtain ⟨x2, p2, e2, h2⟩ : ∃ x p e, tf l p1 1 = (x, p, e) := ⟨_, _, _, rfl⟩
  obtain ⟨x3, p3, e3, h3⟩ : ∃ x p e, tv true 0 p2 (l.drop p2) = (x, p, e) := ⟨_, _, _, rfl⟩
  obtain ⟨x4, p4, e4, h4⟩ : ∃ x p e, tf l p3 2 = (x, p, e) := ⟨_, _, _, rfl⟩
  obtain ⟨y0, q0⟩ := tf_place l 0 1 x0 p0 e0 ho h0
  obtain ⟨y1, q1⟩ := tf_place l p0 1 x1 p1 e1 ho h1
  obtain ⟨y2, q2⟩ := tf_place l p1 1 x2 p2 e2 ho h2
  obtain ⟨y3, q3⟩ := tv_place l p2 x3 p3 e3 ho q2 h3
  obtain ⟨y4, q4⟩ := tf_place l p3 2 x4 p4 e4 ho h4
  have HF : Hid (flds l = ((x1, x2, x3, x4), decide (x0 = 161 ∧ e0 = 0 ∧ e1 = 0 ∧ e2 = 0 ∧ e3 = 0 ∧ e4 = 0 ∧ p4 = n))) := hid (by
    unfold flds; simp only [h0, h1, h2, h3, h4, hl])
  have R0 := hid (fun (w' : World) g hg (hb : Below w.heap.size w w') => fixed1_any A n c B 0 1 g l w' hg (hr.below (hb.mono hB)) ho hnc (by omega) (by omega) (by omega) (by omega))
  have R1 := hid (fun (w' : World) g hg (hb : Below w.heap.size w w') => fixed1_any A n c B p0 1 g l w' hg (hr.below (hb.mono hB)) ho hnc (by omega) (by omega) (by omega) (by omega))
  have R2 := hid (fun (w' : World) g hg (hb : Below w.heap.size w w') => fixed1_any A n c B p1 1 g l w' hg (hr.below (hb.mono hB)) ho hnc (by omega) (by omega) (by omega) (by omega))
  have R3 := hid (fun (w' : World) (hb : Below w.heap.size w w') => takeVary_any A n c B p2 l w' (hr.below (hb.mono hB)) ho (by omega))
  have R4 := hid (fun (w' : World) g hg (hb : Below w.heap.size w w') => fixed1_any A n c B p3 2 g l w' hg (hr.below (hb.mono hB)) ho hnc (by omega) (by omega) (by omega) (by omega))
  rw [h0] at R0
  rw [h1] at R1
  rw [h2] at R2
  rw [h3] at R3
  rw [h4] at R4
  have HL := hid hl
  clear h0 h1 h2 h3 h4 q0 q1 q2 q3 q4 hr ho hl
  go_enter Tryz.func69, Tryz.ntmps69
  go_wp2_with (first
    | (refine wpList_alf rfl rfl ?_; intro w2 v2 b2 s2))
  have F0 := Fs.start w w2 A n c v2 b2 s2.out
  clear v2 b2 s2
  generalize ((w2.alloc (Obj.cells #[.int .i64 0] 3)).alloc (Obj.cells #[.bool true] 4)) = W0 at *
  generalize w2.heap.size + 1 = gw at *
  generalize w2.heap.size = ga at *
  generalize w.heap.size + 1 = g2 at *
  obtain ⟨gt, hgt⟩ : ∃ gt, gt = w.heap.size := ⟨_, rfl⟩
  rw [← hgt] at F0
  rw [← hgt]
  clear hgt
  simp only [Nat.pow_one] at y0 y1 y2
  have y4' : x4 < 65536 := by simpa using y4
  clear y4
  go_wp2_with (first
    | (go_at_call 118; (with_reducible refine (take53 w W8 gt g2 ga gw _ n c p3 x4 p4 e4 A ((((true && decide (e0 = 0)) && decide (e1 = 0)) && decide (e2 = 0)) && decide (e3 = 0)) F8 (R4.out W8 _ G8 F8.bel)).mono ?_); rintro e W9 ⟨rfl, F9⟩; clear F8 G8)
    | (go_at_call 119; (with_reducible refine (fixedr_2 W7).mono ?_); rintro e W8 ⟨rfl, G8, b8⟩; have F8 := F7.keep b8; clear b8 F7)
    | (go_at_call 118; (with_reducible refine (take48 w W6 gt g2 ga gw n c p2 x3 p3 e3 A (((true && decide (e0 = 0)) && decide (e1 = 0)) && decide (e2 = 0)) F6 (R3.out W6 F6.bel)).mono ?_); rintro e W7 ⟨rfl, F7⟩; clear F6)
    | (go_at_call 118; (with_reducible refine (take53 w W5 gt g2 ga gw _ n c p1 x2 p2 e2 A ((true && decide (e0 = 0)) && decide (e1 = 0)) F5 (R2.out W5 _ G5 F5.bel)).mono ?_); rintro e W6 ⟨rfl, F6⟩; clear F5 G5)
    | (go_at_call 119; (with_reducible refine (fixedr_1 W4).mono ?_); rintro e W5 ⟨rfl, G5, b5⟩; have F5 := F4.keep b5; clear b5 F4)
    | (go_at_call 118; (with_reducible refine (take53 w W3 gt g2 ga gw _ n c p0 x1 p1 e1 A (true && decide (e0 = 0)) F3 (R1.out W3 _ G3 F3.bel)).mono ?_); rintro e W4 ⟨rfl, F4⟩; clear F3 G3)
    | (go_at_call 119; (with_reducible refine (fixedr_1 W2).mono ?_); rintro e W3 ⟨rfl, G3, b3⟩; have F3 := F2.keep b3; clear b3 F2)
    | (go_at_call 118; (with_reducible refine (take53 w W1 gt g2 ga gw _ n c 0 x0 p0 e0 A true F1 (R0.out W1 _ G1 F1.bel)).mono ?_); rintro e W2 ⟨rfl, F2⟩; clear F1 G1)
    | (go_at_call 119; (with_reducible refine (fixedr_1 W0).mono ?_); rintro e W1 ⟨rfl, G1, b1⟩; have F1 := F0.keep b1; clear b1 F0))
  have F10 := F9.keep ((Below.refl _ _).alloc (Nat.le_refl _) (Obj.cells (encf ⟨(x1 : Int), (x2 : Int), x3, x4⟩).toArray 54))
  have V10 := varf_new W9 ⟨(x1 : Int), (x2 : Int), x3, x4⟩
  have hgs : gw < W9.heap.size := F9.lt
  clear F9 R0 R1 R2 R3 R4
  change Fs w (W9.alloc (Obj.cells #[.int .i64 (x1 : Int), .int .i64 (x2 : Int), .int .u64 (x3 : Int), .int .u16 (x4 : Int)] 54)) gt g2 ga gw A n c p4 _ at F10
  change VarF (W9.alloc (Obj.cells #[.int .i64 (x1 : Int), .int .i64 (x2 : Int), .int .u64 (x3 : Int), .int .u16 (x4 : Int)] 54)) W9.heap.size _ at V10
  generalize (W9.alloc (Obj.cells #[.int .i64 (x1 : Int), .int .i64 (x2 : Int), .int .u64 (x3 : Int), .int .u16 (x4 : Int)] 54)) = W10 at *
  generalize W9.heap.size = gs at *
  have ct := F10.t
  have ca := F10.a
  have ch := F10.h
  have s0 := V10.c0
  have s1 := V10.c1
  have s2 := V10.c2
  have s3 := V10.c3
  have d0 := F10.v.c0
  have d1 := F10.v.c1
  have d2 := F10.v.c2
  have d3 := F10.v.c3
  have f0 : W10.frozen? ⟨g2, 0, none⟩ = false := (F10.v.2 0 (by omega)).2
  have f1 : W10.frozen? ⟨g2, 1, none⟩ = false := (F10.v.2 1 (by omega)).2
  have f2 : W10.frozen? ⟨g2, 2, none⟩ = false := (F10.v.2 2 (by omega)).2
  have f3 : W10.frozen? ⟨g2, 3, none⟩ = false := (F10.v.2 3 (by omega)).2
  have FF := hid F10
  have n1 : ¬ g2 = gt := by have := F10.o1; omega
  have n2 : ¬ g2 = ga := by have := F10.o2; omega
  have n3 : ¬ g2 = gw := by have := F10.o2; have := F10.o3; omega
  have n4 : ¬ g2 = gs := by have := F10.o2; have := F10.o3; omega
  clear F10 V10 hgs
  have HW := hid (show decide (x0 = 161 ∧ e0 = 0 ∧ e1 = 0 ∧ e2 = 0 ∧ e3 = 0 ∧ e4 = 0 ∧ p4 = n) = (((x0 : Int) == 161) && (true && decide (e0 = 0) && decide (e1 = 0) && decide (e2 = 0) && decide (e3 = 0) && decide (e4 = 0)) && ((p4 : Int) == (n : Int))) by
    rw [Bool.eq_iff_iff]; simp; omega)
  generalize (true && decide (e0 = 0) && decide (e1 = 0) && decide (e2 = 0) && decide (e3 = 0) && decide (e4 = 0)) = wh at *
  generalize ((x0 : Int) == 161) = mk at *
  generalize hpn : ((p4 : Int) == (n : Int)) = pn at *
  have VF : Hid (VarF ((((W10.setCell ⟨g2, 0, none⟩ (.int .i64 (x1 : Int))).setCell ⟨g2, 1, none⟩ (.int .i64 (x2 : Int))).setCell ⟨g2, 2, none⟩ (.int .u64 (x3 : Int))).setCell ⟨g2, 3, none⟩ (.int .u16 (x4 : Int))).drew g2 ⟨(x1 : Int), (x2 : Int), x3, x4⟩ ∧
      Below w.heap.size w ((((W10.setCell ⟨g2, 0, none⟩ (.int .i64 (x1 : Int))).setCell ⟨g2, 1, none⟩ (.int .i64 (x2 : Int))).setCell ⟨g2, 2, none⟩ (.int .u64 (x3 : Int))).setCell ⟨g2, 3, none⟩ (.int .u16 (x4 : Int))).drew) := hid (by
    have hv := varf_stored FF.out.v.2 ⟨(x1 : Int), (x2 : Int), x3, x4⟩
    have hb := (setCells_oth g2 (encf ⟨(x1 : Int), (x2 : Int), x3, x4⟩) 0 W10).1
    exact ⟨hv.keep (Below.refl _ _).drew, (FF.out.bel.trans (hb.mono (by have := FF.out.o0; have := FF.out.o1; omega))).drew⟩)
  clear FF
  cases mk with
  | false =>
    go_region
    go_wp2
    exact bodyPost_ret (results_f1 Tryz.results69 _ rfl VF.out.1) rfl ⟨by rw [HF.out, HW.out]; simp [frOf], VF.out.2⟩
  | true =>
    cases wh with
    | false =>
      go_region
      go_wp2
      exact bodyPost_ret (results_f1 Tryz.results69 _ rfl VF.out.1) rfl ⟨by rw [HF.out, HW.out]; simp [frOf], VF.out.2⟩
    | true =>
      go_region
      go_wp2
      exact bodyPost_ret (results_f1 Tryz.results69 _ rfl VF.out.1) rfl ⟨by rw [HF.out, HW.out]; simp [frOf], VF.out.2⟩
end Go.Proofs.YtlgedfljmgedfaaGreat.F8
namespace Go.Proofs.YtlgedfljmgedfaaGreat.F8
open Go Go.RowKit
set_option maxRecDepth 100000 in
theorem read_none (A : Option Addr) (n c er : Nat) (w : World) (he : ((er : Int) != 0) = true) (HO : ∀ w' : World, Below w.heap.size w w' → Calls Tryz.prog 68 #[.slice A n c] w' (RetE w'.heap.size [] er w')) :
    Calls Tryz.prog 27 #[.slice A n c] w fun e w' => e = .returned (.tuple #[fv fz, .int .i64 (er : Int)]) ∧ Below w.heap.size w w' := by
  have H := hid HO
  clear HO
  go_enter Tryz.func27, Tryz.ntmps27
  go_wp2_with (first
    | (refine wpList_svf (x := fz) rfl (.tmp 2) (.tmp 15) rfl rfl rfl v2 ?_; intro w3 v3 b3 o3 _; have B3 : Hid (Below w.heap.size w w3) := hid (B2.out.trans b3))
    | (go_at_call 68; (with_reducible refine (H.out w1 b1).mono ?_); rintro e w2 ⟨A2, n2, c2, rfl, own2, b2⟩; have v2 := v1.keep b2; have B2 : Hid (Below w.heap.size w w2) := hid (b1.trans (b2.mono b1.size)); clear v1 b2)
    | (refine wpList_alf rfl rfl ?_; intro w1 v1 b1 s1))
  exact bodyPost_ret (results_f1 Tryz.results27 _ rfl v3) rfl ⟨rfl, B3.out⟩
set_option maxRecDepth 100000 in
set_option maxHeartbeats 1000000 in
theorem read_some (A : Option Addr) (n c : Nat) (l : List Nat) (x : Fr) (is : Bool) (w : World) (HO : ∀ w' : World, Below w.heap.size w w' → Calls Tryz.prog 68 #[.slice A n c] w' (RetE w'.heap.size (bv l) 0 w')) (ho : Oct l) (hl : l.length ≤ 1048576) (hf : (frOf (flds l).1, (flds l).2) = (x, is)) :
    Calls Tryz.prog 27 #[.slice A n c] w fun e w' => e = .returned (if is = true ∧ OkF x then .tuple #[fv x, .int .i64 0] else .tuple #[fv fz, .int .i64 4]) ∧ Below w.heap.size w w' := by
  have H := hid HO
  have HF : Hid (∀ (A : Option Addr) (n c : Nat) (w : World), Row w w.heap.size A n (bv l) → n ≤ c → Calls Tryz.prog 69 #[.slice A n c] w fun e w' => e = .returned (.tuple #[fv x, .bool is]) ∧ Below w.heap.size w w') := hid (fun A n c w hr hnc => by
    have := fields_any A n c w.heap.size l w hr (Nat.le_refl _) ho hnc (by have := hr.1; rw [bv_len] at this; omega)
    rw [(Prod.mk.inj hf).1, (Prod.mk.inj hf).2] at this
    exact this)
  have HC := hid (fun w => check_any x w)
  clear HO ho hl hf
  cases is with
  | false =>
    rw [if_neg (fun e => by cases e.1)]
    go_enter Tryz.func27, Tryz.ntmps27
    go_wp2_with (first
      | (refine wpList_svf (x := fz) rfl (.tmp 2) (.tmp 29) rfl rfl rfl v5 ?_; intro w6 v6 b6 o6 _; have B6 : Hid (Below w.heap.size w w6) := hid (B5.out.trans b6))
      | (refine wpList_svf (x := x) rfl (.tmp 6) (.tmp 20) rfl rfl rfl u4 ?_; intro w5 u5 b5 o5 _; have v5 := v4.other o5 (by have := v3.lt; omega); have B5 : Hid (Below w.heap.size w w5) := hid (B4.out.trans (b5.mono B3.out.size)))
      | (refine wpList_alf rfl rfl ?_; intro w4 u4 b4 s4; have v4 := v3.keep b4; have B4 : Hid (Below w.heap.size w w4) := hid (B3.out.trans (b4.mono B3.out.size)))
      | (go_at_call 69; (with_reducible refine (HF.out A2 n2 c2 w2 own2.row own2.cap).mono ?_); rintro e w3 ⟨rfl, b3⟩; have v3 := v2.keep b3; have B3 : Hid (Below w.heap.size w w3) := hid (B2.out.trans (b3.mono B2.out.size)); clear v2 b3)
      | (go_at_call 68; (with_reducible refine (H.out w1 b1).mono ?_); rintro e w2 ⟨A2, n2, c2, rfl, own2, b2⟩; have v2 := v1.keep b2; have B2 : Hid (Below w.heap.size w w2) := hid (b1.trans (b2.mono b1.size)); clear v1 b2)
      | (refine wpList_alf rfl rfl ?_; intro w1 v1 b1 s1))
    exact bodyPost_ret (results_f1 Tryz.results27 _ rfl v6) rfl ⟨rfl, B6.out⟩
  | true =>
    by_cases hok : OkF x
    · rw [okE_ok hok] at HC
      rw [if_pos ⟨rfl, hok⟩]
      clear hok
      go_enter Tryz.func27, Tryz.ntmps27
      go_wp2_with (first
        | (refine wpList_svf (x := x) rfl (.tmp 2) (.tmp 30) rfl rfl rfl v6 ?_; intro w7 v7 b7 o7 _; have B7 : Hid (Below w.heap.size w w7) := hid (B6.out.trans b7))
        | (refine wpList_ldf rfl (.tmp 6) rfl rfl u6 ?_)
        | (go_at_call 61; (with_reducible refine (HC.out w5).mono ?_); rintro e w6 ⟨rfl, b6⟩; have v6 := v5.keep b6; have u6 := u5.keep b6; have B6 : Hid (Below w.heap.size w w6) := hid (B5.out.trans (b6.mono B5.out.size)))
        | (refine wpList_ldf rfl (.tmp 6) rfl rfl u5 ?_)
        | (refine wpList_svf (x := x) rfl (.tmp 6) (.tmp 20) rfl rfl rfl u4 ?_; intro w5 u5 b5 o5 _; have v5 := v4.other o5 (by have := v3.lt; omega); have B5 : Hid (Below w.heap.size w w5) := hid (B4.out.trans (b5.mono B3.out.size)))
        | (refine wpList_alf rfl rfl ?_; intro w4 u4 b4 s4; have v4 := v3.keep b4; have B4 : Hid (Below w.heap.size w w4) := hid (B3.out.trans (b4.mono B3.out.size)))
        | (go_at_call 69; (with_reducible refine (HF.out A2 n2 c2 w2 own2.row own2.cap).mono ?_); rintro e w3 ⟨rfl, b3⟩; have v3 := v2.keep b3; have B3 : Hid (Below w.heap.size w w3) := hid (B2.out.trans (b3.mono B2.out.size)); clear v2 b3)
        | (go_at_call 68; (with_reducible refine (H.out w1 b1).mono ?_); rintro e w2 ⟨A2, n2, c2, rfl, own2, b2⟩; have v2 := v1.keep b2; have B2 : Hid (Below w.heap.size w w2) := hid (b1.trans (b2.mono b1.size)); clear v1 b2)
        | (refine wpList_alf rfl rfl ?_; intro w1 v1 b1 s1))
      exact bodyPost_ret (results_f1 Tryz.results27 _ rfl v7) rfl ⟨rfl, B7.out⟩
    · rw [okE_bad hok] at HC
      rw [if_neg (fun e => hok e.2)]
      clear hok
      go_enter Tryz.func27, Tryz.ntmps27
      go_wp2_with (first
        | (refine wpList_svf (x := fz) rfl (.tmp 2) (.tmp 29) rfl rfl rfl v6 ?_; intro w7 v7 b7 o7 _; have B7 : Hid (Below w.heap.size w w7) := hid (B6.out.trans b7))
        | (go_at_call 61; (with_reducible refine (HC.out w5).mono ?_); rintro e w6 ⟨rfl, b6⟩; have v6 := v5.keep b6; have B6 : Hid (Below w.heap.size w w6) := hid (B5.out.trans (b6.mono B5.out.size)))
        | (refine wpList_ldf rfl (.tmp 6) rfl rfl u5 ?_)
        | (refine wpList_svf (x := x) rfl (.tmp 6) (.tmp 20) rfl rfl rfl u4 ?_; intro w5 u5 b5 o5 _; have v5 := v4.other o5 (by have := v3.lt; omega); have B5 : Hid (Below w.heap.size w w5) := hid (B4.out.trans (b5.mono B3.out.size)))
        | (refine wpList_alf rfl rfl ?_; intro w4 u4 b4 s4; have v4 := v3.keep b4; have B4 : Hid (Below w.heap.size w w4) := hid (B3.out.trans (b4.mono B3.out.size)))
        | (go_at_call 69; (with_reducible refine (HF.out A2 n2 c2 w2 own2.row own2.cap).mono ?_); rintro e w3 ⟨rfl, b3⟩; have v3 := v2.keep b3; have B3 : Hid (Below w.heap.size w w3) := hid (B2.out.trans (b3.mono B2.out.size)); clear v2 b3)
        | (go_at_call 68; (with_reducible refine (H.out w1 b1).mono ?_); rintro e w2 ⟨A2, n2, c2, rfl, own2, b2⟩; have v2 := v1.keep b2; have B2 : Hid (Below w.heap.size w w2) := hid (b1.trans (b2.mono b1.size)); clear v1 b2)
        | (refine wpList_alf rfl rfl ?_; intro w1 v1 b1 s1))
      exact bodyPost_ret (results_f1 Tryz.results27 _ rfl v7) rfl ⟨rfl, B7.out⟩
theorem read_any (A : Option Addr) (n c B : Nat) (bs : List Nat) (w : World) (ha : Row w B A n (bv bs)) (hB : B ≤ w.heap.size) (ho : Oct bs) (hnc : n ≤ c) (hn : n ≤ 1048579) :
    Calls Tryz.prog 27 #[.slice A n c] w fun e w' => e = .returned (.tuple #[fv (rd bs).1, .int .i64 ((rd bs).2 : Nat)]) ∧ Below w.heap.size w w' := by
  have hl : bs.length = n := by rw [← bv_len]; exact ha.1
  unfold rd
  rw [hl]
  by_cases h3 : n < 3
  · rw [if_pos h3]
    exact read_none A n c 3 w rfl (fun w' _ => open24_short A n c w' h3)
  · rw [if_neg h3, if_neg (by omega)]
    by_cases ht : tail24 (bs.take (n - 3)) = bs.drop (n - 3)
    · rw [if_pos ht]
      refine (read_some A n c (bs.take (n - 3)) _ _ w (fun w' hb => open24_ok A n c B bs w' (ha.below (hb.mono hB)) (Nat.le_trans hB hb.size) ho (by omega) (by omega) hnc ht) (ho.take _) (by rw [List.length_take]; omega) rfl).mono ?_
      rintro e w' ⟨rfl, b⟩
      refine ⟨?_, b⟩
      split <;> rfl
    · rw [if_neg ht]
      exact read_none A n c 5 w rfl (fun w' hb => open24_bad A n c B bs w' (ha.below (hb.mono hB)) (Nat.le_trans hB hb.size) ho (by omega) (by omega) hnc ht)
end Go.Proofs.YtlgedfljmgedfaaGreat.F8
