/-
  frame.fields: what it answers, at every text.
-/
import Derived.Test.YtldegdhpblkhhaaU
namespace Go.Proofs.Ytldegdhpblkhhaa
open Go Go.RowKit
theorem tf_place (l : List Nat) (k wd x p e : Nat) (ho : Oct l) (h : tf l k wd = (x, p, e)) : x < 256 ^ wd ∧ p ≤ l.length := by
  unfold tf at h
  split at h
  · rename_i hh
    obtain ⟨rfl, h2⟩ := Prod.mk.inj h
    obtain ⟨rfl, rfl⟩ := Prod.mk.inj h2
    refine ⟨Nat.lt_of_lt_of_le (fxv_lt _ ((ho.drop k).take wd)) (Nat.pow_le_pow_right (by omega) (by rw [List.length_take]; omega)), hh⟩
  · obtain ⟨rfl, h2⟩ := Prod.mk.inj h
    obtain ⟨rfl, rfl⟩ := Prod.mk.inj h2
    exact ⟨Nat.pow_pos (by omega), Nat.zero_le _⟩
theorem tv_shape : ∀ (l : List Nat) (f : Bool) (acc k : Nat), (tv f acc k l).2.2 = 0 ∨ ((tv f acc k l).1 = 0 ∧ (tv f acc k l).2.1 = 0)
  | [], f, acc, k => .inr ⟨rfl, rfl⟩
  | x :: r, f, acc, k => by
    rw [tv]
    split
    · exact .inr ⟨rfl, rfl⟩
    · split
      · exact .inl rfl
      · exact tv_shape r false _ _
theorem tv_place (l : List Nat) (k x p e : Nat) (ho : Oct l) (hk : k ≤ l.length) (h : tv true 0 k (l.drop k) = (x, p, e)) : x < 18446744073709551616 ∧ p ≤ l.length := by
  have hs := tv_shape (l.drop k) true 0 k
  rw [h] at hs
  rcases hs with hs | ⟨h1, h2⟩
  · simp only at hs
    subst hs
    obtain ⟨t1, t2, t3, _⟩ := tv_back (l.drop k) k x p (ho.drop k) h
    rw [List.length_drop] at t3
    exact ⟨t1, by omega⟩
  · simp only at h1 h2
    subst h1 h2
    exact ⟨by omega, Nat.zero_le _⟩
theorem fixedr_1 (w : World) : Calls Try.prog 47 #[.int .i64 1] w fun r w' => r = .returned (.func (.func 53) #[] #[.pointer (some ⟨w.heap.size, 0, none⟩)]) ∧ w'.cell? ⟨w.heap.size, 0, none⟩ = some (.int .i64 ((1 : Nat) : Int)) ∧ Below w.heap.size w w' := fixedr_any 1 w
theorem fixedr_2 (w : World) : Calls Try.prog 47 #[.int .i64 2] w fun r w' => r = .returned (.func (.func 53) #[] #[.pointer (some ⟨w.heap.size, 0, none⟩)]) ∧ w'.cell? ⟨w.heap.size, 0, none⟩ = some (.int .i64 ((2 : Nat) : Int)) ∧ Below w.heap.size w w' := fixedr_any 2 w
theorem results_f1 {w : World} {g : Nat} {x : Fr} {fn : Func} {p r : Tmp} (h : fn.results = #[.cell p 25, .tmp r]) (tmps : Array Value) (hp : tmps.getD p undef = .pointer (some ⟨g, 0, none⟩)) (hx : VarF w g x) :
    (results fn tmps).run Try.prog w = .ok (.tuple #[fv x, tmps.getD r undef]) w := by
  have := ldfv hx
  have hp' : tmps[p]?.getD undef = .pointer (some ⟨g, 0, none⟩) := by simpa using hp
  simp only [results, h]
  simp [Result.andThen, hp', this, asAddr]
/-- How the reading begins. -/
theorem Fs.start (w w2 : World) (A : Option Addr) (n c : Nat) (v2 : VarF w2 (w.alloc (Obj.cells #[.slice A n c] 26)).heap.size fz) (b2 : Below (w.alloc (Obj.cells #[.slice A n c] 26)).heap.size (w.alloc (Obj.cells #[.slice A n c] 26)) w2) (s2 : w2.heap.size = (w.alloc (Obj.cells #[.slice A n c] 26)).heap.size + 1) :
    Fs w ((w2.alloc (Obj.cells #[.int .i64 0] 3)).alloc (Obj.cells #[.bool true] 4)) w.heap.size (w.heap.size + 1) w2.heap.size (w2.heap.size + 1) A n c 0 true := by
  have z1 : (w.alloc (Obj.cells #[.slice A n c] 26)).heap.size = w.heap.size + 1 := by simp
  rw [z1] at v2 b2 s2
  have k2 : Below w2.heap.size w2 ((w2.alloc (Obj.cells #[.int .i64 0] 3)).alloc (Obj.cells #[.bool true] 4)) := ((Below.refl _ _).alloc (Nat.le_refl _) _).alloc (by simp) _
  have t1 : (w.alloc (Obj.cells #[.slice A n c] 26)).cell? ⟨w.heap.size, 0, none⟩ = some (.slice A n c) := by
    rw [cell_of_row _ _ _ _ _ (0, 0) (heap_alloc_new w _)]; rfl
  have a1 : (w2.alloc (Obj.cells #[.int .i64 0] 3)).heap[w2.heap.size]? = some (.cells #[.int .i64 0] 3) := heap_alloc_new w2 _
  have a2 : ((w2.alloc (Obj.cells #[.int .i64 0] 3)).alloc (Obj.cells #[.bool true] 4)).heap[w2.heap.size]? = some (.cells #[.int .i64 0] 3) := by
    rw [← a1]; exact (((Below.refl (w2.heap.size + 1) (w2.alloc (Obj.cells #[.int .i64 0] 3))).alloc (by simp) (Obj.cells #[.bool true] 4)).block w2.heap.size (by omega))
  have h1 : ((w2.alloc (Obj.cells #[.int .i64 0] 3)).alloc (Obj.cells #[.bool true] 4)).heap[w2.heap.size + 1]? = some (.cells #[.bool true] 4) := heap_alloc_new' _ _ (by simp)
  exact ⟨(((Below.refl _ w).alloc (Nat.le_refl _) _).trans (b2.mono (by omega))).trans (k2.mono (by omega)),
    (k2.cell (p := ⟨w.heap.size, 0, none⟩) (by show w.heap.size < _; omega)).trans ((b2.cell (p := ⟨w.heap.size, 0, none⟩) (by show w.heap.size < _; omega)).trans t1),
    by rw [cell_of_row _ _ _ _ _ (0, 0) a2]; rfl, by rw [cell_of_row _ _ _ _ _ (0, 0) h1]; rfl, frozen_of_row _ _ _ _ _ a2, frozen_of_row _ _ _ _ _ h1, v2.keep k2, Nat.le_refl _, by omega, by omega, by omega, by simp⟩
set_option maxRecDepth 100000 in
set_option maxHeartbeats 2000000 in
theorem fields_any (A : Option Addr) (n c B : Nat) (l : List Nat) (w : World) (hr : Row w B A n (bv l)) (hB : B ≤ w.heap.size) (ho : Oct l) (hnc : n ≤ c) (hn : n ≤ 1048576) :
    Calls Try.prog 31 #[.slice A n c] w fun e w' => e = .returned (.tuple #[fv (frOf (flds l).1), .bool (flds l).2]) ∧ Below w.heap.size w w' := by
  have hl : l.length = n := by rw [← bv_len]; exact hr.1
  obtain ⟨x0, p0, e0, h0⟩ : ∃ x p e, tf l 0 1 = (x, p, e) := ⟨_, _, _, rfl⟩
  obtain ⟨x1, p1, e1, h1⟩ : ∃ x p e, tf l p0 1 = (x, p, e) := ⟨_, _, _, rfl⟩
  obtain ⟨x2, p2, e2, h2⟩ : ∃ x p e, tf l p1 1 = (x, p, e) := ⟨_, _, _, rfl⟩
  obtain ⟨x3, p3, e3, h3⟩ : ∃ x p e, tv true 0 p2 (l.drop p2) = (x, p, e) := ⟨_, _, _, rfl⟩
  obtain ⟨x4, p4, e4, h4⟩ : ∃ x p e, tf l p3 2 = (x, p, e) := ⟨_, _, _, rfl⟩
  obtain ⟨y0, q0⟩ := tf_place l 0 1 x0 p0 e0 ho h0
  obtain ⟨y1, q1⟩ := tf_place l p0 1 x1 p1 e1 ho h1
  obtain ⟨y2, q2⟩ := tf_place l p1 1 x2 p2 e2 ho h2
  obtain ⟨y3, q3⟩ := tv_place l p2 x3 p3 e3 ho q2 h3
  obtain ⟨y4, q4⟩ := tf_place l p3 2 x4 p4 e4 ho h4
  have HF : Hid (flds l = ((x1, x2, x3, x4), decide (x0 = 161 ∧ e0 = 0 ∧ e1 = 0 ∧ e2 = 0 ∧ e3 = 0 ∧ e4 = 0 ∧ p4 = n))) := hid (by
    unfold flds; simp only [h0, h1, h2, h3, h4, hl])
  have R0 := hid (fun (w' : World) g hg (hb : Below w.heap.size w w') => fixed1_any A n c B 0 1 g l w' hg (hr.below (hb.mono hB)) ho hnc (by omega) (by omega) (by omega) (by omega))
  have R1 := hid (fun (w' : World) g hg (hb : Below w.heap.size w w') => fixed1_any A n c B p0 1 g l w' hg (hr.below (hb.mono hB)) ho hnc (by omega) (by omega) (by omega) (by omega))
  have R2 := hid (fun (w' : World) g hg (hb : Below w.heap.size w w') => fixed1_any A n c B p1 1 g l w' hg (hr.below (hb.mono hB)) ho hnc (by omega) (by omega) (by omega) (by omega))
  have R3 := hid (fun (w' : World) (hb : Below w.heap.size w w') => takeVary_any A n c B p2 l w' (hr.below (hb.mono hB)) ho (by omega))
  have R4 := hid (fun (w' : World) g hg (hb : Below w.heap.size w w') => fixed1_any A n c B p3 2 g l w' hg (hr.below (hb.mono hB)) ho hnc (by omega) (by omega) (by omega) (by omega))
  rw [h0] at R0
  rw [h1] at R1
  rw [h2] at R2
  rw [h3] at R3
  rw [h4] at R4
  have HL := hid hl
  clear h0 h1 h2 h3 h4 q0 q1 q2 q3 q4 hr ho hl
  go_enter Try.func31, Try.ntmps31
  go_wp2_with (first
    | (refine wpList_alf rfl rfl ?_; intro w2 v2 b2 s2))
  have F0 := Fs.start w w2 A n c v2 b2 s2.out
  clear v2 b2 s2
  generalize ((w2.alloc (Obj.cells #[.int .i64 0] 3)).alloc (Obj.cells #[.bool true] 4)) = W0 at *
  generalize w2.heap.size + 1 = gw at *
  generalize w2.heap.size = ga at *
  generalize w.heap.size + 1 = g2 at *
  obtain ⟨gt, hgt⟩ : ∃ gt, gt = w.heap.size := ⟨_, rfl⟩
  rw [← hgt] at F0
  rw [← hgt]
  clear hgt
  simp only [Nat.pow_one] at y0 y1 y2
  have y4' : x4 < 65536 := by simpa using y4
  clear y4
  go_wp2_with (first
    | (go_at_call 46; (with_reducible refine (take53 w W8 gt g2 ga gw _ n c p3 x4 p4 e4 A ((((true && decide (e0 = 0)) && decide (e1 = 0)) && decide (e2 = 0)) && decide (e3 = 0)) F8 (R4.out W8 _ G8 F8.bel)).mono ?_); rintro e W9 ⟨rfl, F9⟩; clear F8 G8)
    | (go_at_call 47; (with_reducible refine (fixedr_2 W7).mono ?_); rintro e W8 ⟨rfl, G8, b8⟩; have F8 := F7.keep b8; clear b8 F7)
    | (go_at_call 46; (with_reducible refine (take48 w W6 gt g2 ga gw n c p2 x3 p3 e3 A (((true && decide (e0 = 0)) && decide (e1 = 0)) && decide (e2 = 0)) F6 (R3.out W6 F6.bel)).mono ?_); rintro e W7 ⟨rfl, F7⟩; clear F6)
    | (go_at_call 46; (with_reducible refine (take53 w W5 gt g2 ga gw _ n c p1 x2 p2 e2 A ((true && decide (e0 = 0)) && decide (e1 = 0)) F5 (R2.out W5 _ G5 F5.bel)).mono ?_); rintro e W6 ⟨rfl, F6⟩; clear F5 G5)
    | (go_at_call 47; (with_reducible refine (fixedr_1 W4).mono ?_); rintro e W5 ⟨rfl, G5, b5⟩; have F5 := F4.keep b5; clear b5 F4)
    | (go_at_call 46; (with_reducible refine (take53 w W3 gt g2 ga gw _ n c p0 x1 p1 e1 A (true && decide (e0 = 0)) F3 (R1.out W3 _ G3 F3.bel)).mono ?_); rintro e W4 ⟨rfl, F4⟩; clear F3 G3)
    | (go_at_call 47; (with_reducible refine (fixedr_1 W2).mono ?_); rintro e W3 ⟨rfl, G3, b3⟩; have F3 := F2.keep b3; clear b3 F2)
    | (go_at_call 46; (with_reducible refine (take53 w W1 gt g2 ga gw _ n c 0 x0 p0 e0 A true F1 (R0.out W1 _ G1 F1.bel)).mono ?_); rintro e W2 ⟨rfl, F2⟩; clear F1 G1)
    | (go_at_call 47; (with_reducible refine (fixedr_1 W0).mono ?_); rintro e W1 ⟨rfl, G1, b1⟩; have F1 := F0.keep b1; clear b1 F0))
  have F10 := F9.keep ((Below.refl _ _).alloc (Nat.le_refl _) (Obj.cells (encf ⟨(x1 : Int), (x2 : Int), x3, x4⟩).toArray 25))
  have V10 := varf_new W9 ⟨(x1 : Int), (x2 : Int), x3, x4⟩
  have hgs : gw < W9.heap.size := F9.lt
  clear F9 R0 R1 R2 R3 R4
  change Fs w (W9.alloc (Obj.cells #[.int .i64 (x1 : Int), .int .i64 (x2 : Int), .int .u64 (x3 : Int), .int .u16 (x4 : Int)] 25)) gt g2 ga gw A n c p4 _ at F10
  change VarF (W9.alloc (Obj.cells #[.int .i64 (x1 : Int), .int .i64 (x2 : Int), .int .u64 (x3 : Int), .int .u16 (x4 : Int)] 25)) W9.heap.size _ at V10
  generalize (W9.alloc (Obj.cells #[.int .i64 (x1 : Int), .int .i64 (x2 : Int), .int .u64 (x3 : Int), .int .u16 (x4 : Int)] 25)) = W10 at *
  generalize W9.heap.size = gs at *
  have ct := F10.t
  have ca := F10.a
  have ch := F10.h
  have s0 := V10.c0
  have s1 := V10.c1
  have s2 := V10.c2
  have s3 := V10.c3
  have d0 := F10.v.c0
  have d1 := F10.v.c1
  have d2 := F10.v.c2
  have d3 := F10.v.c3
  have f0 : W10.frozen? ⟨g2, 0, none⟩ = false := (F10.v.2 0 (by omega)).2
  have f1 : W10.frozen? ⟨g2, 1, none⟩ = false := (F10.v.2 1 (by omega)).2
  have f2 : W10.frozen? ⟨g2, 2, none⟩ = false := (F10.v.2 2 (by omega)).2
  have f3 : W10.frozen? ⟨g2, 3, none⟩ = false := (F10.v.2 3 (by omega)).2
  have FF := hid F10
  have n1 : ¬ g2 = gt := by have := F10.o1; omega
  have n2 : ¬ g2 = ga := by have := F10.o2; omega
  have n3 : ¬ g2 = gw := by have := F10.o2; have := F10.o3; omega
  have n4 : ¬ g2 = gs := by have := F10.o2; have := F10.o3; omega
  clear F10 V10 hgs
  have HW := hid (show decide (x0 = 161 ∧ e0 = 0 ∧ e1 = 0 ∧ e2 = 0 ∧ e3 = 0 ∧ e4 = 0 ∧ p4 = n) = (((x0 : Int) == 161) && (true && decide (e0 = 0) && decide (e1 = 0) && decide (e2 = 0) && decide (e3 = 0) && decide (e4 = 0)) && ((p4 : Int) == (n : Int))) by
    rw [Bool.eq_iff_iff]; simp; omega)
  generalize (true && decide (e0 = 0) && decide (e1 = 0) && decide (e2 = 0) && decide (e3 = 0) && decide (e4 = 0)) = wh at *
  generalize ((x0 : Int) == 161) = mk at *
  generalize hpn : ((p4 : Int) == (n : Int)) = pn at *
  have VF : Hid (VarF ((((W10.setCell ⟨g2, 0, none⟩ (.int .i64 (x1 : Int))).setCell ⟨g2, 1, none⟩ (.int .i64 (x2 : Int))).setCell ⟨g2, 2, none⟩ (.int .u64 (x3 : Int))).setCell ⟨g2, 3, none⟩ (.int .u16 (x4 : Int))).drew g2 ⟨(x1 : Int), (x2 : Int), x3, x4⟩ ∧
      Below w.heap.size w ((((W10.setCell ⟨g2, 0, none⟩ (.int .i64 (x1 : Int))).setCell ⟨g2, 1, none⟩ (.int .i64 (x2 : Int))).setCell ⟨g2, 2, none⟩ (.int .u64 (x3 : Int))).setCell ⟨g2, 3, none⟩ (.int .u16 (x4 : Int))).drew) := hid (by
    have hv := varf_stored FF.out.v.2 ⟨(x1 : Int), (x2 : Int), x3, x4⟩
    have hb := (setCells_oth g2 (encf ⟨(x1 : Int), (x2 : Int), x3, x4⟩) 0 W10).1
    exact ⟨hv.keep (Below.refl _ _).drew, (FF.out.bel.trans (hb.mono (by have := FF.out.o0; have := FF.out.o1; omega))).drew⟩)
  clear FF
  cases mk with
  | false =>
    go_region
    go_wp2
    exact bodyPost_ret (results_f1 Try.results31 _ rfl VF.out.1) rfl ⟨by rw [HF.out, HW.out]; simp [frOf], VF.out.2⟩
  | true =>
    cases wh with
    | false =>
      go_region
      go_wp2
      exact bodyPost_ret (results_f1 Try.results31 _ rfl VF.out.1) rfl ⟨by rw [HF.out, HW.out]; simp [frOf], VF.out.2⟩
    | true =>
      go_region
      go_wp2
      exact bodyPost_ret (results_f1 Try.results31 _ rfl VF.out.1) rfl ⟨by rw [HF.out, HW.out]; simp [frOf], VF.out.2⟩
end Go.Proofs.Ytldegdhpblkhhaa
