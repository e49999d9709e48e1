/-
  The walk of FrameSizes: it returns true at every two frames.
-/
import Derived.Test.YtldegdhpblkhhaaG
import Derived.Test.YtldegdhpblkhhaaR
import Derived.Laws.StructEq
import Derived.Deep.RegionHeld3
import Derived.Deep.DeepCutAuto
namespace Go.Proofs.Ytldegdhpblkhhaa
open Go Go.RowKit
theorem fo25 : Try.prog.underlying 25 = some (.struct (Try.prog.fieldsOf 25)) := by kernel_rfl
theorem si25 : Try.prog.stoodInHeld 25 = false := by kernel_rfl
theorem eg25 : Try.prog.eqGuardType Try.prog.depth 25 = false := by kernel_rfl
theorem eqIn (x y : Fr) (w : World) : (Op.equalIn 10000 25 (fv x) (fv y)).run Try.prog w = .ok (decide (x = y)) w := by
  obtain ⟨x1, x2, x3, x4⟩ := x
  obtain ⟨y1, y2, y3, y4⟩ := y
  unfold fv encf
  rw [run_equalIn_agg w 9999 25 _ _ fo25 si25]
  simp [go_sem]
  by_cases h1 : x1 = y1 <;> by_cases h2 : x2 = y2 <;> by_cases h3 : x3 = y3 <;> by_cases h4 : x4 = y4 <;> simp [h1, h2, h3, h4] <;> omega
theorem eqFr (x y : Fr) (w : World) : (binOp .eql 25 (fv x) (fv y)).run Try.prog w = .ok (.bool (decide (x = y))) w := by
  have := eqIn x y w
  unfold fv at this ⊢
  rw [run_eql_struct, this]; rfl
theorem neFr (x y : Fr) (w : World) : (binOp .neq 25 (fv x) (fv y)).run Try.prog w = .ok (.bool (!decide (x = y))) w := by
  have := eqIn x y w
  unfold fv at this ⊢
  rw [run_neq_struct, this]; rfl
theorem guFr (op : BinOp) (a b : Operand) (x y : Fr) (w : World) : (eqGuard op 25 a b (fv x) (fv y)).run Try.prog w = .ok () w := run_eqGuard_agg w op 25 a b _ _ eg25

/-- Either it is written, or told that it may not be. -/
def WrP (base : Nat) (x : Fr) (w : World) (e : Ending) (w' : World) : Prop := (OkF x ∧ RetE base (bv (sealedF x)) 0 w e w') ∨ (¬ OkF x ∧ RetE base [] 1 w e w')
theorem write_any (x : Fr) (w : World) (hm : x.m < 65536) : Calls Try.prog 9 #[fv x] w (WrP w.heap.size x w) := by
  by_cases h : OkF x
  · exact (write_ok x w h hm).mono fun e w' r => .inl ⟨h, r⟩
  · exact (write_bad x w h).mono fun e w' r => .inr ⟨h, r⟩
theorem refvary_nil (s g : Nat) (w : World) (hg : g = w.heap.size) (hs : s < 18446744073709551616) :
    Calls Try.prog 26 #[.slice none 0 0, .slice (some ⟨g, 0, none⟩) 1 1] (w.alloc (Obj.cells #[.int .u64 (s : Int)] 22)).drew
      fun e w' => ∃ A n c, e = .returned (.slice A n c) ∧ n = (vary s).length ∧ Below w.heap.size w w' := by
  refine (refVary_any none (some ⟨g, 0, none⟩) 0 0 1 1 0 (g + 1) [] [s] (w.alloc (Obj.cells #[.int .u64 (s : Int)] 22)).drew (Row.nil _ _ _) ((Row.laid' w 22 [.int .u64 (s : Int)] g hg).keep (fun _ _ => rfl)) (by subst hg; show w.heap.size + 1 ≤ (w.alloc _).heap.size; simp) (by intro y hy; simp at hy; omega) (by omega) (by omega)).mono ?_
  rintro e w3 ⟨A3, n3, c3, rfl, own3, bel3⟩
  refine ⟨A3, n3, c3, rfl, ?_, ((Below.refl _ w).alloc (Nat.le_refl _) _).drew.trans (bel3.mono (by show w.heap.size ≤ (w.alloc _).heap.size; simp))⟩
  have := own3.len
  rw [List.nil_append, varies1, bv_len] at this
  exact this.symm
set_option maxRecDepth 100000 in
set_option maxHeartbeats 4000000 in
theorem sizes_row {w : World} (x : Fr) (_ : In64 x.k) (_ : In64 x.f) (xs : x.s < 18446744073709551616) (xm : x.m < 65536) (y : Fr) (_ : In64 y.k) (_ : In64 y.f) (_ : y.s < 18446744073709551616) (ym : y.m < 65536) :
    Calls Try.prog 7 #[fv x, fv y] w fun e w' => e = .returned (.bool true) ∧ Below w.heap.size w w' := by
  have HX := hid xm
  have HY := hid ym
  go_enter Try.func7, Try.ntmps7
  go_wp2_with (first
    | (refine wpList_ldf rfl (.tmp 2) rfl rfl v3 ?_)
    | (go_at_call 8; (with_reducible refine (live_any w2).mono ?_); rintro e w3 ⟨rfl, b3⟩; have v3 := v2.keep b3; have u3 := u2.keep b3; have B3 : Hid (Below w.heap.size w w3) := hid (B2.out.trans (b3.mono B2.out.size)); clear v2 u2 b3)
    | (refine wpList_boxf (x := y) rfl (.tmp 1) rfl rfl ?_; intro w2 u2 b2 s2; have v2 := v1.below b2 v1.lt; have B2 : Hid (Below w.heap.size w w2) := hid (b1.trans (b2.mono b1.size)))
    | (refine wpList_boxf (x := x) rfl (.tmp 0) rfl rfl ?_; intro w1 v1 b1 s1))
  refine (write_any x w3 HX.out).mono ?_
  rintro e w4 (⟨okx, A1, n1, c1, rfl, own1, b4⟩ | ⟨badx, A1, n1, c1, rfl, own1, b4⟩)
  · have v4 := v3.keep b4
    have u4 := u3.keep b4
    have B4 : Hid (Below w.heap.size w w4) := hid (B3.out.trans (b4.mono B3.out.size))
    have R4 : Hid (Row w4 w4.heap.size A1 n1 (bv (sealedF x))) := hid own1.row
    have OX := hid okx
    have N1 : Hid (n1 = 9 + gn x.s) := hid (by have := own1.len; rw [bv_len, sealedF_len] at this; exact this.symm)
    clear own1 b4 v3 u3 okx
    go_wp2_with (first | (refine wpList_ldf rfl (.tmp 3) rfl rfl u4 ?_))
    refine (write_any y w4 HY.out).mono ?_
    rintro e w5 (⟨oky, A2, n2, c2, rfl, own2, b5⟩ | ⟨bady, A2, n2, c2, rfl, own2, b5⟩)
    · have v5 := v4.keep b5
      have u5 := u4.keep b5
      have B5 : Hid (Below w.heap.size w w5) := hid (B4.out.trans (b5.mono B4.out.size))
      have R5 : Hid (Row w5 w5.heap.size A1 n1 (bv (sealedF x))) := hid ((R4.out.below b5).more b5.size)
      have T5 : Hid (Row w5 w5.heap.size A2 n2 (bv (sealedF y))) := hid own2.row
      have OY := hid oky
      have HE : Hid (decide (sealedF x = sealedF y) = decide (x = y)) := hid (by
        rw [decide_eq_decide]
        exact ⟨sealedF_inj x y OX.out OY.out HX.out HY.out, fun e => by rw [e]⟩)
      have LV := hid (vary_len x.s)
      have hg := gn_slot x.s OX.out.2.2.2
      have a0 := v5.c0
      have a1 := v5.c1
      have a2 := v5.c2
      have a3 := v5.c3
      have d0 := u5.c0
      have d1 := u5.c1
      have d2 := u5.c2
      have d3 := u5.c3
      have q1 : ∀ w, (binOp .eql 25 (.agg #[.int .i64 x.k, .int .i64 x.f, .int .u64 (x.s : Int), .int .u16 (x.m : Int)]) (.agg #[.int .i64 y.k, .int .i64 y.f, .int .u64 (y.s : Int), .int .u16 (y.m : Int)])).run Try.prog w = .ok (.bool (decide (x = y))) w := fun w => eqFr x y w
      have q2 : ∀ op a b w, (eqGuard op 25 a b (.agg #[.int .i64 x.k, .int .i64 x.f, .int .u64 (x.s : Int), .int .u16 (x.m : Int)]) (.agg #[.int .i64 y.k, .int .i64 y.f, .int .u64 (y.s : Int), .int .u16 (y.m : Int)])).run Try.prog w = .ok () w := fun op a b w => guFr op a b x y w
      have hn13 : n1 ≤ 13 := by have := N1.out; omega
      have hle : decide ((n1 : Int) ≤ 13) = true := by rw [decide_eq_true_eq]; omega
      clear own2 b5 v4 u4 oky R4
      go_wp2_with fail
      go_region_held3 (fun w' => w'.cell? ⟨w.heap.size, 0, none⟩ = some (.int .i64 x.k) ∧ w'.cell? ⟨w.heap.size, 1, none⟩ = some (.int .i64 x.f) ∧ w'.cell? ⟨w.heap.size, 2, none⟩ = some (.int .u64 (x.s : Int)) ∧ w'.cell? ⟨w.heap.size, 3, none⟩ = some (.int .u16 (x.m : Int)) ∧ w'.cell? ⟨w1.heap.size, 0, none⟩ = some (.int .i64 y.k) ∧ w'.cell? ⟨w1.heap.size, 1, none⟩ = some (.int .i64 y.f) ∧ w'.cell? ⟨w1.heap.size, 2, none⟩ = some (.int .u64 (y.s : Int)) ∧ w'.cell? ⟨w1.heap.size, 3, none⟩ = some (.int .u16 (y.m : Int)))
        (first | with_reducible exact ⟨a0, a1, a2, a3, d0, d1, d2, d3⟩ | with_reducible exact ⟨e0, e1, e2, e3, f0, f1, f2, f3⟩ | go_keep)
        (first
          | (go_at_call 26; refine (refvary_nil x.s _ w5 rfl xs).mono ?_; rintro e w6 ⟨A6, n6, c6, rfl, hn6, b6⟩; have v6 := v5.keep b6; have u6 := u5.keep b6; have e0 := v6.c0; have e1 := v6.c1; have e2 := v6.c2; have e3 := v6.c3; have f0 := u6.c0; have f1 := u6.c1; have f2 := u6.c2; have f3 := u6.c3; have B6 : Hid (Below w.heap.size w w6) := hid (B5.out.trans (b6.mono B5.out.size)); have hq : IntKind.i64.wrap (8 + (n6 : Int)) = (n1 : Int) := (by rw [IntKind.wrap_i64]; have := LV.out; have := N1.out; omega); clear hn6; have SA : Hid (Row w6 w5.heap.size A1 n1 (bv (sealedF x))) := hid (R5.out.below b6); have SB : Hid (Row w6 w5.heap.size A2 n2 (bv (sealedF y))) := hid (T5.out.below b6); dsimp only)
          | (go_at_call 14; refine (same_any A1 A2 n1 c1 n2 c2 w5.heap.size w5.heap.size (sealedF x) (sealedF y) (decide (x = y)) _ (SA.out.keep (fun _ _ => rfl)) (SB.out.keep (fun _ _ => rfl)) (sealedF_oct x OX.out) (sealedF_oct y OY.out) HE.out).mono ?_; rintro e w' ⟨rfl, rfl⟩; dsimp only))
      all_goals
        go_wp2
        go_ret
        exact ⟨ret_bool (by simp), B6.out⟩
    · go_wp2_with fail
      go_ret
      exact ⟨rfl, B4.out.trans (b5.mono B4.out.size)⟩
  · have u4 := u3.keep b4
    have B4 : Hid (Below w.heap.size w w4) := hid (B3.out.trans (b4.mono B3.out.size))
    go_wp2_with (first
      | (go_at_call 9; (with_reducible refine (write_any y w4 HY.out).mono ?_); rintro e w5 (⟨oky, A2, n2, c2, rfl, own2, b5⟩ | ⟨bady, A2, n2, c2, rfl, own2, b5⟩))
      | (refine wpList_ldf rfl (.tmp 3) rfl rfl u4 ?_))
    all_goals
      go_wp2_with fail
      go_ret
      exact ⟨rfl, B4.out.trans (b5.mono B4.out.size)⟩
end Go.Proofs.Ytldegdhpblkhhaa
