/-
  A guardian compared (knows), ticks, and what may be: guard.checkTicks, guard.Check, guard.fits, guard.owns: what each answers, at every argument.
-/
import Derived.Test.YtpncbfhbiifncaaD
import Derived.Test.YtpncbfhbiifncaaVG
import Derived.Test.YtpncbfhbiifncaaVF
import Derived.Laws.StructEq
import Derived.Deep.RegionHeld3
import Derived.Deep.DeepCutAuto
namespace Go.Proofs.Ytpncbfhbiifncaa
open Go Go.RowKit
theorem fo24 : Try.prog.underlying 24 = some (.struct (Try.prog.fieldsOf 24)) := by kernel_rfl
theorem si24 : Try.prog.stoodInHeld 24 = false := by kernel_rfl
theorem eg24 : Try.prog.eqGuardType Try.prog.depth 24 = false := by kernel_rfl
theorem eqIn (x y : Gd) (w : World) : (Op.equalIn 10000 24 (gv x) (gv y)).run Try.prog w = .ok (decide (x = y)) w := by
  obtain ⟨x1, x2, x3, x4⟩ := x
  obtain ⟨y1, y2, y3, y4⟩ := y
  unfold gv encg
  rw [run_equalIn_agg w 9999 24 _ _ fo24 si24]
  simp [go_sem]
  by_cases h1 : x1 = y1 <;> by_cases h2 : x2 = y2 <;> by_cases h3 : x3 = y3 <;> by_cases h4 : x4 = y4 <;> simp [h1, h2, h3, h4]
theorem eqGd (x y : Gd) (w : World) : (binOp .eql 24 (gv x) (gv y)).run Try.prog w = .ok (.bool (decide (x = y))) w := by
  have := eqIn x y w
  unfold gv at this ⊢
  rw [run_eql_struct, this]; rfl
theorem neGd (x y : Gd) (w : World) : (binOp .neq 24 (gv x) (gv y)).run Try.prog w = .ok (.bool (!decide (x = y))) w := by
  have := eqIn x y w
  unfold gv at this ⊢
  rw [run_neq_struct, this]; rfl
theorem guGd (op : BinOp) (a b : Operand) (x y : Gd) (w : World) : (eqGuard op 24 a b (gv x) (gv y)).run Try.prog w = .ok () w := run_eqGuard_agg w op 24 a b _ _ eg24

/-- It knows the time: it is another one than one that has nothing but whether it is on. -/
def knB (x : Gd) : Bool := !decide (x = ⟨x.o, false, 0, 0⟩)
theorem knows_any (x : Gd) (w : World) : Calls Try.prog 17 #[gv x] w fun e w' => e = .returned (.bool (knB x)) ∧ Below w.heap.size w w' := by
  obtain ⟨o, k, s, a⟩ := x
  have q1 : ∀ w, (binOp .neq 24 (gv ⟨o, k, s, a⟩) (.agg #[.bool o, .bool false, .int .u64 0, .int .i64 0])).run Try.prog w = .ok (.bool (knB ⟨o, k, s, a⟩)) w := fun w => neGd _ ⟨o, false, 0, 0⟩ w
  have q2 : ∀ op x y w, (eqGuard op 24 x y (gv ⟨o, k, s, a⟩) (.agg #[.bool o, .bool false, .int .u64 0, .int .i64 0])).run Try.prog w = .ok () w := fun op x y w => guGd op x y _ ⟨o, false, 0, 0⟩ w
  go_enter Try.func17, Try.ntmps17
  go_wp2_with (first
    | (refine wpList_ldg rfl (.tmp 1) rfl rfl v1 ?_)
    | (refine wpList_boxg (x := ⟨o, k, s, a⟩) rfl (.tmp 0) rfl rfl ?_; intro w1 v1 b1 s1; have c0 : w1.cell? ⟨w.heap.size, 0, none⟩ = some (.bool o) := v1.c0))
  go_ret
  exact ⟨rfl, b1⟩
theorem ticks_any (n p z : Int) (w : World) (h : IntKind.i64.wrap (n * p) = z) : Calls Try.prog 19 #[.int .i64 n, .int .i64 p] w fun e w' => e = .returned (.int .i64 z) ∧ w' = w := by
  go_enter Try.func19, Try.ntmps19
  go_wp2
  go_ret
  exact ⟨rfl, rfl⟩
def okT (x : Md) (p : Int) : Int := if Ok x ∧ 1 ≤ p ∧ p ≤ 1000000000 then 0 else 1
theorem checkTicks_any (x : Md) (p : Int) (w : World) : Calls Try.prog 23 #[mv x, .int .i64 p] w fun e w' => e = .returned (.int .i64 (okT x p)) ∧ Below w.heap.size w w' := by
  by_cases h : Ok x
  · have HC := hid (fun w => (okE_ok h ▸ check_any x w : Calls Try.prog 12 #[mv x] w fun e w' => e = .returned (.int .i64 0) ∧ Below w.heap.size w w'))
    by_cases hp : 1 ≤ p ∧ p ≤ 1000000000
    · rw [show okT x p = 0 from if_pos ⟨h, hp⟩]
      have t1 : decide (p < 1) = false := by simp; omega
      have t2 : decide (1000000000 < p) = false := by simp; omega
      clear h hp
      go_enter Try.func23, Try.ntmps23
      go_wp2_with (first
        | (go_at_call 12; (with_reducible refine (HC.out w1).mono ?_); rintro e w2 ⟨rfl, b2⟩; have B2 : Hid (Below w.heap.size w w2) := hid (b1.trans (b2.mono b1.size)))
        | (refine wpList_ldm rfl (.tmp 2) rfl rfl v1 ?_)
        | (refine wpList_boxm (x := x) rfl (.tmp 0) rfl rfl ?_; intro w1 v1 b1 s1))
      go_ret
      exact ⟨rfl, B2.out⟩
    · rw [show okT x p = 1 from if_neg (fun hh => hp hh.2)]
      have t1 : (decide (p < 1) || decide (1000000000 < p)) = true := by simp; omega
      clear h hp
      go_enter Try.func23, Try.ntmps23
      go_wp2_with (first
        | (go_at_call 12; (with_reducible refine (HC.out w1).mono ?_); rintro e w2 ⟨rfl, b2⟩; have B2 : Hid (Below w.heap.size w w2) := hid (b1.trans (b2.mono b1.size)))
        | (refine wpList_ldm rfl (.tmp 2) rfl rfl v1 ?_)
        | (refine wpList_boxm (x := x) rfl (.tmp 0) rfl rfl ?_; intro w1 v1 b1 s1))
      all_goals
        go_ret
        exact ⟨rfl, B2.out⟩
  · have HC := hid (fun w => (okE_bad h ▸ check_any x w : Calls Try.prog 12 #[mv x] w fun e w' => e = .returned (.int .i64 1) ∧ Below w.heap.size w w'))
    rw [show okT x p = 1 from if_neg (fun hh => h hh.1)]
    clear h
    go_enter Try.func23, Try.ntmps23
    go_wp2_with (first
      | (go_at_call 12; (with_reducible refine (HC.out w1).mono ?_); rintro e w2 ⟨rfl, b2⟩; have B2 : Hid (Below w.heap.size w w2) := hid (b1.trans (b2.mono b1.size)))
      | (refine wpList_ldm rfl (.tmp 2) rfl rfl v1 ?_)
      | (refine wpList_boxm (x := x) rfl (.tmp 0) rfl rfl ?_; intro w1 v1 b1 s1))
    go_ret
    exact ⟨rfl, B2.out⟩
end Go.Proofs.Ytpncbfhbiifncaa
