/-
  guard.told: what it answers, at every argument.
-/
import Derived.Test.YtpncbfhbiifncaaL
import Derived.Lib.QuietBelow
namespace Go.Proofs.Ytpncbfhbiifncaa
open Go Go.RowKit
/-- A quiet region, behind a name: what is passed over is not looked into. -/
structure WQ (P : Program) (ops : Array Oper) (C : World → Prop) (Q : Act → Prop) (l : List Oper) (a : Act) : Prop where
  out : wpQuiet P ops C Q l a
section
variable {P : Program} {ops : Array Oper} {C : World → Prop} {Q : Act → Prop} {o : Oper} {rest : List Oper} {a : Act}
theorem WQ.nil (h : Q a) : WQ P ops C Q [] a := ⟨wpQuiet_nil h⟩
theorem WQ.step (h : ∀ K : Act → Prop, (∀ a, WQ P ops C Q rest a → K a) → if Region.wanted o (yielded ops a.tmps) then o.quiet P a C K else K (a.put o.dst undef)) : WQ P ops C Q (o :: rest) a :=
  ⟨wpQuiet_step fun K hK => h K fun a ha => hK a ha.out⟩
theorem WQ.ldm {w : World} {y : Operand} {g : Nat} {x : Md} (hw : Region.wanted o (yielded ops a.tmps) = true) (ho : o.op = .load 26 y)
    (hx : a.eval y = .pointer (some ⟨g, 0, none⟩)) (hr : VarM w g x) (h : WQ Try.prog ops (fun w' => ∃ p : Regrown, w' = Sort.grow (redrawn w p.d) p.os) Q rest (a.put o.dst (mv x))) : WQ Try.prog ops (fun w' => ∃ p : Regrown, w' = Sort.grow (redrawn w p.d) p.os) Q (o :: rest) a :=
  ⟨wpQuiet_ldm hw ho hx hr h.out⟩
end
theorem owns_q (m : Md) (q k : Int) (B : Bool) (w : World) (hk : 0 ≤ k) (h : ownB m q k = B) (d : Nat) (os : Array Obj) : Calls Try.prog 38 #[mv m, .int .i64 q, .int .u64 k] (Sort.grow (redrawn w d) os) fun e w' => e = .returned (.bool B) ∧ ∃ p : Regrown, w' = Sort.grow (redrawn w p.d) p.os :=
  h ▸ Calls.regrown_of (owns_any m q k (Sort.grow (redrawn w d) os) hk)
/-- A node's frame tells its own slot, where nothing has passed yet. -/
def toldB (m : Md) (q : Int) (f : Fr) : Bool := decide (f.k = 2) && (decide (f.f = q) && ownB m q (f.s : Int))
theorem told_any (m : Md) (q : Int) (f : Fr) (w : World) : Calls Try.prog 31 #[mv m, .int .i64 q, fv f] w fun e w' => e = .returned (.tuple #[.int .u64 (f.s : Int), .bool (toldB m q f)]) ∧ Below w.heap.size w w' := by
  have HB : Hid (toldB m q f = (decide (f.k = 2) && (decide (f.f = q) && ownB m q (f.s : Int)))) := hid rfl
  generalize toldB m q f = R at *
  by_cases h1 : f.k = 2
  · by_cases h2 : f.f = q
    · have HR : Hid (R = ownB m q (f.s : Int)) := hid (by rw [HB.out]; simp [h1, h2])
      clear HB
      obtain ⟨k, f, s, mm⟩ := f
      simp only at h1 h2 HR
      have g1 : (k == 2) = true := by simpa using h1
      have g2 : (f == q) = true := by simpa using h2
      have TQ := hid (fun w => owns_q m q (s : Int) R w (by omega) HR.out.symm)
      clear h1 h2
      go_enter Try.func31, Try.ntmps31
      go_wp2_with (first
        | (refine wpList_boxf (x := ⟨k, f, s, mm⟩) rfl (.tmp 2) rfl rfl ?_; intro w2 vf2 b2 s2; have vm2 := vm1.keep b2; have B2 : Hid (Below w.heap.size w w2) := hid (b1.trans (b2.mono b1.size)); clear b2 s2 vm1)
        | (refine wpList_boxm (x := m) rfl (.tmp 0) rfl rfl ?_; intro w1 vm1 b1 s1))
      have T0 := hid (TQ.out w2)
      have d0 : ∀ d os, (Sort.grow (redrawn w2 d) os).cell? ⟨w1.heap.size, 0, none⟩ = some (.int .i64 k) := fun d os => cell_regrown vf2.c0 d os
      have d1 : ∀ d os, (Sort.grow (redrawn w2 d) os).cell? ⟨w1.heap.size, 1, none⟩ = some (.int .i64 f) := fun d os => cell_regrown vf2.c1 d os
      have d2 : ∀ d os, (Sort.grow (redrawn w2 d) os).cell? ⟨w1.heap.size, 2, none⟩ = some (.int .u64 (s : Int)) := fun d os => cell_regrown vf2.c2 d os
      have VM := hid vm2
      clear TQ vm2 vf2 b1 s1
      refine wp_region_quiet_below (by kernel_rfl) (by kernel_rfl) (WQ.out ?_)
      repeat (first
        | (with_reducible refine WQ.ldm rfl rfl rfl VM.out ?_)
        | (refine WQ.step (fun K hK => ?_); go_simp; first | (refine hK _ ?_; clear hK K) | (apply Exists.intro; refine ⟨fun _ => ?_, hK _ ?_⟩; (with_reducible exact T0.out _ _); clear hK K)))
      refine WQ.nil ?_
      intro _ hw'
      obtain ⟨⟨dq, osq⟩, hw''⟩ := hw'
      subst hw''
      go_wp2
      go_ret2
      exact ⟨rfl, B2.out.trans ((below_regrown w2 dq osq).mono B2.out.size)⟩
    · have HR : Hid (R = false) := hid (by rw [HB.out]; simp [h2])
      obtain ⟨k, f, s, mm⟩ := f
      simp only at h1 h2
      have g1 : (k == 2) = true := by simpa using h1
      have g2 : (f == q) = false := by simpa using h2
      clear h1 h2 HB
      go_enter Try.func31, Try.ntmps31
      go_wp2_with (first
        | (refine wpList_boxf (x := ⟨k, f, s, mm⟩) rfl (.tmp 2) rfl rfl ?_; intro w2 vf2 b2 s2; have d0 : w2.cell? ⟨w1.heap.size, 0, none⟩ = some (.int .i64 k) := vf2.c0; have d1 : w2.cell? ⟨w1.heap.size, 1, none⟩ = some (.int .i64 f) := vf2.c1; have d2 : w2.cell? ⟨w1.heap.size, 2, none⟩ = some (.int .u64 (s : Int)) := vf2.c2; have B2 : Hid (Below w.heap.size w w2) := hid (b1.trans (b2.mono b1.size)); clear b2 s2 vm1)
        | (refine wpList_boxm (x := m) rfl (.tmp 0) rfl rfl ?_; intro w1 vm1 b1 s1))
      go_region
      all_goals
        go_wp2
        go_ret2
        exact ⟨by rw [HR.out]; rfl, B2.out.drew⟩
  · have HR : Hid (R = false) := hid (by rw [HB.out]; simp [h1])
    obtain ⟨k, f, s, mm⟩ := f
    simp only at h1
    have g1 : (k == 2) = false := by simpa using h1
    clear h1 HB
    go_enter Try.func31, Try.ntmps31
    go_wp2_with (first
      | (refine wpList_boxf (x := ⟨k, f, s, mm⟩) rfl (.tmp 2) rfl rfl ?_; intro w2 vf2 b2 s2; have d0 : w2.cell? ⟨w1.heap.size, 0, none⟩ = some (.int .i64 k) := vf2.c0; have d1 : w2.cell? ⟨w1.heap.size, 1, none⟩ = some (.int .i64 f) := vf2.c1; have d2 : w2.cell? ⟨w1.heap.size, 2, none⟩ = some (.int .u64 (s : Int)) := vf2.c2; have B2 : Hid (Below w.heap.size w w2) := hid (b1.trans (b2.mono b1.size)); clear b2 s2 vm1)
      | (refine wpList_boxm (x := m) rfl (.tmp 0) rfl rfl ?_; intro w1 vm1 b1 s1))
    go_region
    all_goals
      go_wp2
      go_ret2
      exact ⟨by rw [HR.out]; rfl, B2.out.drew⟩
end Go.Proofs.Ytpncbfhbiifncaa
