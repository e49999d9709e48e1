/-
  heap.Check at a slice that reads as a list; loads and calls in a region that only reads. What is asked: at most 4096 things.
-/
import Derived.Test.YtpfidohneddgkaaB
import Derived.Deep.QuietTactic
import Derived.BigQuiet
namespace Go.Proofs.Ytpfidohneddgkaa
open Go Go.RowKit

/-- The worlds of a quiet region: what was there is as it was. -/
def Cl (w w' : World) : Prop := ∃ p : Regrown, w' = Sort.grow (redrawn w p.d) p.os
theorem Cl.below {w w' : World} (h : Cl w w') : Below w.heap.size w w' := by obtain ⟨p, rfl⟩ := h; exact below_regrown w p.d p.os
theorem Cl.range {w w' : World} {b o : Nat} {cs : List Value} (h : w.rangeAt b o cs) (hc : Cl w w') : w'.rangeAt b o cs := fun j v hv => by
  obtain ⟨p, rfl⟩ := hc; exact cell_regrown (h j v hv) p.d p.os
/-- A load of a thing in a quiet region. -/
theorem wpQuiet_ld {ops : Array Oper} {w : World} {Q : Act → Prop} {o : Oper} {rest : List Oper} {a : Act} {x : Operand} {b off : Nat} {v : It} (hw : Region.wanted o (yielded ops a.tmps) = true) (ho : o.op = .load 36 x)
    (hx : a.eval x = .pointer (some ⟨b, off, none⟩)) (hr : w.rangeAt b off (enc v)) (h : wpQuiet Try.prog ops (fun w' => ∃ p : Regrown, w' = Sort.grow (redrawn w p.d) p.os) Q rest (a.put o.dst (itv v))) : wpQuiet Try.prog ops (fun w' => ∃ p : Regrown, w' = Sort.grow (redrawn w p.d) p.os) Q (o :: rest) a := by
  unfold wpQuiet
  rw [if_pos hw]
  refine ⟨itv v, fun w' hw' => ?_, h⟩
  unfold Oper.quietAt
  have : (execOp a.eval o).run Try.prog w' = .ok (.value (itv v)) w' := by
    unfold execOp
    have := ldv w' b off v (Cl.range hr hw')
    simp only [ho, hx, Instr.loadAt, Instr.sureAddr, Sem.run_bind, Sem.run_pure, Result.andThen_ok, this]
  rw [this]
  exact ⟨rfl, rfl⟩
theorem above_q (k : Nat) (hk : 1 ≤ k) (hb : k ≤ 1000000) (w : World) (d : Nat) (os : Array Obj) : Calls Try.prog 58 #[.int .i64 (k : Int)] (Sort.grow (redrawn w d) os) fun e w' => e = .returned (.int .i64 ((par k : Nat) : Int)) ∧ ∃ p : Regrown, w' = Sort.grow (redrawn w p.d) p.os :=
  (above_any k hk hb _).mono fun _ _ ⟨he, hw⟩ => ⟨he, ⟨d, os⟩, hw⟩
theorem less_q (x y : It) (w : World) (d : Nat) (os : Array Obj) : Calls Try.prog 51 #[itv x, itv y] (Sort.grow (redrawn w d) os) fun e w' => e = .returned (.bool (lt x y)) ∧ ∃ p : Regrown, w' = Sort.grow (redrawn w p.d) p.os :=
  Calls.regrown_of (less_any x y (Sort.grow (redrawn w d) os))

set_option maxHeartbeats 2000000 in
theorem check_any (A : Option Addr) (n c B : Nat) (xs : List It) (w : World) (ha : Row w B A n xs) (hB : B ≤ w.heap.size) (hn : n ≤ 4096) :
    Calls Try.prog 43 #[.slice A n c] w fun e w' => e = .returned (.bool (chk xs)) ∧ Below w.heap.size w w' := by
  have HA := hid ha
  have hl := ha.1
  have HL := hid hl
  clear ha hl
  have hn' : (n : Int) ≤ 4096 := by omega
  have hd : decide (4096 < (n : Int)) = false := decide_eq_false (by omega)
  go_enter Try.func43, Try.ntmps43
  go_wp2
  go_loopw [3] (fun t wr => ∃ k : Nat, t = .int .i64 (k : Int) ∧ 1 ≤ k ∧ Below w.heap.size w wr ∧ ∀ i, 1 ≤ i → i < k → i < n → Ok xs i) (fun t _ => n - (intOf t).toNat)
  case atStart => exact ⟨1, rfl, by omega, Below.refl _ _, fun i h1 h2 _ => by omega⟩
  case round =>
    obtain ⟨k, rfl, hk, hbel, hok⟩ := hrel
    have HB := hid hbel
    have HO := hid hok
    clear hbel hok
    by_cases hlt : k < n
    · have hp : par k < k := by unfold par; omega
      have HR : Hid (Row wr B A n xs) := hid (HA.out.below (HB.out.mono hB))
      obtain ⟨b, o, rfl, hb, hc⟩ := HR.out.all (by omega)
      have r1 := hid (hc k hlt)
      have r2 := hid (hc (par k) (by omega))
      have T1 := hid (fun d os => less_q (nth xs k) (nth xs (par k)) wr d os)
      have T0 := hid (fun d os => (above_q k hk (by omega) wr d os))
      clear hc
      have HN : Hid (lt (nth xs k) (nth xs (par k)) = true → chk xs = false) := hid fun h => chk_no hk (by rw [HL.out]; exact hlt) h
      have HY : Hid (lt (nth xs k) (nth xs (par k)) = false → Ok xs k) := hid fun h => h
      generalize lt (nth xs k) (nth xs (par k)) = R at *
      generalize nth xs (par k) = y at *
      generalize nth xs k = x at *
      generalize par k = q at *
      have hq1 : q < n := by omega
      have hq2 : (q : Int) < (n : Int) := by omega
      go_wp2_with fail
      refine wp_region_quiet_below (by kernel_rfl) (by kernel_rfl) ?_
      repeat (first | refine wpQuiet_ld rfl rfl rfl r1.out ?_ | refine wpQuiet_ld rfl rfl rfl r2.out ?_ | quiet_step (first | with_reducible exact T0.out _ _ | with_reducible exact T1.out _ _))
      refine wpQuiet_nil ?_
      intro _ hw'
      obtain ⟨⟨dq, osq⟩, hw''⟩ := hw'
      subst hw''
      have HW : Hid (Below wr.heap.size wr (Sort.grow (redrawn wr dq) osq)) := hid (below_regrown wr dq osq)
      generalize Sort.grow (redrawn wr dq) osq = w2 at *
      clear r1 r2 T1 T0
      have HB2 : Hid (Below w.heap.size w w2) := hid (HB.out.trans (HW.out.mono HB.out.size))
      cases R
      · go_wp2
        go_roundw
        case rel => exact ⟨k + 1, by go_num, by omega, HB2.out, fun i h1 h2 h3 => by
          by_cases e : i = k
          · subst e; exact HY.out rfl
          · exact HO.out i h1 (by omega) h3⟩
        case measure => simp [intOf]; omega
      · have HN' := hid (HN.out rfl)
        clear HN
        go_wp2
        go_ret
        exact ⟨ret_bool HN'.out.symm, HB2.out⟩
    · have HC : Hid (chk xs = true) := hid ((chk_iff xs).2 fun i h1 h2 => HO.out i h1 (by rw [HL.out] at h2; omega) (by rw [HL.out] at h2; exact h2))
      go_wp2
      go_ret
      exact ⟨ret_bool HC.out.symm, HB.out⟩
end Go.Proofs.Ytpfidohneddgkaa
