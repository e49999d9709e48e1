/-
  The document's own May: whether all of some numbers are times; guardians compared with one that is written out.
-/
import Derived.Test.YtpncbfhbiifncaaK
namespace Go.Proofs.Ytpncbfhbiifncaa
open Go Go.RowKit
theorem rmay_any (b c : Nat) (zs : List Int) (ok : Bool) (hok : allB zs = ok) (w : World) (hn : zs.length ≤ 9223372036854775807) (hc : ∀ j, j < zs.length → w.cell? ⟨b, 0 + j, none⟩ = some (.int .i64 zs[j]!)) :
    Calls Try.prog 9 #[.slice (some ⟨b, 0, none⟩) zs.length c] w fun e w' => e = .returned (.bool ok) ∧ w = w' := by
  have HK := hid hok
  clear hok
  go_enter Try.func9, Try.ntmps9
  go_wp2
  go_loop [7] (fun i => ∃ k : Nat, k ≤ zs.length ∧ i = .int .i64 k ∧ (∀ j, j < k → timeB zs[j]! = true)) (fun i => zs.length - (intOf i).toNat)
  case atStart => exact ⟨0, Nat.zero_le _, rfl, by intro j hj; omega⟩
  case round =>
    obtain ⟨k, hk, rfl, hall⟩ := hrel
    by_cases hlt : k < zs.length
    · have hcell := hc k hlt
      rw [Nat.zero_add] at hcell
      by_cases ht : -1152921504606846976 ≤ zs[k]! ∧ zs[k]! ≤ 1152921504606846976
      · have HC : Hid (∀ j, j < k + 1 → timeB zs[j]! = true) := by
          refine hid (fun j hj => ?_)
          rcases Nat.lt_succ_iff_lt_or_eq.1 hj with h | rfl
          · exact hall j h
          · simp only [timeB, decide_eq_true_eq]; exact ht
        clear hc hall
        obtain ⟨h1, h2⟩ := ht
        generalize zs[k]! = z at h1 h2 hcell
        have d1 : decide (1152921504606846976 < z) = false := by simp; omega
        have d2 : decide (z < -1152921504606846976) = false := by simp; omega
        go_wp2
        exact ⟨⟨k + 1, by omega, by go_num, HC.out⟩, by simp [intOf]; omega⟩
      · have HF : Hid (ok = false) := hid (by rw [← HK.out]; exact not_allB_of k hlt (by simp only [timeB, decide_eq_false_iff_not]; exact ht))
        have h1 : zs[k]! < -1152921504606846976 ∨ 1152921504606846976 < zs[k]! := by omega
        clear hc hall ht
        generalize zs[k]! = z at h1 hcell
        rcases h1 with h1 | h1
        · have d1 : decide (1152921504606846976 < z) = false := by simp; omega
          go_wp2
          go_ret
          exact ⟨ret_bool HF.out.symm, rfl⟩
        · go_wp2
          go_ret
          exact ⟨ret_bool HF.out.symm, rfl⟩
    · have HF : Hid (ok = true) := hid (by rw [← HK.out]; exact allB_of fun j hj => hall j (by omega))
      clear hc hall
      go_wp2
      go_ret
      exact ⟨ret_bool HF.out.symm, rfl⟩

theorem rmay_1 (b c : Nat) (x : Int) (ok : Bool) (hok : timeB x = ok) (w : World) (hc : w.cell? ⟨b, 0, none⟩ = some (.int .i64 x)) :
    Calls Try.prog 9 #[.slice (some ⟨b, 0, none⟩) 1 c] w fun e w' => e = .returned (.bool ok) ∧ w = w' :=
  rmay_any b c [x] ok (by simp [allB, hok]) w (by simp) (fun j hj => by
    match j, hj with
    | 0, _ => exact hc)
theorem dec_same (x : Gd) : decide (x = x) = true := decide_eq_true rfl
/-- Guardians compared with one that is written out. -/
theorem ne_lit (o k : Bool) (s a : Int) (w : World) : (binOp .neq 24 (gv ⟨o, k, s, a⟩) (.agg #[.bool o, .bool k, .int .u64 s, .int .i64 a])).run Try.prog w = .ok (.bool false) w := by
  have h := neGd ⟨o, k, s, a⟩ ⟨o, k, s, a⟩ w
  rw [dec_same] at h
  exact h
theorem eq_lit (o k : Bool) (s a : Int) (w : World) : (binOp .eql 24 (gv ⟨o, k, s, a⟩) (.agg #[.bool o, .bool k, .int .u64 s, .int .i64 a])).run Try.prog w = .ok (.bool true) w := by
  have h := eqGd ⟨o, k, s, a⟩ ⟨o, k, s, a⟩ w
  rw [dec_same] at h
  exact h
theorem gu_lit (x : Gd) (o k : Bool) (s a : Int) (op : BinOp) (y z : Operand) (w : World) : (eqGuard op 24 y z (gv x) (.agg #[.bool o, .bool k, .int .u64 s, .int .i64 a])).run Try.prog w = .ok () w := guGd op y z x ⟨o, k, s, a⟩ w
theorem eq_same (x : Gd) (w : World) : (binOp .eql 24 (gv x) (gv x)).run Try.prog w = .ok (.bool true) w := by
  have h := eqGd x x w
  rw [dec_same] at h
  exact h
theorem ne_same (x : Gd) (w : World) : (binOp .neq 24 (gv x) (gv x)).run Try.prog w = .ok (.bool false) w := by
  have h := neGd x x w
  rw [dec_same] at h
  exact h
end Go.Proofs.Ytpncbfhbiifncaa
