/-
  Contracts of the reader's now, wrong and numbers, at every reader of at most a million tokens.
-/
import Derived.Test.YtinjhnflnfpoeaaDoorPM
import Derived.Test.YtinjhnflnfpoeaaDoorLI
import Derived.Deep.RegionHeld3
import Derived.BigQuiet
namespace Go.Proofs.YtinjhnflnfpoeaaDoor
open Go Go.RowKit Go.Joins

/-! ### Assertions -/
theorem as_ww (v : Value) (w : World) : (Instr.typeAssert (.iface 57 v) 20 57 true).run Tryd.prog w = .ok (.tuple #[v, .bool true]) w := by kernel_rfl
theorem as_nw (v : Value) (w : World) : (Instr.typeAssert (.iface 58 v) 20 57 true).run Tryd.prog w = .ok (.tuple #[.string ⟨#[]⟩, .bool false]) w := by kernel_rfl
theorem as_sw (v : Value) (w : World) : (Instr.typeAssert (.iface 59 v) 20 57 true).run Tryd.prog w = .ok (.tuple #[.string ⟨#[]⟩, .bool false]) w := by kernel_rfl
theorem as_ew (v : Value) (w : World) : (Instr.typeAssert (.iface 61 v) 20 57 true).run Tryd.prog w = .ok (.tuple #[.string ⟨#[]⟩, .bool false]) w := by kernel_rfl
theorem as_we (v : Value) (w : World) : (Instr.typeAssert (.iface 57 v) 20 61 true).run Tryd.prog w = .ok (.tuple #[.agg #[], .bool false]) w := by kernel_rfl
theorem as_ne (v : Value) (w : World) : (Instr.typeAssert (.iface 58 v) 20 61 true).run Tryd.prog w = .ok (.tuple #[.agg #[], .bool false]) w := by kernel_rfl
theorem as_se (v : Value) (w : World) : (Instr.typeAssert (.iface 59 v) 20 61 true).run Tryd.prog w = .ok (.tuple #[.agg #[], .bool false]) w := by kernel_rfl
theorem as_ee (v : Value) (w : World) : (Instr.typeAssert (.iface 61 v) 20 61 true).run Tryd.prog w = .ok (.tuple #[v, .bool true]) w := by kernel_rfl
theorem as_wn (v : Value) (w : World) : (Instr.typeAssert (.iface 57 v) 20 58 true).run Tryd.prog w = .ok (.tuple #[.agg #[.int .i64 0, .bool false], .bool false]) w := by kernel_rfl
theorem as_nn (v : Value) (w : World) : (Instr.typeAssert (.iface 58 v) 20 58 true).run Tryd.prog w = .ok (.tuple #[v, .bool true]) w := by kernel_rfl
theorem as_sn (v : Value) (w : World) : (Instr.typeAssert (.iface 59 v) 20 58 true).run Tryd.prog w = .ok (.tuple #[.agg #[.int .i64 0, .bool false], .bool false]) w := by kernel_rfl
theorem as_en (v : Value) (w : World) : (Instr.typeAssert (.iface 61 v) 20 58 true).run Tryd.prog w = .ok (.tuple #[.agg #[.int .i64 0, .bool false], .bool false]) w := by kernel_rfl
theorem as_ws (v : Value) (w : World) : (Instr.typeAssert (.iface 57 v) 20 59 true).run Tryd.prog w = .ok (.tuple #[.string ⟨#[]⟩, .bool false]) w := by kernel_rfl
theorem as_ns (v : Value) (w : World) : (Instr.typeAssert (.iface 58 v) 20 59 true).run Tryd.prog w = .ok (.tuple #[.string ⟨#[]⟩, .bool false]) w := by kernel_rfl
theorem as_ss (v : Value) (w : World) : (Instr.typeAssert (.iface 59 v) 20 59 true).run Tryd.prog w = .ok (.tuple #[v, .bool true]) w := by kernel_rfl
theorem as_es (v : Value) (w : World) : (Instr.typeAssert (.iface 61 v) 20 59 true).run Tryd.prog w = .ok (.tuple #[.string ⟨#[]⟩, .bool false]) w := by kernel_rfl
theorem as_s1 (v : Value) (w : World) : (Instr.typeAssert (.iface 59 v) 20 59 false).run Tryd.prog w = .ok v w := by kernel_rfl

set_option maxRecDepth 100000 in
theorem now_any {w : World} {g b c many : Nat} {pre rest : List Tk} (h : Rd w g b c pre rest many) : Calls Tryd.prog 19 #[.pointer (some ⟨g, 0, none⟩)] w fun e w' => e = .returned (nowV rest) ∧ Below w.heap.size w w' := by
  have c0 := h.c0
  have c1 := h.c1
  have hn := h.now
  have hle := h.le
  obtain ⟨k, hk⟩ : ∃ k, pre.length = k := ⟨_, rfl⟩
  obtain ⟨n, hn2⟩ : ∃ n, pre.length + rest.length + 1 = n := ⟨_, rfl⟩
  have hlt : k < n := by omega
  have hn3 : n ≤ 1000001 := by omega
  rw [hk] at c1 hn
  rw [hn2] at c0
  clear hk hn2 hle h
  generalize nowV rest = v at *
  go_enter Tryd.func19, Tryd.ntmps19
  go_wp2_with fail
  go_quiet (fail)
  go_wp2_with fail
  go_ret
  exact ⟨rfl, by first | exact Below.refl _ _ | exact (Below.refl _ _).drew | exact bel_drewN (Below.refl _ _) _⟩

theorem now_is {w : World} {g b c many : Nat} {pre rest : List Tk} (h : Rd w g b c pre rest many) {v : Value} (hv : nowV rest = v) : Calls Tryd.prog 19 #[.pointer (some ⟨g, 0, none⟩)] w fun e w' => e = .returned v ∧ Below w.heap.size w w' := by
  have := now_any h; rw [hv] at this; exact this
theorem now_w (t : Tk) (r : List Tk) (h1 : t.kind = 1) : nowV (t :: r) = .iface 57 (.string (strB t.s)) := if_pos h1
theorem now_n (t : Tk) (r : List Tk) (h2 : t.kind = 2) : nowV (t :: r) = .iface 58 (.agg #[.int .i64 t.n, .bool t.time]) := by show tyV t = _; unfold tyV; rw [if_neg (by omega), if_pos h2]
theorem now_s (t : Tk) (r : List Tk) (h1 : ¬ t.kind = 1) (h2 : ¬ t.kind = 2) : nowV (t :: r) = .iface 59 (.string (strB t.s)) := by show tyV t = _; unfold tyV; rw [if_neg h1, if_neg h2]
/-- What is next, of any kind. -/
theorem kinds (t : Tk) (r : List Tk) : (t.kind = 1 ∧ nowV (t :: r) = .iface 57 (.string (strB t.s))) ∨ (t.kind = 2 ∧ nowV (t :: r) = .iface 58 (.agg #[.int .i64 t.n, .bool t.time])) ∨ (¬ t.kind = 1 ∧ ¬ t.kind = 2 ∧ nowV (t :: r) = .iface 59 (.string (strB t.s))) := by
  by_cases h1 : t.kind = 1
  · exact .inl ⟨h1, now_w t r h1⟩
  by_cases h2 : t.kind = 2
  · exact .inr (.inl ⟨h2, now_n t r h2⟩)
  · exact .inr (.inr ⟨h1, h2, now_s t r h1 h2⟩)

set_option maxRecDepth 100000 in
theorem wrong_any {w : World} {g b c many : Nat} {pre rest : List Tk} (h : Rd w g b c pre rest many) : Calls Tryd.prog 36 #[.pointer (some ⟨g, 0, none⟩)] w fun e w' => e = .returned (.int .i64 (wrongE rest : Nat)) ∧ Below w.heap.size w w' := by
  match rest with
  | [] =>
    have HN := hid (now_is h (v := .iface 61 (.agg #[])) rfl)
    have ha := as_ee (.agg #[])
    clear h
    go_enter Tryd.func36, Tryd.ntmps36
    go_wp2_with (first
      | (go_at_call 19; refine HN.out.mono ?_; rintro e w1 ⟨rfl, b1⟩))
    go_ret
    exact ⟨rfl, b1.alloc b1.size _⟩
  | t :: r =>
    rcases kinds t r with ⟨_, hv⟩ | ⟨_, hv⟩ | ⟨_, _, hv⟩
    · have HN := hid (now_is h hv)
      have ha := as_we (.string (strB t.s))
      clear h
      go_enter Tryd.func36, Tryd.ntmps36
      go_wp2_with (first
        | (go_at_call 19; refine HN.out.mono ?_; rintro e w1 ⟨rfl, b1⟩))
      go_ret
      exact ⟨rfl, b1.alloc b1.size _⟩
    · have HN := hid (now_is h hv)
      have ha := as_ne (.agg #[.int .i64 t.n, .bool t.time])
      clear h
      go_enter Tryd.func36, Tryd.ntmps36
      go_wp2_with (first
        | (go_at_call 19; refine HN.out.mono ?_; rintro e w1 ⟨rfl, b1⟩))
      go_ret
      exact ⟨rfl, b1.alloc b1.size _⟩
    · have HN := hid (now_is h hv)
      have ha := as_se (.string (strB t.s))
      clear h
      go_enter Tryd.func36, Tryd.ntmps36
      go_wp2_with (first
        | (go_at_call 19; refine HN.out.mono ?_; rintro e w1 ⟨rfl, b1⟩))
      go_ret
      exact ⟨rfl, b1.alloc b1.size _⟩
end Go.Proofs.YtinjhnflnfpoeaaDoor
