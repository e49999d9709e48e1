/-
  Contracts of the reader's now, wrong and numbers, at every reader of at most a million tokens.
-/
import Derived.Test.YtinjhnflnfpoeaaGreatDoorPM
import Derived.Test.YtinjhnflnfpoeaaGreatDoorLI
import Derived.Deep.RegionHeld3
import Derived.BigQuiet
namespace Go.Proofs.YtinjhnflnfpoeaaGreatDoor
open Go Go.RowKit Go.Joins

/-! ### Assertions -/
theorem as_ww (v : Value) (w : World) : (Instr.typeAssert (.iface 70 v) 20 70 true).run Tryz.prog w = .ok (.tuple #[v, .bool true]) w := by kernel_rfl
theorem as_nw (v : Value) (w : World) : (Instr.typeAssert (.iface 71 v) 20 70 true).run Tryz.prog w = .ok (.tuple #[.string ⟨#[]⟩, .bool false]) w := by kernel_rfl
theorem as_sw (v : Value) (w : World) : (Instr.typeAssert (.iface 72 v) 20 70 true).run Tryz.prog w = .ok (.tuple #[.string ⟨#[]⟩, .bool false]) w := by kernel_rfl
theorem as_ew (v : Value) (w : World) : (Instr.typeAssert (.iface 74 v) 20 70 true).run Tryz.prog w = .ok (.tuple #[.string ⟨#[]⟩, .bool false]) w := by kernel_rfl
theorem as_we (v : Value) (w : World) : (Instr.typeAssert (.iface 70 v) 20 74 true).run Tryz.prog w = .ok (.tuple #[.agg #[], .bool false]) w := by kernel_rfl
theorem as_ne (v : Value) (w : World) : (Instr.typeAssert (.iface 71 v) 20 74 true).run Tryz.prog w = .ok (.tuple #[.agg #[], .bool false]) w := by kernel_rfl
theorem as_se (v : Value) (w : World) : (Instr.typeAssert (.iface 72 v) 20 74 true).run Tryz.prog w = .ok (.tuple #[.agg #[], .bool false]) w := by kernel_rfl
theorem as_ee (v : Value) (w : World) : (Instr.typeAssert (.iface 74 v) 20 74 true).run Tryz.prog w = .ok (.tuple #[v, .bool true]) w := by kernel_rfl
theorem as_wn (v : Value) (w : World) : (Instr.typeAssert (.iface 70 v) 20 71 true).run Tryz.prog w = .ok (.tuple #[.agg #[.int .i64 0, .bool false], .bool false]) w := by kernel_rfl
theorem as_nn (v : Value) (w : World) : (Instr.typeAssert (.iface 71 v) 20 71 true).run Tryz.prog w = .ok (.tuple #[v, .bool true]) w := by kernel_rfl
theorem as_sn (v : Value) (w : World) : (Instr.typeAssert (.iface 72 v) 20 71 true).run Tryz.prog w = .ok (.tuple #[.agg #[.int .i64 0, .bool false], .bool false]) w := by kernel_rfl
theorem as_en (v : Value) (w : World) : (Instr.typeAssert (.iface 74 v) 20 71 true).run Tryz.prog w = .ok (.tuple #[.agg #[.int .i64 0, .bool false], .bool false]) w := by kernel_rfl
theorem as_ws (v : Value) (w : World) : (Instr.typeAssert (.iface 70 v) 20 72 true).run Tryz.prog w = .ok (.tuple #[.string ⟨#[]⟩, .bool false]) w := by kernel_rfl
theorem as_ns (v : Value) (w : World) : (Instr.typeAssert (.iface 71 v) 20 72 true).run Tryz.prog w = .ok (.tuple #[.string ⟨#[]⟩, .bool false]) w := by kernel_rfl
theorem as_ss (v : Value) (w : World) : (Instr.typeAssert (.iface 72 v) 20 72 true).run Tryz.prog w = .ok (.tuple #[v, .bool true]) w := by kernel_rfl
theorem as_es (v : Value) (w : World) : (Instr.typeAssert (.iface 74 v) 20 72 true).run Tryz.prog w = .ok (.tuple #[.string ⟨#[]⟩, .bool false]) w := by kernel_rfl
theorem as_s1 (v : Value) (w : World) : (Instr.typeAssert (.iface 72 v) 20 72 false).run Tryz.prog w = .ok v w := by kernel_rfl

set_option maxRecDepth 100000 in
theorem now_any {w : World} {g b c many : Nat} {pre rest : List Tk} (h : Rd w g b c pre rest many) : Calls Tryz.prog 40 #[.pointer (some ⟨g, 0, none⟩)] w fun e w' => e = .returned (nowV rest) ∧ Below w.heap.size w w' := by
  have c0 := h.c0
  have c1 := h.c1
  have hn := h.now
  have hle := h.le
  obtain ⟨k, hk⟩ : ∃ k, pre.length = k := ⟨_, rfl⟩
  obtain ⟨n, hn2⟩ : ∃ n, pre.length + rest.length + 1 = n := ⟨_, rfl⟩
  have hlt : k < n := by omega
  have hn3 : n ≤ 1000001 := by omega
  rw [hk] at c1 hn
  rw [hn2] at c0
  clear hk hn2 hle h
  generalize nowV rest = v at *
  go_enter Tryz.func40, Tryz.ntmps40
  go_wp2_with fail
  go_quiet (fail)
  go_wp2_with fail
  go_ret
  exact ⟨rfl, by first | exact Below.refl _ _ | exact (Below.refl _ _).drew | exact bel_drewN (Below.refl _ _) _⟩

theorem now_is {w : World} {g b c many : Nat} {pre rest : List Tk} (h : Rd w g b c pre rest many) {v : Value} (hv : nowV rest = v) : Calls Tryz.prog 40 #[.pointer (some ⟨g, 0, none⟩)] w fun e w' => e = .returned v ∧ Below w.heap.size w w' := by
  have := now_any h; rw [hv] at this; exact this
theorem now_w (t : Tk) (r : List Tk) (h1 : t.kind = 1) : nowV (t :: r) = .iface 70 (.string (strB t.s)) := if_pos h1
theorem now_n (t : Tk) (r : List Tk) (h2 : t.kind = 2) : nowV (t :: r) = .iface 71 (.agg #[.int .i64 t.n, .bool t.time]) := by show tyV t = _; unfold tyV; rw [if_neg (by omega), if_pos h2]
theorem now_s (t : Tk) (r : List Tk) (h1 : ¬ t.kind = 1) (h2 : ¬ t.kind = 2) : nowV (t :: r) = .iface 72 (.string (strB t.s)) := by show tyV t = _; unfold tyV; rw [if_neg h1, if_neg h2]
/-- What is next, of any kind. -/
theorem kinds (t : Tk) (r : List Tk) : (t.kind = 1 ∧ nowV (t :: r) = .iface 70 (.string (strB t.s))) ∨ (t.kind = 2 ∧ nowV (t :: r) = .iface 71 (.agg #[.int .i64 t.n, .bool t.time])) ∨ (¬ t.kind = 1 ∧ ¬ t.kind = 2 ∧ nowV (t :: r) = .iface 72 (.string (strB t.s))) := by
  by_cases h1 : t.kind = 1
  · exact .inl ⟨h1, now_w t r h1⟩
  by_cases h2 : t.kind = 2
  · exact .inr (.inl ⟨h2, now_n t r h2⟩)
  · exact .inr (.inr ⟨h1, h2, now_s t r h1 h2⟩)

set_option maxRecDepth 100000 in
theorem wrong_any {w : World} {g b c many : Nat} {pre rest : List Tk} (h : Rd w g b c pre rest many) : Calls Tryz.prog 71 #[.pointer (some ⟨g, 0, none⟩)] w fun e w' => e = .returned (.int .i64 (wrongE rest : Nat)) ∧ Below w.heap.size w w' := by
  match rest with
  | [] =>
    have HN := hid (now_is h (v := .iface 74 (.agg #[])) rfl)
    have ha := as_ee (.agg #[])
    clear h
    go_enter Tryz.func71, Tryz.ntmps71
    go_wp2_with (first
      | (go_at_call 40; refine HN.out.mono ?_; rintro e w1 ⟨rfl, b1⟩))
    go_ret
    exact ⟨rfl, b1.alloc b1.size _⟩
  | t :: r =>
    rcases kinds t r with ⟨_, hv⟩ | ⟨_, hv⟩ | ⟨_, _, hv⟩
    · have HN := hid (now_is h hv)
      have ha := as_we (.string (strB t.s))
      clear h
      go_enter Tryz.func71, Tryz.ntmps71
      go_wp2_with (first
        | (go_at_call 40; refine HN.out.mono ?_; rintro e w1 ⟨rfl, b1⟩))
      go_ret
      exact ⟨rfl, b1.alloc b1.size _⟩
    · have HN := hid (now_is h hv)
      have ha := as_ne (.agg #[.int .i64 t.n, .bool t.time])
      clear h
      go_enter Tryz.func71, Tryz.ntmps71
      go_wp2_with (first
        | (go_at_call 40; refine HN.out.mono ?_; rintro e w1 ⟨rfl, b1⟩))
      go_ret
      exact ⟨rfl, b1.alloc b1.size _⟩
    · have HN := hid (now_is h hv)
      have ha := as_se (.string (strB t.s))
      clear h
      go_enter Tryz.func71, Tryz.ntmps71
      go_wp2_with (first
        | (go_at_call 40; refine HN.out.mono ?_; rintro e w1 ⟨rfl, b1⟩))
      go_ret
      exact ⟨rfl, b1.alloc b1.size _⟩
end Go.Proofs.YtinjhnflnfpoeaaGreatDoor
