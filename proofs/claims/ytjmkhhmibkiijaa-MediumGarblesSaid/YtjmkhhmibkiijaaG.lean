/-
  The statements' live: it is true. No condition.
-/
import Derived.Test.YtjmkhhmibkiijaaM0
namespace Go.Proofs.Ytjmkhhmibkiijaa
open Go Go.RowKit

theorem Ow.some {w : World} {base n c : Nat} {A : Option Addr} {l : List Ar} (h : Ow w base A n c l) (hn : 0 < n) : ∃ g, A = .some ⟨g, 0, none⟩ := by
  rcases h.2 with ⟨_, h0⟩ | ⟨g, cap, cur, hv, hb, _⟩
  · omega
  · exact ⟨g, by injection hv⟩
def x1 : Ar := ⟨1, 0, 0, 0, 10, none, 0, 0, false, 1, []⟩
def x2 : Ar := ⟨2, 0, 0, 5, 15, none, 0, 0, false, 1, []⟩
def x3 : Ar := ⟨2, 0, 0, 10, 15, none, 0, 0, false, 1, []⟩
theorem one_of {l : List Ar} (h : l.length = 1) : l = [nth l 0] := by
  match l, h with
  | [a], _ => rfl
theorem ok_l1 {l : List Ar} (h : l.length = 1) {A : Option Addr} {c : Nat} (h0 : nth l 0 = { x1 with A := A, c := c }) : okA l = true := by
  rw [one_of h, okA_one, h0]; rfl
theorem pair_of {l1 l2 : List Ar} {x : Ar} {b : Bool} (hl : l1.length = 1) (h1 : ∃ A c, nth l1 0 = { x1 with A := A, c := c }) (p : lauP l1 x l2) (hm : ∀ A c, meet x { x1 with A := A, c := c } = b) (hx : x.bad = false) :
    (∃ A c, nth l2 0 = { x1 with A := A, c := c, bad := b }) ∧ ∃ A c, nth l2 1 = { x with A := A, c := c, bad := b } := by
  obtain ⟨A, c, h1⟩ := h1
  obtain ⟨A0, c0, q0⟩ := p.1 0 (by omega)
  obtain ⟨A1, c1, q1⟩ := p.2
  rw [h1, hm A c] at q0
  have hb : bads l1 x l1.length = b := by
    rw [hl, bads_succ, bads_zero, h1, hm A c, hx, Bool.false_or]
  rw [hb, hl] at q1
  exact ⟨⟨A0, c0, by rw [q0]; cases b <;> rfl⟩, A1, c1, q1⟩
theorem cells_of {w : World} {base g c : Nat} {l : List Ar} {x y : Ar} {b : Bool} (h : Ow w base (some ⟨g, 0, none⟩) 2 c l) (h0 : ∃ A c, nth l 0 = { x with A := A, c := c, bad := b }) (h1 : ∃ A c, nth l 1 = { y with A := A, c := c, bad := b }) :
    w.cell? ⟨g, 6, none⟩ = some (.bool b) ∧ w.cell? ⟨g, 14, none⟩ = some (.bool b) := by
  obtain ⟨A0, c0, q0⟩ := h0
  obtain ⟨A1, c1, q1⟩ := h1
  have r0 := h.range (k := 0) (by omega)
  have r1 := h.range (k := 1) (by omega)
  rw [q0] at r0
  rw [q1] at r1
  exact ⟨r0 6 _ rfl, r1 6 _ rfl⟩
set_option maxRecDepth 100000 in
set_option maxHeartbeats 2000000 in
theorem live_any (w : World) : Calls Try.prog 8 #[] w fun e w' => e = .returned (.bool true) ∧ Below w.heap.size w w' := by
  have L1 : Hid (Calls Try.prog 15 #[.slice none 0 0, .agg #[.int .u64 1, .int .i64 0, .int .i64 0, .int .i64 0, .int .i64 10, .slice none 0 0, .bool false, .int .i64 1]] w (RetLE w 1 (lauP [] x1))) :=
    hid (launch_ok0 none 0 0 x1 w (Row.nil _ _ _) (Nat.zero_le _) (by rw [okA_one]; rfl))
  have L2 : Hid (∀ (w' : World) (A : Option Addr) (c : Nat) (l : List Ar), RA w' w'.heap.size A 1 l → (∃ A c, nth l 0 = { x1 with A := A, c := c }) → Calls Try.prog 15 #[.slice A 1 c, .agg #[.int .u64 2, .int .i64 0, .int .i64 0, .int .i64 5, .int .i64 15, .slice none 0 0, .bool false, .int .i64 1]] w' (RetLE w' 2 (lauP l x2))) :=
    hid fun w' A c l h1 h2 => by
      obtain ⟨A', c', h2⟩ := h2
      exact launch_ok1 A 1 c w'.heap.size l x2 w' h1 (Row.nil _ _ _) (Nat.le_refl _) (by omega) (ok_l1 h1.1.1 h2) (by rw [okA_one]; rfl) ⟨by omega, by rw [h2]; show (1 : Int) < 2; decide⟩
  have L3 : Hid (∀ (w' : World) (A : Option Addr) (c : Nat) (l : List Ar), RA w' w'.heap.size A 1 l → (∃ A c, nth l 0 = { x1 with A := A, c := c }) → Calls Try.prog 15 #[.slice A 1 c, .agg #[.int .u64 2, .int .i64 0, .int .i64 0, .int .i64 10, .int .i64 15, .slice none 0 0, .bool false, .int .i64 1]] w' (RetLE w' 2 (lauP l x3))) :=
    hid fun w' A c l h1 h2 => by
      obtain ⟨A', c', h2⟩ := h2
      exact launch_ok1 A 1 c w'.heap.size l x3 w' h1 (Row.nil _ _ _) (Nat.le_refl _) (by omega) (ok_l1 h1.1.1 h2) (by rw [okA_one]; rfl) ⟨by omega, by rw [h2]; show (1 : Int) < 2; decide⟩
  go_enter Try.func8, Try.ntmps8
  go_wp2_with (first
    | (go_at_call 15; refine (L3.out w2 A1 c1 l1 R2.out E1.out).mono ?_; rintro e w3 ⟨A3, c3, l3, rfl, p3, own3, el3, b3⟩; obtain ⟨g3, rfl⟩ := own3.some (by omega); have P3 := pair_of R2.out.1.1 E1.out p3 (b := false) (fun _ _ => rfl) rfl; obtain ⟨m0, m1⟩ := cells_of (O2.out.below b3) P2.out.1 P2.out.2; obtain ⟨n0, n1⟩ := cells_of own3 P3.1 P3.2; have B3 : Hid (Below w.heap.size w w3) := hid (B2.out.trans (b3.mono B2.out.size)); clear p3 P3 own3 el3 b3)
    | (go_at_call 15; refine (L2.out w1 A1 c1 l1 R1.out E1.out).mono ?_; rintro e w2 ⟨A2, c2, l2, rfl, p2, own2, el2, b2⟩; obtain ⟨g2, rfl⟩ := own2.some (by omega); have R2 : Hid (RA w2 w2.heap.size A1 1 l1) := hid ((R1.out.below b2).more b2.size); have O2 := hid own2; have P2 := hid (pair_of R1.out.1.1 E1.out p2 (b := true) (fun _ _ => rfl) rfl); have B2 : Hid (Below w.heap.size w w2) := hid (B1.out.trans (b2.mono B1.out.size)); clear p2 own2 el2 b2)
    | (go_at_call 15; refine L1.out.mono ?_; rintro e w1 ⟨A1, c1, l1, rfl, p1, own1, el1, b1⟩; have R1 := hid (own1.ra el1); have E1 : Hid (∃ A c, nth l1 0 = { x1 with A := A, c := c }) := hid p1.2; have B1 : Hid (Below w.heap.size w w1) := hid b1; clear p1 own1 el1 b1))
  go_ret
  exact ⟨rfl, B3.out⟩
end Go.Proofs.Ytjmkhhmibkiijaa
