/-
  CrcLinear, as its row calls it.
-/
import Derived.Test.YtlncjcipbijndaaI
import Derived.Test.YtlncjcipbijndaaR
namespace Go.Proofs.Ytlncjcipbijndaa
open Go Go.RowKit

theorem linear_row {w : World} (A1 : Option Addr) (n1 c1 : Nat) (z1 : List Int) (h1 : Came .u8 w A1 n1 c1 z1) (m1 : c1 ≤ 140737488351232) (A2 : Option Addr) (n2 c2 : Nat) (z2 : List Int) (h2 : Came .u8 w A2 n2 c2 z2) (m2 : c2 ≤ 140737488351232)
    (A3 : Option Addr) (n3 c3 : Nat) (z3 : List Int) (h3 : Came .u8 w A3 n3 c3 z3) (m3 : c3 ≤ 140737488351232) :
    Calls Try.prog 6 #[.slice A1 n1 c1, .slice A2 n2 c2, .slice A3 n3 c3] w fun e w' => e = .returned (.bool true) ∧ Below w.heap.size w w' := by
  obtain ⟨b1, r1, o1⟩ := came_u8 h1
  obtain ⟨b2, r2, o2⟩ := came_u8 h2
  obtain ⟨b3, r3, o3⟩ := came_u8 h3
  exact linear_walk A1 A2 A3 n1 c1 n2 c2 n3 c3 b1 b2 b3 w r1 r2 r3 o1 o2 o3 (Nat.le_trans h1.2.1 m1) (Nat.le_trans h2.2.1 m2) (Nat.le_trans h3.2.1 m3) h1.2.1 h2.2.1 h3.2.1
end Go.Proofs.Ytlncjcipbijndaa
