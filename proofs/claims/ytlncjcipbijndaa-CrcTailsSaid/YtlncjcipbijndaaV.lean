/-
  CrcTails, as its row calls it.
-/
import Derived.Test.YtlncjcipbijndaaH
import Derived.Test.YtlncjcipbijndaaR
namespace Go.Proofs.Ytlncjcipbijndaa
open Go Go.RowKit

theorem tails_row {w : World} (A : Option Addr) (n c : Nat) (zs : List Int) (h : Came .u8 w A n c zs) (hc : c ≤ 140737488351232) (q : Int) (q1 : -9223372036854775808 ≤ q) (q2 : q ≤ 9223372036854775807) :
    Calls Try.prog 7 #[.slice A n c, .int .i64 q] w fun e w' => e = .returned (.bool true) ∧ Below w.heap.size w w' := by
  obtain ⟨bs, hr, ho⟩ := came_u8 h
  exact tails_walk A n c bs q w hr ho (Nat.le_trans h.2.1 hc) q1 q2
end Go.Proofs.Ytlncjcipbijndaa
