/-
  MemberCliques at the arguments as they came in.
-/
import Derived.Test.YtbfaebobainhjaaWQ
import Derived.Test.YtbfaebobainhjaaR
namespace Go.Proofs.Ytbfaebobainhjaa
open Go Go.RowKit
theorem cliques_row {w : World} (A : Option Addr) (n c : Nat) (zs : List Int) (h : Came .u8 w A n c zs) (hc : c ≤ 140737488351232) :
    Calls Try.prog 8 #[.slice A n c] w fun e w' => e = .returned (.bool true) ∧ Below w.heap.size w w' :=
  cliques_walk A n c zs w h.2.2.1 (fun z hz => bounds_u8 (h.2.2.2 z hz)) (Nat.le_trans h.2.1 hc)
end Go.Proofs.Ytbfaebobainhjaa
