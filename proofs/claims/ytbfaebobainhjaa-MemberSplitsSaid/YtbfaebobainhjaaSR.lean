/-
  MemberSplits at the arguments as they came in.
-/
import Derived.Test.YtbfaebobainhjaaWS
import Derived.Test.YtbfaebobainhjaaNR
namespace Go.Proofs.Ytbfaebobainhjaa
open Go Go.RowKit
theorem splits_row {w : World} (n s l f d : Int) (_ : In64 n) (_ : In64 s) (_ : In64 l) (_ : In64 f) (_ : In64 d) (me : Int) (_ : -9223372036854775808 ≤ me) (_ : me ≤ 9223372036854775807) (own : Int) (o0 : 0 ≤ own) (o1 : own ≤ 65535) (k : Int) (k0 : 0 ≤ k) (_ : k ≤ 18446744073709551615)
    (A : Option Addr) (m c : Nat) (zs : List Int) (h : Came .i64 w A m c zs) (_ : c ≤ 140737488351232) (q : Int) (_ : -9223372036854775808 ≤ q) (_ : q ≤ 9223372036854775807) :
    Calls Try.prog 9 #[mv ⟨n, s, l, f, d⟩, .int .i64 me, .int .u16 own, .int .u64 k, .slice A m c, .int .i64 q] w fun e w' => e = .returned (.bool true) ∧ Below w.heap.size w w' := by
  obtain ⟨o, rfl⟩ : ∃ o : Nat, own = o := ⟨own.toNat, by omega⟩
  obtain ⟨h1, h2, h3⟩ := came_i64 h
  exact splits_walk n s l f d me k q o A m c zs w k0 h2 h1 h3 (by omega)
end Go.Proofs.Ytbfaebobainhjaa
