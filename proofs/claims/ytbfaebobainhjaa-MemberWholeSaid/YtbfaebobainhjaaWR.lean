/-
  MemberWhole at the arguments as they came in.
-/
import Derived.Test.YtbfaebobainhjaaWH
import Derived.Test.YtbfaebobainhjaaR
namespace Go.Proofs.Ytbfaebobainhjaa
open Go Go.RowKit
theorem whole_row {w : World} (n s l f d : Int) (_ : In64 n) (_ : In64 s) (_ : In64 l) (_ : In64 f) (_ : In64 d) (me : Int) (_ : -9223372036854775808 ≤ me) (_ : me ≤ 9223372036854775807) (own : Int) (o0 : 0 ≤ own) (o1 : own ≤ 65535) (k : Int) (k0 : 0 ≤ k) (_ : k ≤ 18446744073709551615) :
    Calls Try.prog 7 #[mv ⟨n, s, l, f, d⟩, .int .i64 me, .int .u16 own, .int .u64 k] w fun e w' => e = .returned (.bool true) ∧ Below w.heap.size w w' := by
  obtain ⟨o, rfl⟩ : ∃ o : Nat, own = o := ⟨own.toNat, by omega⟩
  exact whole_walk n s l f d me k o w k0 (by omega)
end Go.Proofs.Ytbfaebobainhjaa
