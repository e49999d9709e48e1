/-
  MemberJudges at the arguments as they came in.
-/
import Derived.Test.YtbfaebobainhjaaWJ
import Derived.Test.YtbfaebobainhjaaR
namespace Go.Proofs.Ytbfaebobainhjaa
open Go Go.RowKit
theorem judges_row {w : World} (n s l f d : Int) (_ : In64 n) (_ : In64 s) (_ : In64 l) (_ : In64 f) (_ : In64 d) (me : Int) (_ : -9223372036854775808 ≤ me) (_ : me ≤ 9223372036854775807) (own : Int) (o0 : 0 ≤ own) (o1 : own ≤ 65535) (k : Int) (k0 : 0 ≤ k) (_ : k ≤ 18446744073709551615)
    (y : Fr) (_ : In64 y.k) (_ : In64 y.f) (_ : y.s < 18446744073709551616) (_ : y.m < 65536) (v : Int) (v0 : -9223372036854775808 ≤ v) (v1 : v ≤ 9223372036854775807) (t : Ty) (_ : In64 t.g) (_ : In64 t.b) :
    Calls Try.prog 3 #[mv ⟨n, s, l, f, d⟩, .int .i64 me, .int .u16 own, .int .u64 k, fv y, .int .i64 v, tv t] w fun e w' => e = .returned (.bool true) ∧ Below w.heap.size w w' := by
  obtain ⟨o, rfl⟩ : ∃ o : Nat, own = o := ⟨own.toNat, by omega⟩
  exact judges_walk n s l f d me k v o y t w k0 (by omega) ⟨v0, v1⟩
end Go.Proofs.Ytbfaebobainhjaa
