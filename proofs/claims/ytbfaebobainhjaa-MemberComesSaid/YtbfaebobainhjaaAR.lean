/-
  MemberAlike and MemberComes at the arguments as they came in.
-/
import Derived.Test.YtbfaebobainhjaaWA
import Derived.Test.YtbfaebobainhjaaWC
import Derived.Test.YtbfaebobainhjaaR
namespace Go.Proofs.Ytbfaebobainhjaa
open Go Go.RowKit
theorem alike_row {w : World} (n s l f d : Int) (_ : In64 n) (_ : In64 s) (_ : In64 l) (_ : In64 f) (_ : In64 d) (a : Int) (_ : -9223372036854775808 ≤ a) (_ : a ≤ 9223372036854775807) (b : Int) (_ : -9223372036854775808 ≤ b) (_ : b ≤ 9223372036854775807) (own : Int) (o0 : 0 ≤ own) (o1 : own ≤ 65535) (k : Int) (k0 : 0 ≤ k) (_ : k ≤ 18446744073709551615)
    (y : Fr) (_ : In64 y.k) (_ : In64 y.f) (_ : y.s < 18446744073709551616) (ym : y.m < 65536) :
    Calls Try.prog 5 #[mv ⟨n, s, l, f, d⟩, .int .i64 a, .int .i64 b, .int .u16 own, .int .u64 k, fv y] w fun e w' => e = .returned (.bool true) ∧ Below w.heap.size w w' := by
  obtain ⟨o, rfl⟩ : ∃ o : Nat, own = o := ⟨own.toNat, by omega⟩
  exact alike_walk n s l f d a b k o y.k y.f y.s y.m w k0 (by omega) ym
theorem comes_row {w : World} (n s l f d : Int) (_ : In64 n) (_ : In64 s) (_ : In64 l) (_ : In64 f) (_ : In64 d) (me : Int) (_ : -9223372036854775808 ≤ me) (_ : me ≤ 9223372036854775807) (own : Int) (o0 : 0 ≤ own) (o1 : own ≤ 65535) (k : Int) (k0 : 0 ≤ k) (_ : k ≤ 18446744073709551615) (c : Bool) :
    Calls Try.prog 6 #[mv ⟨n, s, l, f, d⟩, .int .i64 me, .int .u16 own, .int .u64 k, .bool c] w fun e w' => e = .returned (.bool true) ∧ Below w.heap.size w w' := by
  obtain ⟨o, rfl⟩ : ∃ o : Nat, own = o := ⟨own.toNat, by omega⟩
  obtain ⟨q, rfl⟩ : ∃ q : Nat, k = q := ⟨k.toNat, by omega⟩
  exact comes_walk n s l f d me q o c w (by omega)
end Go.Proofs.Ytbfaebobainhjaa
