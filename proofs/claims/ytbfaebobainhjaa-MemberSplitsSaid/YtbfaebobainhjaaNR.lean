/-
  MemberRounds at the arguments as they came in.
-/
import Derived.Test.YtbfaebobainhjaaWN
import Derived.Test.YtbfaebobainhjaaR
namespace Go.Proofs.Ytbfaebobainhjaa
open Go Go.RowKit
theorem came_i64 {w : World} {A : Option Addr} {n c : Nat} {zs : List Int} (h : Came .i64 w A n c zs) : Row w w.heap.size A n (sv zs) ∧ n ≤ c ∧ ∀ z ∈ zs, KeyI z :=
  ⟨h.2.2.1, h.2.1, fun z hz => bounds_i64 (h.2.2.2 z hz)⟩
theorem rounds_row {w : World} (n s l f d : Int) (_ : In64 n) (_ : In64 s) (_ : In64 l) (_ : In64 f) (_ : In64 d) (me : Int) (_ : -9223372036854775808 ≤ me) (_ : me ≤ 9223372036854775807) (own : Int) (o0 : 0 ≤ own) (o1 : own ≤ 65535) (k : Int) (k0 : 0 ≤ k) (_ : k ≤ 18446744073709551615)
    (A : Option Addr) (m c : Nat) (zs : List Int) (h : Came .i64 w A m c zs) (hc : c ≤ 140737488351232) :
    Calls Try.prog 4 #[mv ⟨n, s, l, f, d⟩, .int .i64 me, .int .u16 own, .int .u64 k, .slice A m c] w fun e w' => e = .returned (.bool true) ∧ Below w.heap.size w w' := by
  obtain ⟨o, rfl⟩ : ∃ o : Nat, own = o := ⟨own.toNat, by omega⟩
  obtain ⟨h1, h2, h3⟩ := came_i64 h
  exact rounds_walk ⟨n, s, l, f, d⟩ me k o A m c zs w k0 (by omega) h1 h3 (by omega)
end Go.Proofs.Ytbfaebobainhjaa
