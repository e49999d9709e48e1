/-
  The walk of KernelOrders, whatever came in.
-/
import Derived.Test.YtpfidohneddgkaaOC
import Derived.Test.YtpfidohneddgkaaOM
namespace Go.Proofs.Ytpfidohneddgkaa
open Go Go.RowKit Go.Maps
theorem orders_row {w : World} (A : Option Addr) (N c : Nat) (ha : Acts w A N) (hN : N ≤ 9223372036854775807) (hz : Int) (hz0 : 0 ≤ hz) (hz1 : hz ≤ 65535) :
    Calls Try.prog 5 #[.slice A N c, .int .u16 hz] w fun e w' => e = .returned (.bool true) ∧ Below w.heap.size w w' := by
  by_cases h : N ≤ 120
  · exact orders_walk A N c hz w ha h hz0 hz1
  · exact orders_many A N c hz w (by omega) hN
end Go.Proofs.Ytpfidohneddgkaa
