/-
  KernelOrders, where more is done than is asked.
-/
import Derived.Test.YtpfidohneddgkaaOB
namespace Go.Proofs.Ytpfidohneddgkaa
open Go Go.RowKit Go.Maps
set_option maxRecDepth 100000 in
theorem orders_many (A : Option Addr) (N c : Nat) (hz : Int) (w : World) (hN : 120 < N) (hN2 : N ≤ 9223372036854775807) :
    Calls Try.prog 5 #[.slice A N c, .int .u16 hz] w fun e w' => e = .returned (.bool true) ∧ Below w.heap.size w w' := by
  have hd : decide (120 < (N : Int)) = true := decide_eq_true (by omega)
  go_enter Try.func5, Try.ntmps5
  go_wp2_with (first
    | (go_at_call 9; refine (live_any w).mono ?_; rintro e w1 ⟨rfl, b1⟩; have B1 : Hid (Below w.heap.size w w1) := hid b1))
  go_ret
  exact ⟨rfl, B1.out⟩
end Go.Proofs.Ytpfidohneddgkaa
