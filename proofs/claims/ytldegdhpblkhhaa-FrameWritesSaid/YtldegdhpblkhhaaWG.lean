/-
  A byte put behind a number.
-/
import Derived.Test.YtldegdhpblkhhaaWF
namespace Go.Proofs.Ytldegdhpblkhhaa
open Go Go.RowKit
theorem or8 (acc x : Nat) (h : acc < 72057594037927936) (hx : x < 256) : bits .or .u64 ((acc : Int) * 256) (x : Int) = ((acc * 256 + x : Nat) : Int) := by
  have hm : x < 2 ^ 8 := hx
  have e1 : (acc : Int) * 256 = ((acc * 256 : Nat) : Int) := by simp
  rw [e1, u64_or_nat _ _ (by omega) (by omega)]
  have := Nat.two_pow_add_eq_or_of_lt hm acc
  rw [show (2 : Nat) ^ 8 = 256 from rfl, Nat.mul_comm 256 acc] at this
  rw [this]
end Go.Proofs.Ytldegdhpblkhhaa
