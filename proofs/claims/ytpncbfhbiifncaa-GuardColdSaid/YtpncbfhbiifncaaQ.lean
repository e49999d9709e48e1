/-
  Loads of a guardian, a schedule and a frame, for the walk: what is loaded is looked at first (an arm that does not fit fails at once).
-/
import Derived.Test.YtpncbfhbiifncaaVG
import Derived.Test.YtpncbfhbiifncaaVF
namespace Go.Proofs.Ytpncbfhbiifncaa
open Go Go.RowKit
section
variable {w : World} {g : Nat} {ops : Array Oper} {rest : List Oper} {o : Oper} {a : Act} {Q : Exit → Act → World → Prop}
theorem wpList_ldm2 {x : Md} (y : Operand) (ho : o.op = .load 26 y) (hx : a.eval y = .pointer (some ⟨g, 0, none⟩)) (hv : VarM w g x) (hw : Region.wanted o (yielded ops a.tmps) = true)
    (h : wpList Try.prog ops Q rest (a.put o.dst (mv x)) w) : wpList Try.prog ops Q (o :: rest) a w := wpList_ldm hw y ho hx hv h
theorem wpList_ldg2 {x : Gd} (y : Operand) (ho : o.op = .load 24 y) (hx : a.eval y = .pointer (some ⟨g, 0, none⟩)) (hv : VarG w g x) (hw : Region.wanted o (yielded ops a.tmps) = true)
    (h : wpList Try.prog ops Q rest (a.put o.dst (gv x)) w) : wpList Try.prog ops Q (o :: rest) a w := wpList_ldg hw y ho hx hv h
theorem wpList_ldf2 {x : Fr} (y : Operand) (ho : o.op = .load 37 y) (hx : a.eval y = .pointer (some ⟨g, 0, none⟩)) (hv : VarF w g x) (hw : Region.wanted o (yielded ops a.tmps) = true)
    (h : wpList Try.prog ops Q rest (a.put o.dst (fv x)) w) : wpList Try.prog ops Q (o :: rest) a w := wpList_ldf hw y ho hx hv h
end
end Go.Proofs.Ytpncbfhbiifncaa
