/-
  The chapter's examples (live): they come out true.
-/
import Derived.Test.YtmmcnbhhdgnljaaF
namespace Go.Proofs.Ytmmcnbhhdgnljaa
open Go Go.RowKit
theorem live_1 (w : World) : Calls Try.prog 11 #[ov ⟨1000, 50, 0⟩, .int .i64 1000] w fun e w' => e = .returned (.tuple #[.int .i64 1000000, ov ⟨1000, 50, 50000000⟩, .int .i64 0]) ∧ Below w.heap.size w w' :=
  run_ok ⟨1000, 50, 0⟩ 1000 w (by decide) (by decide) (by decide) (by decide)
theorem live_2 (w : World) : Calls Try.prog 11 #[ov ⟨1000, 50, 0⟩, .int .i64 20000] w fun e w' => e = .returned (.tuple #[.int .i64 20000001, ov ⟨1000, 50, 0⟩, .int .i64 0]) ∧ Below w.heap.size w w' :=
  run_ok ⟨1000, 50, 0⟩ 20000 w (by decide) (by decide) (by decide) (by decide)
set_option maxRecDepth 100000 in
theorem live_any (w : World) : Calls Try.prog 8 #[] w fun e w' => e = .returned (.bool true) ∧ Below w.heap.size w w' := by
  go_enter Try.func8, Try.ntmps8
  go_wp2_with (first
    | (refine wpList_svo (x := ⟨1000, 50, 0⟩) rfl (.tmp 6) (.tmp 19) rfl rfl rfl r7 ?_; intro w8 r8 b8 o8 _; have q8 := q7.other o8 (by have := r6.lt; omega); have B8 : Hid (Below w.heap.size w w8) := hid (B7.out.trans (b8.mono B6.out.size)); have c2 : w8.cell? ⟨w3.heap.size, 2, none⟩ = some (.int .i64 50000000) := q8.c2)
    | (refine wpList_alo rfl rfl ?_; intro w7 r7 b7 s7; have q7 := r6.keep b7; have B7 : Hid (Below w.heap.size w w7) := hid (B6.out.trans (b7.mono B6.out.size)))
    | (go_at_call 11; (with_reducible refine (live_2 w5).mono ?_); rintro e w6 ⟨rfl, b6⟩; have r6 := r5.keep b6; have B6 : Hid (Below w.heap.size w w6) := hid (B5.out.trans (b6.mono B5.out.size)))
    | (refine wpList_svo (x := ⟨1000, 50, 50000000⟩) rfl (.tmp 3) (.tmp 13) rfl rfl rfl r4 ?_; intro w5 r5 b5 o5 _; have v5 := v4.other o5 (by have := v3.lt; omega); have B5 : Hid (Below w.heap.size w w5) := hid (B4.out.trans (b5.mono B3.out.size)))
    | (refine wpList_alo rfl rfl ?_; intro w4 r4 b4 s4; have v4 := v3.keep b4; have B4 : Hid (Below w.heap.size w w4) := hid (B3.out.trans (b4.mono B3.out.size)))
    | (go_at_call 11; (with_reducible refine (live_1 w2).mono ?_); rintro e w3 ⟨rfl, b3⟩; have v3 := v2.keep b3; have B3 : Hid (Below w.heap.size w w3) := hid (B2.out.trans (b3.mono B2.out.size)))
    | (refine wpList_ldo rfl (.tmp 1) rfl rfl v5 ?_)
    | (refine wpList_ldo rfl (.tmp 1) rfl rfl v2 ?_)
    | (refine wpList_svo (x := ⟨1000, 50, 0⟩) rfl (.tmp 1) (.tmp 8) rfl rfl rfl v1 ?_; intro w2 v2 b2 o2 _; have B2 : Hid (Below w.heap.size w w2) := hid (b1.trans b2))
    | (refine wpList_alo rfl rfl ?_; intro w1 v1 b1 s1))
  go_ret
  exact ⟨rfl, B8.out⟩
end Go.Proofs.Ytmmcnbhhdgnljaa
