/-
  Texts NSb, NSc, NSd, NSe of this seat, as far as they are used.
-/
import Derived.Test.YtlgedfljmgedfaaGreatJ31
namespace Go.Proofs.YtlgedfljmgedfaaGreat
open Go Go.RowKit
open M10 (hid Md encm mv mz Oth range_keep there_keep range_other there_other setCells_oth setCells_size there_set Ty enct tv tz Fr encf fv fz)
open O6 (Oc enco ov oz)
open T9 (sv)
set_option maxRecDepth 100000 in
set_option maxHeartbeats 2000000 in
theorem fits_4 (x : Nd) (m : Md) (A : Option Addr) (n c BB : Nat) (w : World) (hm : M10.Ok m) (hr : T9.Row w BB A n (sv x.dv)) (_hB : BB ≤ w.heap.size) (_hn : n ≤ 9223372036854775807) (h0 : (decide (0 ≤ x.id) && decide (x.id ≤ m.n - 1)) = true) (h1 : (decide (0 ≤ x.ph) && decide (x.ph ≤ 3)) = true) (h2 : decide (x.sl ≤ 4294967296) = true) (h3 : timeB x.st = true) (h4 : farB m.d x.co = true) :
    Calls Tryz.prog 56 #[mv m, nv x A n c] w fun e w' => e = .returned (.bool false) ∧ Below w.heap.size w w' := by
  have hmf : ∀ (fn : Fn) (first cap : Array Value) (w : World), (Instr.makeFunc fn first cap).run Tryz.prog w = .ok (.func fn first cap) w := fun _ _ _ _ => rfl
  obtain ⟨m1, m2, m3, m4, m5, m6, m7, m8, m9⟩ := id hm
  have d0 : 0 ≤ m.d := by omega
  have d1 : m.d ≤ 1048576 := by omega
  have HR := hid hr
  have hl : x.dv.length = n := by have := hr.1; simpa [sv] using this
  have eN : IntKind.i64.wrap (m.n - 1) = m.n - 1 := by rw [IntKind.wrap_i64]; omega
  have H0 := hid h0
  clear h0
  have H1 := hid h1
  clear h1
  have H3 := hid h3
  clear h3
  have H4 := hid h4
  clear h4
  clear hr hm hl m1 m2 m3 m4 m5 m6 m7 m8 m9
  go_enter Tryz.func56, Tryz.ntmps56
  go_wp2_with (first
    | (go_at_call 109; (with_reducible refine C0.out.mono ?_); rintro e wq ⟨rfl, hq⟩; rw [hq]; clear hq wq)
    | (go_at_call 109; (with_reducible refine C1.out.mono ?_); rintro e wq ⟨rfl, hq⟩; rw [hq]; clear hq wq)
    | (go_at_call 30; (with_reducible refine C3.out.mono ?_); rintro e wq ⟨rfl, hq⟩; rw [hq]; clear hq wq)
    | (go_at_call 108; (with_reducible refine C4.out.mono ?_); rintro e wq ⟨rfl, hq⟩; rw [hq]; clear hq wq)
    | (refine wpList_gbox 32 (encn x A n c) rfl (.tmp 1) rfl rfl ?_; intro w2 v2 b2 s2; have V1 := v1.below b2 (v1.lt (by show 0 < 5; omega)); have BT := hid (b1.trans (b2.mono b1.size)); have mc : w2.cell? ⟨w.heap.size, 4, none⟩ = some (.int .i64 m.d) := V1.cell rfl; have mn : w2.cell? ⟨w.heap.size, 0, none⟩ = some (.int .i64 m.n) := V1.cell rfl; have a0 : w2.cell? ⟨w1.heap.size, 0, none⟩ = some (.int .i64 x.id) := v2.cell rfl; have a1 : w2.cell? ⟨w1.heap.size, 1, none⟩ = some (.int .i64 x.ph) := v2.cell rfl; have a2 : w2.cell? ⟨w1.heap.size, 2, none⟩ = some (.int .u64 x.sl) := v2.cell rfl; have a3 : w2.cell? ⟨w1.heap.size, 3, none⟩ = some (.int .i64 x.st) := v2.cell rfl; have a7 : w2.cell? ⟨w1.heap.size, 7, none⟩ = some (.int .i64 x.co) := v2.cell rfl; have C0 := within_109 x.id 0 (m.n - 1) _ rfl w2; rw [H0.out] at C0; have C0 := hid C0; have C1 := within_109 x.ph 0 3 _ rfl w2; rw [H1.out] at C1; have C1 := hid C1; have C3 := isTime_any x.st w2; rw [H3.out] at C3; have C3 := hid C3; have C4 := far_any x.co m.d w.heap.size w2 d0 d1 mc; rw [H4.out] at C4; have C4 := hid C4; clear V1 v1 v2 b1 b2 s1 s2 mc d0 d1 HR)
    | (refine wpList_gbox 23 (encm m) rfl (.tmp 0) rfl rfl ?_; intro w1 v1 b1 s1))
  go_ret
  exact ⟨rfl, BT.out⟩
set_option maxRecDepth 100000 in
set_option maxHeartbeats 2000000 in
theorem fits_5 (x : Nd) (m : Md) (A : Option Addr) (n c BB : Nat) (w : World) (hm : M10.Ok m) (hr : T9.Row w BB A n (sv x.dv)) (_hB : BB ≤ w.heap.size) (_hn : n ≤ 9223372036854775807) (h0 : (decide (0 ≤ x.id) && decide (x.id ≤ m.n - 1)) = true) (h1 : (decide (0 ≤ x.ph) && decide (x.ph ≤ 3)) = true) (h2 : decide (x.sl ≤ 4294967296) = true) (h3 : timeB x.st = true) (h4 : farB m.d x.co = false) (h5 : (decide (0 ≤ x.t.g) && decide (x.t.g ≤ 1073741824)) = false) :
    Calls Tryz.prog 56 #[mv m, nv x A n c] w fun e w' => e = .returned (.bool false) ∧ Below w.heap.size w w' := by
  have hmf : ∀ (fn : Fn) (first cap : Array Value) (w : World), (Instr.makeFunc fn first cap).run Tryz.prog w = .ok (.func fn first cap) w := fun _ _ _ _ => rfl
  obtain ⟨m1, m2, m3, m4, m5, m6, m7, m8, m9⟩ := id hm
  have d0 : 0 ≤ m.d := by omega
  have d1 : m.d ≤ 1048576 := by omega
  have HR := hid hr
  have hl : x.dv.length = n := by have := hr.1; simpa [sv] using this
  have eN : IntKind.i64.wrap (m.n - 1) = m.n - 1 := by rw [IntKind.wrap_i64]; omega
  have H0 := hid h0
  clear h0
  have H1 := hid h1
  clear h1
  have H3 := hid h3
  clear h3
  have H4 := hid h4
  clear h4
  have H5 := hid h5
  clear h5
  clear hr hm hl m1 m2 m3 m4 m5 m6 m7 m8 m9
  go_enter Tryz.func56, Tryz.ntmps56
  go_wp2_with (first
    | (go_at_call 109; (with_reducible refine C0.out.mono ?_); rintro e wq ⟨rfl, hq⟩; rw [hq]; clear hq wq)
    | (go_at_call 109; (with_reducible refine C1.out.mono ?_); rintro e wq ⟨rfl, hq⟩; rw [hq]; clear hq wq)
    | (go_at_call 30; (with_reducible refine C3.out.mono ?_); rintro e wq ⟨rfl, hq⟩; rw [hq]; clear hq wq)
    | (go_at_call 108; (with_reducible refine C4.out.mono ?_); rintro e wq ⟨rfl, hq⟩; rw [hq]; clear hq wq)
    | (go_at_call 109; (with_reducible refine C5.out.mono ?_); rintro e wq ⟨rfl, hq⟩; rw [hq]; clear hq wq)
    | (refine wpList_gbox 32 (encn x A n c) rfl (.tmp 1) rfl rfl ?_; intro w2 v2 b2 s2; have V1 := v1.below b2 (v1.lt (by show 0 < 5; omega)); have BT := hid (b1.trans (b2.mono b1.size)); have mc : w2.cell? ⟨w.heap.size, 4, none⟩ = some (.int .i64 m.d) := V1.cell rfl; have mn : w2.cell? ⟨w.heap.size, 0, none⟩ = some (.int .i64 m.n) := V1.cell rfl; have a0 : w2.cell? ⟨w1.heap.size, 0, none⟩ = some (.int .i64 x.id) := v2.cell rfl; have a1 : w2.cell? ⟨w1.heap.size, 1, none⟩ = some (.int .i64 x.ph) := v2.cell rfl; have a2 : w2.cell? ⟨w1.heap.size, 2, none⟩ = some (.int .u64 x.sl) := v2.cell rfl; have a3 : w2.cell? ⟨w1.heap.size, 3, none⟩ = some (.int .i64 x.st) := v2.cell rfl; have a7 : w2.cell? ⟨w1.heap.size, 7, none⟩ = some (.int .i64 x.co) := v2.cell rfl; have a9 : w2.cell? ⟨w1.heap.size, 9, none⟩ = some (.int .i64 x.t.g) := v2.cell rfl; have C0 := within_109 x.id 0 (m.n - 1) _ rfl w2; rw [H0.out] at C0; have C0 := hid C0; have C1 := within_109 x.ph 0 3 _ rfl w2; rw [H1.out] at C1; have C1 := hid C1; have C3 := isTime_any x.st w2; rw [H3.out] at C3; have C3 := hid C3; have C4 := far_any x.co m.d w.heap.size w2 d0 d1 mc; rw [H4.out] at C4; have C4 := hid C4; have C5 := within_109 x.t.g 0 1073741824 _ rfl w2; rw [H5.out] at C5; have C5 := hid C5; clear V1 v1 v2 b1 b2 s1 s2 mc d0 d1 HR)
    | (refine wpList_gbox 23 (encm m) rfl (.tmp 0) rfl rfl ?_; intro w1 v1 b1 s1))
  go_ret
  exact ⟨rfl, BT.out⟩
set_option maxRecDepth 100000 in
set_option maxHeartbeats 2000000 in
theorem fits_6 (x : Nd) (m : Md) (A : Option Addr) (n c BB : Nat) (w : World) (hm : M10.Ok m) (hr : T9.Row w BB A n (sv x.dv)) (_hB : BB ≤ w.heap.size) (_hn : n ≤ 9223372036854775807) (h0 : (decide (0 ≤ x.id) && decide (x.id ≤ m.n - 1)) = true) (h1 : (decide (0 ≤ x.ph) && decide (x.ph ≤ 3)) = true) (h2 : decide (x.sl ≤ 4294967296) = true) (h3 : timeB x.st = true) (h4 : farB m.d x.co = false) (h5 : (decide (0 ≤ x.t.g) && decide (x.t.g ≤ 1073741824)) = true) (h6 : (decide (0 ≤ x.t.b) && decide (x.t.b ≤ 1073741824)) = false) :
    Calls Tryz.prog 56 #[mv m, nv x A n c] w fun e w' => e = .returned (.bool false) ∧ Below w.heap.size w w' := by
  have hmf : ∀ (fn : Fn) (first cap : Array Value) (w : World), (Instr.makeFunc fn first cap).run Tryz.prog w = .ok (.func fn first cap) w := fun _ _ _ _ => rfl
  obtain ⟨m1, m2, m3, m4, m5, m6, m7, m8, m9⟩ := id hm
  have d0 : 0 ≤ m.d := by omega
  have d1 : m.d ≤ 1048576 := by omega
  have HR := hid hr
  have hl : x.dv.length = n := by have := hr.1; simpa [sv] using this
  have eN : IntKind.i64.wrap (m.n - 1) = m.n - 1 := by rw [IntKind.wrap_i64]; omega
  have H0 := hid h0
  clear h0
  have H1 := hid h1
  clear h1
  have H3 := hid h3
  clear h3
  have H4 := hid h4
  clear h4
  have H5 := hid h5
  clear h5
  have H6 := hid h6
  clear h6
  clear hr hm hl m1 m2 m3 m4 m5 m6 m7 m8 m9
  go_enter Tryz.func56, Tryz.ntmps56
  go_wp2_with (first
    | (go_at_call 109; (with_reducible refine C0.out.mono ?_); rintro e wq ⟨rfl, hq⟩; rw [hq]; clear hq wq)
    | (go_at_call 109; (with_reducible refine C1.out.mono ?_); rintro e wq ⟨rfl, hq⟩; rw [hq]; clear hq wq)
    | (go_at_call 30; (with_reducible refine C3.out.mono ?_); rintro e wq ⟨rfl, hq⟩; rw [hq]; clear hq wq)
    | (go_at_call 108; (with_reducible refine C4.out.mono ?_); rintro e wq ⟨rfl, hq⟩; rw [hq]; clear hq wq)
    | (go_at_call 109; (with_reducible refine C5.out.mono ?_); rintro e wq ⟨rfl, hq⟩; rw [hq]; clear hq wq)
    | (go_at_call 109; (with_reducible refine C6.out.mono ?_); rintro e wq ⟨rfl, hq⟩; rw [hq]; clear hq wq)
    | (refine wpList_gbox 32 (encn x A n c) rfl (.tmp 1) rfl rfl ?_; intro w2 v2 b2 s2; have V1 := v1.below b2 (v1.lt (by show 0 < 5; omega)); have BT := hid (b1.trans (b2.mono b1.size)); have mc : w2.cell? ⟨w.heap.size, 4, none⟩ = some (.int .i64 m.d) := V1.cell rfl; have mn : w2.cell? ⟨w.heap.size, 0, none⟩ = some (.int .i64 m.n) := V1.cell rfl; have a0 : w2.cell? ⟨w1.heap.size, 0, none⟩ = some (.int .i64 x.id) := v2.cell rfl; have a1 : w2.cell? ⟨w1.heap.size, 1, none⟩ = some (.int .i64 x.ph) := v2.cell rfl; have a2 : w2.cell? ⟨w1.heap.size, 2, none⟩ = some (.int .u64 x.sl) := v2.cell rfl; have a3 : w2.cell? ⟨w1.heap.size, 3, none⟩ = some (.int .i64 x.st) := v2.cell rfl; have a7 : w2.cell? ⟨w1.heap.size, 7, none⟩ = some (.int .i64 x.co) := v2.cell rfl; have a9 : w2.cell? ⟨w1.heap.size, 9, none⟩ = some (.int .i64 x.t.g) := v2.cell rfl; have a10 : w2.cell? ⟨w1.heap.size, 10, none⟩ = some (.int .i64 x.t.b) := v2.cell rfl; have C0 := within_109 x.id 0 (m.n - 1) _ rfl w2; rw [H0.out] at C0; have C0 := hid C0; have C1 := within_109 x.ph 0 3 _ rfl w2; rw [H1.out] at C1; have C1 := hid C1; have C3 := isTime_any x.st w2; rw [H3.out] at C3; have C3 := hid C3; have C4 := far_any x.co m.d w.heap.size w2 d0 d1 mc; rw [H4.out] at C4; have C4 := hid C4; have C5 := within_109 x.t.g 0 1073741824 _ rfl w2; rw [H5.out] at C5; have C5 := hid C5; have C6 := within_109 x.t.b 0 1073741824 _ rfl w2; rw [H6.out] at C6; have C6 := hid C6; clear V1 v1 v2 b1 b2 s1 s2 mc d0 d1 HR)
    | (refine wpList_gbox 23 (encm m) rfl (.tmp 0) rfl rfl ?_; intro w1 v1 b1 s1))
  go_ret
  exact ⟨rfl, BT.out⟩
end Go.Proofs.YtlgedfljmgedfaaGreat
namespace Go.Proofs.YtlgedfljmgedfaaGreat
open Go Go.RowKit
open M10 (hid Md encm mv mz Oth range_keep there_keep range_other there_other setCells_oth setCells_size there_set Ty enct tv tz Fr encf fv fz)
open O6 (Oc enco ov oz)
open T9 (sv)
set_option maxRecDepth 100000 in
set_option maxHeartbeats 2000000 in
theorem fits_7 (x : Nd) (m : Md) (A : Option Addr) (n c BB : Nat) (w : World) (hm : M10.Ok m) (hr : T9.Row w BB A n (sv x.dv)) (_hB : BB ≤ w.heap.size) (_hn : n ≤ 9223372036854775807) (h0 : (decide (0 ≤ x.id) && decide (x.id ≤ m.n - 1)) = true) (h1 : (decide (0 ≤ x.ph) && decide (x.ph ≤ 3)) = true) (h2 : decide (x.sl ≤ 4294967296) = true) (h3 : timeB x.st = true) (h4 : farB m.d x.co = false) (h5 : (decide (0 ≤ x.t.g) && decide (x.t.g ≤ 1073741824)) = true) (h6 : (decide (0 ≤ x.t.b) && decide (x.t.b ≤ 1073741824)) = true) (h7 : decide ((x.dv.length : Int) ≤ m.n) = false) :
    Calls Tryz.prog 56 #[mv m, nv x A n c] w fun e w' => e = .returned (.bool false) ∧ Below w.heap.size w w' := by
  have hmf : ∀ (fn : Fn) (first cap : Array Value) (w : World), (Instr.makeFunc fn first cap).run Tryz.prog w = .ok (.func fn first cap) w := fun _ _ _ _ => rfl
  obtain ⟨m1, m2, m3, m4, m5, m6, m7, m8, m9⟩ := id hm
  have d0 : 0 ≤ m.d := by omega
  have d1 : m.d ≤ 1048576 := by omega
  have HR := hid hr
  have hl : x.dv.length = n := by have := hr.1; simpa [sv] using this
  have eN : IntKind.i64.wrap (m.n - 1) = m.n - 1 := by rw [IntKind.wrap_i64]; omega
  rw [hl] at h7
  have H0 := hid h0
  clear h0
  have H1 := hid h1
  clear h1
  have H3 := hid h3
  clear h3
  have H4 := hid h4
  clear h4
  have H5 := hid h5
  clear h5
  have H6 := hid h6
  clear h6
  clear hr hm hl m1 m2 m3 m4 m5 m6 m7 m8 m9
  go_enter Tryz.func56, Tryz.ntmps56
  go_wp2_with (first
    | (go_at_call 109; (with_reducible refine C0.out.mono ?_); rintro e wq ⟨rfl, hq⟩; rw [hq]; clear hq wq)
    | (go_at_call 109; (with_reducible refine C1.out.mono ?_); rintro e wq ⟨rfl, hq⟩; rw [hq]; clear hq wq)
    | (go_at_call 30; (with_reducible refine C3.out.mono ?_); rintro e wq ⟨rfl, hq⟩; rw [hq]; clear hq wq)
    | (go_at_call 108; (with_reducible refine C4.out.mono ?_); rintro e wq ⟨rfl, hq⟩; rw [hq]; clear hq wq)
    | (go_at_call 109; (with_reducible refine C5.out.mono ?_); rintro e wq ⟨rfl, hq⟩; rw [hq]; clear hq wq)
    | (go_at_call 109; (with_reducible refine C6.out.mono ?_); rintro e wq ⟨rfl, hq⟩; rw [hq]; clear hq wq)
    | (refine wpList_gbox 32 (encn x A n c) rfl (.tmp 1) rfl rfl ?_; intro w2 v2 b2 s2; have V1 := v1.below b2 (v1.lt (by show 0 < 5; omega)); have BT := hid (b1.trans (b2.mono b1.size)); have mc : w2.cell? ⟨w.heap.size, 4, none⟩ = some (.int .i64 m.d) := V1.cell rfl; have mn : w2.cell? ⟨w.heap.size, 0, none⟩ = some (.int .i64 m.n) := V1.cell rfl; have a0 : w2.cell? ⟨w1.heap.size, 0, none⟩ = some (.int .i64 x.id) := v2.cell rfl; have a1 : w2.cell? ⟨w1.heap.size, 1, none⟩ = some (.int .i64 x.ph) := v2.cell rfl; have a2 : w2.cell? ⟨w1.heap.size, 2, none⟩ = some (.int .u64 x.sl) := v2.cell rfl; have a3 : w2.cell? ⟨w1.heap.size, 3, none⟩ = some (.int .i64 x.st) := v2.cell rfl; have a7 : w2.cell? ⟨w1.heap.size, 7, none⟩ = some (.int .i64 x.co) := v2.cell rfl; have a9 : w2.cell? ⟨w1.heap.size, 9, none⟩ = some (.int .i64 x.t.g) := v2.cell rfl; have a10 : w2.cell? ⟨w1.heap.size, 10, none⟩ = some (.int .i64 x.t.b) := v2.cell rfl; have a11 : w2.cell? ⟨w1.heap.size, 11, none⟩ = some (.slice A n c) := v2.cell rfl; have C0 := within_109 x.id 0 (m.n - 1) _ rfl w2; rw [H0.out] at C0; have C0 := hid C0; have C1 := within_109 x.ph 0 3 _ rfl w2; rw [H1.out] at C1; have C1 := hid C1; have C3 := isTime_any x.st w2; rw [H3.out] at C3; have C3 := hid C3; have C4 := far_any x.co m.d w.heap.size w2 d0 d1 mc; rw [H4.out] at C4; have C4 := hid C4; have C5 := within_109 x.t.g 0 1073741824 _ rfl w2; rw [H5.out] at C5; have C5 := hid C5; have C6 := within_109 x.t.b 0 1073741824 _ rfl w2; rw [H6.out] at C6; have C6 := hid C6; clear V1 v1 v2 b1 b2 s1 s2 mc d0 d1 HR)
    | (refine wpList_gbox 23 (encm m) rfl (.tmp 0) rfl rfl ?_; intro w1 v1 b1 s1))
  go_ret
  exact ⟨rfl, BT.out⟩
set_option maxRecDepth 100000 in
set_option maxHeartbeats 2000000 in
theorem fits_8 (x : Nd) (m : Md) (A : Option Addr) (n c BB : Nat) (w : World) (hm : M10.Ok m) (hr : T9.Row w BB A n (sv x.dv)) (hB : BB ≤ w.heap.size) (hn : n ≤ 9223372036854775807) (h0 : (decide (0 ≤ x.id) && decide (x.id ≤ m.n - 1)) = true) (h1 : (decide (0 ≤ x.ph) && decide (x.ph ≤ 3)) = true) (h2 : decide (x.sl ≤ 4294967296) = true) (h3 : timeB x.st = true) (h4 : farB m.d x.co = false) (h5 : (decide (0 ≤ x.t.g) && decide (x.t.g ≤ 1073741824)) = true) (h6 : (decide (0 ≤ x.t.b) && decide (x.t.b ≤ 1073741824)) = true) (h7 : decide ((x.dv.length : Int) ≤ m.n) = true) (h8 : anyFar m.d x.dv = true) :
    Calls Tryz.prog 56 #[mv m, nv x A n c] w fun e w' => e = .returned (.bool false) ∧ Below w.heap.size w w' := by
  have hmf : ∀ (fn : Fn) (first cap : Array Value) (w : World), (Instr.makeFunc fn first cap).run Tryz.prog w = .ok (.func fn first cap) w := fun _ _ _ _ => rfl
  obtain ⟨m1, m2, m3, m4, m5, m6, m7, m8, m9⟩ := id hm
  have d0 : 0 ≤ m.d := by omega
  have d1 : m.d ≤ 1048576 := by omega
  have HR := hid hr
  have hl : x.dv.length = n := by have := hr.1; simpa [sv] using this
  have eN : IntKind.i64.wrap (m.n - 1) = m.n - 1 := by rw [IntKind.wrap_i64]; omega
  rw [hl] at h7
  have H0 := hid h0
  clear h0
  have H1 := hid h1
  clear h1
  have H3 := hid h3
  clear h3
  have H4 := hid h4
  clear h4
  have H5 := hid h5
  clear h5
  have H6 := hid h6
  clear h6
  have H8 := hid h8
  clear h8
  clear hr hm hl m1 m2 m3 m4 m5 m6 m7 m8 m9
  go_enter Tryz.func56, Tryz.ntmps56
  go_wp2_with (first
    | (go_at_call 109; (with_reducible refine C0.out.mono ?_); rintro e wq ⟨rfl, hq⟩; rw [hq]; clear hq wq)
    | (go_at_call 109; (with_reducible refine C1.out.mono ?_); rintro e wq ⟨rfl, hq⟩; rw [hq]; clear hq wq)
    | (go_at_call 30; (with_reducible refine C3.out.mono ?_); rintro e wq ⟨rfl, hq⟩; rw [hq]; clear hq wq)
    | (go_at_call 108; (with_reducible refine C4.out.mono ?_); rintro e wq ⟨rfl, hq⟩; rw [hq]; clear hq wq)
    | (go_at_call 109; (with_reducible refine C5.out.mono ?_); rintro e wq ⟨rfl, hq⟩; rw [hq]; clear hq wq)
    | (go_at_call 109; (with_reducible refine C6.out.mono ?_); rintro e wq ⟨rfl, hq⟩; rw [hq]; clear hq wq)
    | (go_at_call 110; (with_reducible refine C8.out.mono ?_); rintro e wq ⟨rfl, hq⟩; rw [hq]; clear hq wq)
    | (refine wpList_gbox 32 (encn x A n c) rfl (.tmp 1) rfl rfl ?_; intro w2 v2 b2 s2; have V1 := v1.below b2 (v1.lt (by show 0 < 5; omega)); have BT := hid (b1.trans (b2.mono b1.size)); have mc : w2.cell? ⟨w.heap.size, 4, none⟩ = some (.int .i64 m.d) := V1.cell rfl; have mn : w2.cell? ⟨w.heap.size, 0, none⟩ = some (.int .i64 m.n) := V1.cell rfl; have a0 : w2.cell? ⟨w1.heap.size, 0, none⟩ = some (.int .i64 x.id) := v2.cell rfl; have a1 : w2.cell? ⟨w1.heap.size, 1, none⟩ = some (.int .i64 x.ph) := v2.cell rfl; have a2 : w2.cell? ⟨w1.heap.size, 2, none⟩ = some (.int .u64 x.sl) := v2.cell rfl; have a3 : w2.cell? ⟨w1.heap.size, 3, none⟩ = some (.int .i64 x.st) := v2.cell rfl; have a7 : w2.cell? ⟨w1.heap.size, 7, none⟩ = some (.int .i64 x.co) := v2.cell rfl; have a9 : w2.cell? ⟨w1.heap.size, 9, none⟩ = some (.int .i64 x.t.g) := v2.cell rfl; have a10 : w2.cell? ⟨w1.heap.size, 10, none⟩ = some (.int .i64 x.t.b) := v2.cell rfl; have a11 : w2.cell? ⟨w1.heap.size, 11, none⟩ = some (.slice A n c) := v2.cell rfl; have C0 := within_109 x.id 0 (m.n - 1) _ rfl w2; rw [H0.out] at C0; have C0 := hid C0; have C1 := within_109 x.ph 0 3 _ rfl w2; rw [H1.out] at C1; have C1 := hid C1; have C3 := isTime_any x.st w2; rw [H3.out] at C3; have C3 := hid C3; have C4 := far_any x.co m.d w.heap.size w2 d0 d1 mc; rw [H4.out] at C4; have C4 := hid C4; have C5 := within_109 x.t.g 0 1073741824 _ rfl w2; rw [H5.out] at C5; have C5 := hid C5; have C6 := within_109 x.t.b 0 1073741824 _ rfl w2; rw [H6.out] at C6; have C6 := hid C6; have C8 := contains_any A n c BB x.dv m.d w.heap.size w2 hn d0 d1 mc (HR.out.below (BT.out.mono hB)); rw [H8.out] at C8; have C8 := hid C8; clear V1 v1 v2 b1 b2 s1 s2 mc d0 d1 HR)
    | (refine wpList_gbox 23 (encm m) rfl (.tmp 0) rfl rfl ?_; intro w1 v1 b1 s1))
  go_ret
  exact ⟨rfl, BT.out⟩
end Go.Proofs.YtlgedfljmgedfaaGreat
namespace Go.Proofs.YtlgedfljmgedfaaGreat
open Go Go.RowKit
open M10 (hid Md encm mv mz Oth range_keep there_keep range_other there_other setCells_oth setCells_size there_set Ty enct tv tz Fr encf fv fz)
open O6 (Oc enco ov oz)
open T9 (sv)
set_option maxRecDepth 100000 in
set_option maxHeartbeats 2000000 in
theorem fits_9 (x : Nd) (m : Md) (A : Option Addr) (n c BB : Nat) (w : World) (hm : M10.Ok m) (hr : T9.Row w BB A n (sv x.dv)) (hB : BB ≤ w.heap.size) (hn : n ≤ 9223372036854775807) (h0 : (decide (0 ≤ x.id) && decide (x.id ≤ m.n - 1)) = true) (h1 : (decide (0 ≤ x.ph) && decide (x.ph ≤ 3)) = true) (h2 : decide (x.sl ≤ 4294967296) = true) (h3 : timeB x.st = true) (h4 : farB m.d x.co = false) (h5 : (decide (0 ≤ x.t.g) && decide (x.t.g ≤ 1073741824)) = true) (h6 : (decide (0 ≤ x.t.b) && decide (x.t.b ≤ 1073741824)) = true) (h7 : decide ((x.dv.length : Int) ≤ m.n) = true) (h8 : anyFar m.d x.dv = false) (h9 : (decide (0 ≤ x.vd) && decide (x.vd ≤ 3)) = false) :
    Calls Tryz.prog 56 #[mv m, nv x A n c] w fun e w' => e = .returned (.bool false) ∧ Below w.heap.size w w' := by
  have hmf : ∀ (fn : Fn) (first cap : Array Value) (w : World), (Instr.makeFunc fn first cap).run Tryz.prog w = .ok (.func fn first cap) w := fun _ _ _ _ => rfl
  obtain ⟨m1, m2, m3, m4, m5, m6, m7, m8, m9⟩ := id hm
  have d0 : 0 ≤ m.d := by omega
  have d1 : m.d ≤ 1048576 := by omega
  have HR := hid hr
  have hl : x.dv.length = n := by have := hr.1; simpa [sv] using this
  have eN : IntKind.i64.wrap (m.n - 1) = m.n - 1 := by rw [IntKind.wrap_i64]; omega
  rw [hl] at h7
  have H0 := hid h0
  clear h0
  have H1 := hid h1
  clear h1
  have H3 := hid h3
  clear h3
  have H4 := hid h4
  clear h4
  have H5 := hid h5
  clear h5
  have H6 := hid h6
  clear h6
  have H8 := hid h8
  clear h8
  have H9 := hid h9
  clear h9
  clear hr hm hl m1 m2 m3 m4 m5 m6 m7 m8 m9
  go_enter Tryz.func56, Tryz.ntmps56
  go_wp2_with (first
    | (go_at_call 109; (with_reducible refine C0.out.mono ?_); rintro e wq ⟨rfl, hq⟩; rw [hq]; clear hq wq)
    | (go_at_call 109; (with_reducible refine C1.out.mono ?_); rintro e wq ⟨rfl, hq⟩; rw [hq]; clear hq wq)
    | (go_at_call 30; (with_reducible refine C3.out.mono ?_); rintro e wq ⟨rfl, hq⟩; rw [hq]; clear hq wq)
    | (go_at_call 108; (with_reducible refine C4.out.mono ?_); rintro e wq ⟨rfl, hq⟩; rw [hq]; clear hq wq)
    | (go_at_call 109; (with_reducible refine C5.out.mono ?_); rintro e wq ⟨rfl, hq⟩; rw [hq]; clear hq wq)
    | (go_at_call 109; (with_reducible refine C6.out.mono ?_); rintro e wq ⟨rfl, hq⟩; rw [hq]; clear hq wq)
    | (go_at_call 110; (with_reducible refine C8.out.mono ?_); rintro e wq ⟨rfl, hq⟩; rw [hq]; clear hq wq)
    | (go_at_call 109; (with_reducible refine C9.out.mono ?_); rintro e wq ⟨rfl, hq⟩; rw [hq]; clear hq wq)
    | (refine wpList_gbox 32 (encn x A n c) rfl (.tmp 1) rfl rfl ?_; intro w2 v2 b2 s2; have V1 := v1.below b2 (v1.lt (by show 0 < 5; omega)); have BT := hid (b1.trans (b2.mono b1.size)); have mc : w2.cell? ⟨w.heap.size, 4, none⟩ = some (.int .i64 m.d) := V1.cell rfl; have mn : w2.cell? ⟨w.heap.size, 0, none⟩ = some (.int .i64 m.n) := V1.cell rfl; have a0 : w2.cell? ⟨w1.heap.size, 0, none⟩ = some (.int .i64 x.id) := v2.cell rfl; have a1 : w2.cell? ⟨w1.heap.size, 1, none⟩ = some (.int .i64 x.ph) := v2.cell rfl; have a2 : w2.cell? ⟨w1.heap.size, 2, none⟩ = some (.int .u64 x.sl) := v2.cell rfl; have a3 : w2.cell? ⟨w1.heap.size, 3, none⟩ = some (.int .i64 x.st) := v2.cell rfl; have a7 : w2.cell? ⟨w1.heap.size, 7, none⟩ = some (.int .i64 x.co) := v2.cell rfl; have a9 : w2.cell? ⟨w1.heap.size, 9, none⟩ = some (.int .i64 x.t.g) := v2.cell rfl; have a10 : w2.cell? ⟨w1.heap.size, 10, none⟩ = some (.int .i64 x.t.b) := v2.cell rfl; have a11 : w2.cell? ⟨w1.heap.size, 11, none⟩ = some (.slice A n c) := v2.cell rfl; have a13 : w2.cell? ⟨w1.heap.size, 13, none⟩ = some (.int .i64 x.vd) := v2.cell rfl; have C0 := within_109 x.id 0 (m.n - 1) _ rfl w2; rw [H0.out] at C0; have C0 := hid C0; have C1 := within_109 x.ph 0 3 _ rfl w2; rw [H1.out] at C1; have C1 := hid C1; have C3 := isTime_any x.st w2; rw [H3.out] at C3; have C3 := hid C3; have C4 := far_any x.co m.d w.heap.size w2 d0 d1 mc; rw [H4.out] at C4; have C4 := hid C4; have C5 := within_109 x.t.g 0 1073741824 _ rfl w2; rw [H5.out] at C5; have C5 := hid C5; have C6 := within_109 x.t.b 0 1073741824 _ rfl w2; rw [H6.out] at C6; have C6 := hid C6; have C8 := contains_any A n c BB x.dv m.d w.heap.size w2 hn d0 d1 mc (HR.out.below (BT.out.mono hB)); rw [H8.out] at C8; have C8 := hid C8; have C9 := within_109 x.vd 0 3 _ rfl w2; rw [H9.out] at C9; have C9 := hid C9; clear V1 v1 v2 b1 b2 s1 s2 mc d0 d1 HR)
    | (refine wpList_gbox 23 (encm m) rfl (.tmp 0) rfl rfl ?_; intro w1 v1 b1 s1))
  go_ret
  exact ⟨rfl, BT.out⟩
set_option maxRecDepth 100000 in
set_option maxHeartbeats 2000000 in
theorem fits_10 (x : Nd) (m : Md) (A : Option Addr) (n c BB : Nat) (w : World) (hm : M10.Ok m) (hr : T9.Row w BB A n (sv x.dv)) (hB : BB ≤ w.heap.size) (hn : n ≤ 9223372036854775807) (h0 : (decide (0 ≤ x.id) && decide (x.id ≤ m.n - 1)) = true) (h1 : (decide (0 ≤ x.ph) && decide (x.ph ≤ 3)) = true) (h2 : decide (x.sl ≤ 4294967296) = true) (h3 : timeB x.st = true) (h4 : farB m.d x.co = false) (h5 : (decide (0 ≤ x.t.g) && decide (x.t.g ≤ 1073741824)) = true) (h6 : (decide (0 ≤ x.t.b) && decide (x.t.b ≤ 1073741824)) = true) (h7 : decide ((x.dv.length : Int) ≤ m.n) = true) (h8 : anyFar m.d x.dv = false) (h9 : (decide (0 ≤ x.vd) && decide (x.vd ≤ 3)) = true) :
    Calls Tryz.prog 56 #[mv m, nv x A n c] w fun e w' => e = .returned (.bool true) ∧ Below w.heap.size w w' := by
  have hmf : ∀ (fn : Fn) (first cap : Array Value) (w : World), (Instr.makeFunc fn first cap).run Tryz.prog w = .ok (.func fn first cap) w := fun _ _ _ _ => rfl
  obtain ⟨m1, m2, m3, m4, m5, m6, m7, m8, m9⟩ := id hm
  have d0 : 0 ≤ m.d := by omega
  have d1 : m.d ≤ 1048576 := by omega
  have HR := hid hr
  have hl : x.dv.length = n := by have := hr.1; simpa [sv] using this
  have eN : IntKind.i64.wrap (m.n - 1) = m.n - 1 := by rw [IntKind.wrap_i64]; omega
  rw [hl] at h7
  have H0 := hid h0
  clear h0
  have H1 := hid h1
  clear h1
  have H3 := hid h3
  clear h3
  have H4 := hid h4
  clear h4
  have H5 := hid h5
  clear h5
  have H6 := hid h6
  clear h6
  have H8 := hid h8
  clear h8
  have H9 := hid h9
  clear h9
  clear hr hm hl m1 m2 m3 m4 m5 m6 m7 m8 m9
  go_enter Tryz.func56, Tryz.ntmps56
  go_wp2_with (first
    | (go_at_call 109; (with_reducible refine C0.out.mono ?_); rintro e wq ⟨rfl, hq⟩; rw [hq]; clear hq wq)
    | (go_at_call 109; (with_reducible refine C1.out.mono ?_); rintro e wq ⟨rfl, hq⟩; rw [hq]; clear hq wq)
    | (go_at_call 30; (with_reducible refine C3.out.mono ?_); rintro e wq ⟨rfl, hq⟩; rw [hq]; clear hq wq)
    | (go_at_call 108; (with_reducible refine C4.out.mono ?_); rintro e wq ⟨rfl, hq⟩; rw [hq]; clear hq wq)
    | (go_at_call 109; (with_reducible refine C5.out.mono ?_); rintro e wq ⟨rfl, hq⟩; rw [hq]; clear hq wq)
    | (go_at_call 109; (with_reducible refine C6.out.mono ?_); rintro e wq ⟨rfl, hq⟩; rw [hq]; clear hq wq)
    | (go_at_call 110; (with_reducible refine C8.out.mono ?_); rintro e wq ⟨rfl, hq⟩; rw [hq]; clear hq wq)
    | (go_at_call 109; (with_reducible refine C9.out.mono ?_); rintro e wq ⟨rfl, hq⟩; rw [hq]; clear hq wq)
    | (refine wpList_gbox 32 (encn x A n c) rfl (.tmp 1) rfl rfl ?_; intro w2 v2 b2 s2; have V1 := v1.below b2 (v1.lt (by show 0 < 5; omega)); have BT := hid (b1.trans (b2.mono b1.size)); have mc : w2.cell? ⟨w.heap.size, 4, none⟩ = some (.int .i64 m.d) := V1.cell rfl; have mn : w2.cell? ⟨w.heap.size, 0, none⟩ = some (.int .i64 m.n) := V1.cell rfl; have a0 : w2.cell? ⟨w1.heap.size, 0, none⟩ = some (.int .i64 x.id) := v2.cell rfl; have a1 : w2.cell? ⟨w1.heap.size, 1, none⟩ = some (.int .i64 x.ph) := v2.cell rfl; have a2 : w2.cell? ⟨w1.heap.size, 2, none⟩ = some (.int .u64 x.sl) := v2.cell rfl; have a3 : w2.cell? ⟨w1.heap.size, 3, none⟩ = some (.int .i64 x.st) := v2.cell rfl; have a7 : w2.cell? ⟨w1.heap.size, 7, none⟩ = some (.int .i64 x.co) := v2.cell rfl; have a9 : w2.cell? ⟨w1.heap.size, 9, none⟩ = some (.int .i64 x.t.g) := v2.cell rfl; have a10 : w2.cell? ⟨w1.heap.size, 10, none⟩ = some (.int .i64 x.t.b) := v2.cell rfl; have a11 : w2.cell? ⟨w1.heap.size, 11, none⟩ = some (.slice A n c) := v2.cell rfl; have a13 : w2.cell? ⟨w1.heap.size, 13, none⟩ = some (.int .i64 x.vd) := v2.cell rfl; have C0 := within_109 x.id 0 (m.n - 1) _ rfl w2; rw [H0.out] at C0; have C0 := hid C0; have C1 := within_109 x.ph 0 3 _ rfl w2; rw [H1.out] at C1; have C1 := hid C1; have C3 := isTime_any x.st w2; rw [H3.out] at C3; have C3 := hid C3; have C4 := far_any x.co m.d w.heap.size w2 d0 d1 mc; rw [H4.out] at C4; have C4 := hid C4; have C5 := within_109 x.t.g 0 1073741824 _ rfl w2; rw [H5.out] at C5; have C5 := hid C5; have C6 := within_109 x.t.b 0 1073741824 _ rfl w2; rw [H6.out] at C6; have C6 := hid C6; have C8 := contains_any A n c BB x.dv m.d w.heap.size w2 hn d0 d1 mc (HR.out.below (BT.out.mono hB)); rw [H8.out] at C8; have C8 := hid C8; have C9 := within_109 x.vd 0 3 _ rfl w2; rw [H9.out] at C9; have C9 := hid C9; clear V1 v1 v2 b1 b2 s1 s2 mc d0 d1 HR)
    | (refine wpList_gbox 23 (encm m) rfl (.tmp 0) rfl rfl ?_; intro w1 v1 b1 s1))
  go_ret
  exact ⟨rfl, BT.out⟩
end Go.Proofs.YtlgedfljmgedfaaGreat
namespace Go.Proofs.YtlgedfljmgedfaaGreat
open Go Go.RowKit
open M10 (hid Md encm mv mz Oth range_keep there_keep range_other there_other setCells_oth setCells_size there_set Ty enct tv tz Fr encf fv fz)
open O6 (Oc enco ov oz)
open T9 (sv)
theorem fits_any (x : Nd) (m : Md) (A : Option Addr) (n c BB : Nat) (w : World) (hm : M10.Ok m) (hr : T9.Row w BB A n (sv x.dv)) (hB : BB ≤ w.heap.size) (hn : n ≤ 9223372036854775807) :
    Calls Tryz.prog 56 #[mv m, nv x A n c] w fun e w' => e = .returned (.bool (fitB m x)) ∧ Below w.heap.size w w' := by
  rcases hb0 : (decide (0 ≤ x.id) && decide (x.id ≤ m.n - 1)) with _ | _
  case false =>
    have e := fits_0 x m A n c BB w hm hr hB hn  hb0
    rwa [show false = fitB m x from by unfold fitB; simp only [hb0]; rfl] at e
  rcases hb1 : (decide (0 ≤ x.ph) && decide (x.ph ≤ 3)) with _ | _
  case false =>
    have e := fits_1 x m A n c BB w hm hr hB hn hb0 hb1
    rwa [show false = fitB m x from by unfold fitB; simp only [hb0, hb1]; rfl] at e
  rcases hb2 : decide (x.sl ≤ 4294967296) with _ | _
  case false =>
    have e := fits_2 x m A n c BB w hm hr hB hn hb0 hb1 hb2
    rwa [show false = fitB m x from by unfold fitB; simp only [hb0, hb1, hb2]; rfl] at e
  rcases hb3 : timeB x.st with _ | _
  case false =>
    have e := fits_3 x m A n c BB w hm hr hB hn hb0 hb1 hb2 hb3
    rwa [show false = fitB m x from by unfold fitB; simp only [hb0, hb1, hb2, hb3]; rfl] at e
  rcases hb4 : farB m.d x.co with _ | _
  case true =>
    have e := fits_4 x m A n c BB w hm hr hB hn hb0 hb1 hb2 hb3 hb4
    rwa [show false = fitB m x from by unfold fitB; simp only [hb0, hb1, hb2, hb3, hb4]; rfl] at e
  rcases hb5 : (decide (0 ≤ x.t.g) && decide (x.t.g ≤ 1073741824)) with _ | _
  case false =>
    have e := fits_5 x m A n c BB w hm hr hB hn hb0 hb1 hb2 hb3 hb4 hb5
    rwa [show false = fitB m x from by unfold fitB; simp only [hb0, hb1, hb2, hb3, hb4, hb5]; rfl] at e
  rcases hb6 : (decide (0 ≤ x.t.b) && decide (x.t.b ≤ 1073741824)) with _ | _
  case false =>
    have e := fits_6 x m A n c BB w hm hr hB hn hb0 hb1 hb2 hb3 hb4 hb5 hb6
    rwa [show false = fitB m x from by unfold fitB; simp only [hb0, hb1, hb2, hb3, hb4, hb5, hb6]; rfl] at e
  rcases hb7 : decide ((x.dv.length : Int) ≤ m.n) with _ | _
  case false =>
    have e := fits_7 x m A n c BB w hm hr hB hn hb0 hb1 hb2 hb3 hb4 hb5 hb6 hb7
    rwa [show false = fitB m x from by unfold fitB; simp only [hb0, hb1, hb2, hb3, hb4, hb5, hb6, hb7]; rfl] at e
  rcases hb8 : anyFar m.d x.dv with _ | _
  case true =>
    have e := fits_8 x m A n c BB w hm hr hB hn hb0 hb1 hb2 hb3 hb4 hb5 hb6 hb7 hb8
    rwa [show false = fitB m x from by unfold fitB; simp only [hb0, hb1, hb2, hb3, hb4, hb5, hb6, hb7, hb8]; rfl] at e
  rcases hb9 : (decide (0 ≤ x.vd) && decide (x.vd ≤ 3)) with _ | _
  case false =>
    have e := fits_9 x m A n c BB w hm hr hB hn hb0 hb1 hb2 hb3 hb4 hb5 hb6 hb7 hb8 hb9
    rwa [show false = fitB m x from by unfold fitB; simp only [hb0, hb1, hb2, hb3, hb4, hb5, hb6, hb7, hb8, hb9]; rfl] at e
  have e := fits_10 x m A n c BB w hm hr hB hn hb0 hb1 hb2 hb3 hb4 hb5 hb6 hb7 hb8 hb9
  rwa [show true = fitB m x from by unfold fitB; simp only [hb0, hb1, hb2, hb3, hb4, hb5, hb6, hb7, hb8, hb9]; rfl] at e
end Go.Proofs.YtlgedfljmgedfaaGreat
