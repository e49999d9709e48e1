/-
  member.After and the After of the document: who is there behind a slot, at every schedule, node, own members, slot and verdict.
-/
import Derived.Test.YtbfaebobainhjaaJ
import Derived.Test.YtbfaebobainhjaaT
namespace Go.Proofs.Ytbfaebobainhjaa
open Go Go.RowKit Go.Maps
/-- What After gives. -/
def RetA (m : Nat) (E : Int) (w : World) (e : Ending) (w' : World) : Prop := e = .returned (.tuple #[.int .u16 (m : Int), .int .i64 E]) ∧ Below w.heap.size w w'
theorem ret_ui {a b : Nat} {c d : Int} (h : a = b) (h' : c = d) : Ending.returned (.tuple #[.int .u16 (a : Int), .int .i64 c]) = .returned (.tuple #[.int .u16 (b : Int), .int .i64 d]) := by rw [h, h']
theorem after_no (x : Md) (me k v : Int) (own : Nat) (w : World) (hk : 0 ≤ k) (hm : ¬ May x me k) : Calls Try.prog 13 #[mv x, .int .i64 me, .int .u16 (own : Int), .int .u64 k, .int .i64 v] w (RetA 0 1 w) := by
  have HS := hid (fun w => seen_no x me k w hk hm)
  clear hm hk
  go_enter Try.func13, Try.ntmps13
  go_wp2_with (first
    | (go_at_call 27; refine (HS.out _).mono ?_; rintro e w3 ⟨rfl, b3⟩; have B3 : Hid (Below w.heap.size w w3) := hid (b1.trans (b3.mono b1.size)))
    | (refine wpList_ldm rfl (.tmp 5) rfl rfl v1 ?_)
    | (refine wpList_boxm (x := x) rfl (.tmp 0) rfl rfl ?_; intro w1 v1 b1 s1))
  go_ret2
  exact ⟨rfl, B3.out⟩
theorem after_noV (n s l f d : Int) (me : Nat) (k v : Int) (own O : Nat) (w : World) (hk : 0 ≤ k) (hm : May ⟨n, s, l, f, d⟩ me k) (hO : k % n = (O : Int)) (hv : KeyI v) (h : v < 0 ∨ 3 < v) :
    Calls Try.prog 13 #[mv ⟨n, s, l, f, d⟩, .int .i64 (me : Int), .int .u16 (own : Int), .int .u64 k, .int .i64 v] w (RetA 0 1 w) := by
  have HS := hid (fun w => seen_ok n s l f d me k w hk hm)
  rw [hO] at HS
  have HF := hid (fun a b c d => fnd_no a b c d v h)
  have HK := hid hv
  clear h hv
  clear hk hm hO
  go_enter Try.func13, Try.ntmps13
  go_wp2_with (first
    | (refine wpList_lk rfl (.tmp 30) (.tmp 31) rfl Try.underlying61 .nilFunc rfl rfl m4 HK.out (HF.out _ _ _ _) (zero59 _) ?_)
    | (go_at_call 34; refine (moves_any _ _ _).mono ?_; rintro e w4 ⟨B4, n4, gm, go, gw, rfl, m4, vm, vo, vw, b4⟩; have C4 : Hid (Below w.heap.size w w4) := hid (B3.out.trans (b4.mono B3.out.size)))
    | (go_at_call 27; refine (HS.out _).mono ?_; rintro e w3 ⟨rfl, b3⟩; have B3 : Hid (Below w.heap.size w w3) := hid (b1.trans (b3.mono b1.size)))
    | (refine wpList_ldm rfl (.tmp 5) rfl rfl v1 ?_)
    | (refine wpList_boxm (x := ⟨n, s, l, f, d⟩) rfl (.tmp 0) rfl rfl ?_; intro w1 v1 b1 s1))
  go_ret2
  exact ⟨rfl, C4.out⟩
theorem after_0 (n s l f d : Int) (me : Nat) (k : Int) (own O : Nat) (w : World) (hk : 0 ≤ k) (hm : May ⟨n, s, l, f, d⟩ me k) (hO : k % n = (O : Int)) (ho : own < 65536) (hO2 : O ≤ 15) (he : ((O : Int) == (me : Int)) = false) :
    Calls Try.prog 13 #[mv ⟨n, s, l, f, d⟩, .int .i64 (me : Int), .int .u16 (own : Int), .int .u64 k, .int .i64 0] w (RetA (subb own O) 0 w) := by
  have HS := hid (fun w => seen_ok n s l f d me k w hk hm)
  rw [hO] at HS
  have hM : me ≤ 15 := by have a := hm.2.2.2; have b := hm.1.2.1; simp only at a b; omega
  have H1 := hid ho
  have H2 := hid hO2
  have H3 := hid hM
  clear ho hO2 hM
  clear hk hm hO
  go_enter Try.func13, Try.ntmps13
  go_wp2_with (first
    | (refine wpList_lk rfl (.tmp 30) (.tmp 31) rfl Try.underlying61 .nilFunc rfl rfl m4 (by unfold KeyI; omega) (fnd0 _ _ _ _) (zero59 _) ?_)
    | (go_at_call 43; refine (c43 go O own _ vo H1.out H2.out).mono ?_; rintro e w5 ⟨rfl, rfl⟩; have C5 := C4)
    | (go_at_call 34; refine (moves_any _ _ _).mono ?_; rintro e w4 ⟨B4, n4, gm, go, gw, rfl, m4, vm, vo, vw, b4⟩; have C4 : Hid (Below w.heap.size w w4) := hid (B3.out.trans (b4.mono B3.out.size)))
    | (go_at_call 27; refine (HS.out _).mono ?_; rintro e w3 ⟨rfl, b3⟩; have B3 : Hid (Below w.heap.size w w3) := hid (b1.trans (b3.mono b1.size)))
    | (refine wpList_ldm rfl (.tmp 5) rfl rfl v1 ?_)
    | (refine wpList_boxm (x := ⟨n, s, l, f, d⟩) rfl (.tmp 0) rfl rfl ?_; intro w1 v1 b1 s1))
  go_ret2
  exact ⟨rfl, C5.out⟩
theorem after_0e (n s l f d : Int) (me : Nat) (k : Int) (own O : Nat) (w : World) (hk : 0 ≤ k) (hm : May ⟨n, s, l, f, d⟩ me k) (hO : k % n = (O : Int)) (ho : own < 65536) (hO2 : O ≤ 15) (he : ((O : Int) == (me : Int)) = true) :
    Calls Try.prog 13 #[mv ⟨n, s, l, f, d⟩, .int .i64 (me : Int), .int .u16 (own : Int), .int .u64 k, .int .i64 0] w (RetA (addb (subb own O) me) 0 w) := by
  have HS := hid (fun w => seen_ok n s l f d me k w hk hm)
  rw [hO] at HS
  have hM : me ≤ 15 := by have a := hm.2.2.2; have b := hm.1.2.1; simp only at a b; omega
  have H1 := hid ho
  have H2 := hid hO2
  have H3 := hid hM
  have W1 := hid (fun w => with_in (subb own O) me w (Nat.lt_of_le_of_lt (subb_le own O) ho) hM)
  clear ho hO2 hM
  clear hk hm hO
  go_enter Try.func13, Try.ntmps13
  go_wp2_with (first
    | (go_at_call 23; (with_reducible refine (W1.out _).mono ?_); rintro e w6 ⟨rfl, rfl⟩)
    | (refine wpList_lk rfl (.tmp 30) (.tmp 31) rfl Try.underlying61 .nilFunc rfl rfl m4 (by unfold KeyI; omega) (fnd0 _ _ _ _) (zero59 _) ?_)
    | (go_at_call 43; refine (c43 go O own _ vo H1.out H2.out).mono ?_; rintro e w5 ⟨rfl, rfl⟩; have C5 := C4)
    | (go_at_call 34; refine (moves_any _ _ _).mono ?_; rintro e w4 ⟨B4, n4, gm, go, gw, rfl, m4, vm, vo, vw, b4⟩; have C4 : Hid (Below w.heap.size w w4) := hid (B3.out.trans (b4.mono B3.out.size)))
    | (go_at_call 27; refine (HS.out _).mono ?_; rintro e w3 ⟨rfl, b3⟩; have B3 : Hid (Below w.heap.size w w3) := hid (b1.trans (b3.mono b1.size)))
    | (refine wpList_ldm rfl (.tmp 5) rfl rfl v1 ?_)
    | (refine wpList_boxm (x := ⟨n, s, l, f, d⟩) rfl (.tmp 0) rfl rfl ?_; intro w1 v1 b1 s1))
  go_ret2
  exact ⟨rfl, C5.out⟩
theorem after_1 (n s l f d : Int) (me : Nat) (k : Int) (own O : Nat) (w : World) (hk : 0 ≤ k) (hm : May ⟨n, s, l, f, d⟩ me k) (hO : k % n = (O : Int)) (ho : own < 65536) (hO2 : O ≤ 15) (he : ((O : Int) == (me : Int)) = false) :
    Calls Try.prog 13 #[mv ⟨n, s, l, f, d⟩, .int .i64 (me : Int), .int .u16 (own : Int), .int .u64 k, .int .i64 1] w (RetA (addb own O) 0 w) := by
  have HS := hid (fun w => seen_ok n s l f d me k w hk hm)
  rw [hO] at HS
  have hM : me ≤ 15 := by have a := hm.2.2.2; have b := hm.1.2.1; simp only at a b; omega
  have H1 := hid ho
  have H2 := hid hO2
  have H3 := hid hM
  clear ho hO2 hM
  clear hk hm hO
  go_enter Try.func13, Try.ntmps13
  go_wp2_with (first
    | (refine wpList_lk rfl (.tmp 30) (.tmp 31) rfl Try.underlying61 .nilFunc rfl rfl m4 (by unfold KeyI; omega) (fnd1 _ _ _ _) (zero59 _) ?_)
    | (go_at_call 42; refine (c42 go O own _ vo H1.out H2.out).mono ?_; rintro e w5 ⟨rfl, rfl⟩; have C5 := C4)
    | (go_at_call 34; refine (moves_any _ _ _).mono ?_; rintro e w4 ⟨B4, n4, gm, go, gw, rfl, m4, vm, vo, vw, b4⟩; have C4 : Hid (Below w.heap.size w w4) := hid (B3.out.trans (b4.mono B3.out.size)))
    | (go_at_call 27; refine (HS.out _).mono ?_; rintro e w3 ⟨rfl, b3⟩; have B3 : Hid (Below w.heap.size w w3) := hid (b1.trans (b3.mono b1.size)))
    | (refine wpList_ldm rfl (.tmp 5) rfl rfl v1 ?_)
    | (refine wpList_boxm (x := ⟨n, s, l, f, d⟩) rfl (.tmp 0) rfl rfl ?_; intro w1 v1 b1 s1))
  go_ret2
  exact ⟨rfl, C5.out⟩
theorem after_1e (n s l f d : Int) (me : Nat) (k : Int) (own O : Nat) (w : World) (hk : 0 ≤ k) (hm : May ⟨n, s, l, f, d⟩ me k) (hO : k % n = (O : Int)) (ho : own < 65536) (hO2 : O ≤ 15) (he : ((O : Int) == (me : Int)) = true) :
    Calls Try.prog 13 #[mv ⟨n, s, l, f, d⟩, .int .i64 (me : Int), .int .u16 (own : Int), .int .u64 k, .int .i64 1] w (RetA (addb (addb own O) me) 0 w) := by
  have HS := hid (fun w => seen_ok n s l f d me k w hk hm)
  rw [hO] at HS
  have hM : me ≤ 15 := by have a := hm.2.2.2; have b := hm.1.2.1; simp only at a b; omega
  have H1 := hid ho
  have H2 := hid hO2
  have H3 := hid hM
  have W1 := hid (fun w => with_in (addb own O) me w (addb_lt own O ho hO2) hM)
  clear ho hO2 hM
  clear hk hm hO
  go_enter Try.func13, Try.ntmps13
  go_wp2_with (first
    | (go_at_call 23; (with_reducible refine (W1.out _).mono ?_); rintro e w6 ⟨rfl, rfl⟩)
    | (refine wpList_lk rfl (.tmp 30) (.tmp 31) rfl Try.underlying61 .nilFunc rfl rfl m4 (by unfold KeyI; omega) (fnd1 _ _ _ _) (zero59 _) ?_)
    | (go_at_call 42; refine (c42 go O own _ vo H1.out H2.out).mono ?_; rintro e w5 ⟨rfl, rfl⟩; have C5 := C4)
    | (go_at_call 34; refine (moves_any _ _ _).mono ?_; rintro e w4 ⟨B4, n4, gm, go, gw, rfl, m4, vm, vo, vw, b4⟩; have C4 : Hid (Below w.heap.size w w4) := hid (B3.out.trans (b4.mono B3.out.size)))
    | (go_at_call 27; refine (HS.out _).mono ?_; rintro e w3 ⟨rfl, b3⟩; have B3 : Hid (Below w.heap.size w w3) := hid (b1.trans (b3.mono b1.size)))
    | (refine wpList_ldm rfl (.tmp 5) rfl rfl v1 ?_)
    | (refine wpList_boxm (x := ⟨n, s, l, f, d⟩) rfl (.tmp 0) rfl rfl ?_; intro w1 v1 b1 s1))
  go_ret2
  exact ⟨rfl, C5.out⟩
theorem after_2 (n s l f d : Int) (me : Nat) (k : Int) (own O : Nat) (w : World) (hk : 0 ≤ k) (hm : May ⟨n, s, l, f, d⟩ me k) (hO : k % n = (O : Int)) (ho : own < 65536) (hO2 : O ≤ 15) (he : ((O : Int) == (me : Int)) = false) :
    Calls Try.prog 13 #[mv ⟨n, s, l, f, d⟩, .int .i64 (me : Int), .int .u16 (own : Int), .int .u64 k, .int .i64 2] w (RetA (subb (addb own O) me) 0 w) := by
  have HS := hid (fun w => seen_ok n s l f d me k w hk hm)
  rw [hO] at HS
  have hM : me ≤ 15 := by have a := hm.2.2.2; have b := hm.1.2.1; simp only at a b; omega
  have H1 := hid ho
  have H2 := hid hO2
  have H3 := hid hM
  clear ho hO2 hM
  clear hk hm hO
  go_enter Try.func13, Try.ntmps13
  go_wp2_with (first
    | (refine wpList_lk rfl (.tmp 30) (.tmp 31) rfl Try.underlying61 .nilFunc rfl rfl m4 (by unfold KeyI; omega) (fnd2 _ _ _ _) (zero59 _) ?_)
    | (go_at_call 44; refine (c44 gw gm go O me own _ vw vo vm H1.out H2.out H3.out).mono ?_; rintro e w5 ⟨rfl, b5⟩; have C5 : Hid (Below w.heap.size w w5) := hid (C4.out.trans (b5.mono C4.out.size)))
    | (go_at_call 34; refine (moves_any _ _ _).mono ?_; rintro e w4 ⟨B4, n4, gm, go, gw, rfl, m4, vm, vo, vw, b4⟩; have C4 : Hid (Below w.heap.size w w4) := hid (B3.out.trans (b4.mono B3.out.size)))
    | (go_at_call 27; refine (HS.out _).mono ?_; rintro e w3 ⟨rfl, b3⟩; have B3 : Hid (Below w.heap.size w w3) := hid (b1.trans (b3.mono b1.size)))
    | (refine wpList_ldm rfl (.tmp 5) rfl rfl v1 ?_)
    | (refine wpList_boxm (x := ⟨n, s, l, f, d⟩) rfl (.tmp 0) rfl rfl ?_; intro w1 v1 b1 s1))
  go_ret2
  exact ⟨rfl, C5.out⟩
theorem after_2e (n s l f d : Int) (me : Nat) (k : Int) (own O : Nat) (w : World) (hk : 0 ≤ k) (hm : May ⟨n, s, l, f, d⟩ me k) (hO : k % n = (O : Int)) (ho : own < 65536) (hO2 : O ≤ 15) (he : ((O : Int) == (me : Int)) = true) :
    Calls Try.prog 13 #[mv ⟨n, s, l, f, d⟩, .int .i64 (me : Int), .int .u16 (own : Int), .int .u64 k, .int .i64 2] w (RetA (addb (subb (addb own O) me) me) 0 w) := by
  have HS := hid (fun w => seen_ok n s l f d me k w hk hm)
  rw [hO] at HS
  have hM : me ≤ 15 := by have a := hm.2.2.2; have b := hm.1.2.1; simp only at a b; omega
  have H1 := hid ho
  have H2 := hid hO2
  have H3 := hid hM
  have W1 := hid (fun w => with_in (subb (addb own O) me) me w (Nat.lt_of_le_of_lt (subb_le (addb own O) me) (addb_lt own O ho hO2)) hM)
  clear ho hO2 hM
  clear hk hm hO
  go_enter Try.func13, Try.ntmps13
  go_wp2_with (first
    | (go_at_call 23; (with_reducible refine (W1.out _).mono ?_); rintro e w6 ⟨rfl, rfl⟩)
    | (refine wpList_lk rfl (.tmp 30) (.tmp 31) rfl Try.underlying61 .nilFunc rfl rfl m4 (by unfold KeyI; omega) (fnd2 _ _ _ _) (zero59 _) ?_)
    | (go_at_call 44; refine (c44 gw gm go O me own _ vw vo vm H1.out H2.out H3.out).mono ?_; rintro e w5 ⟨rfl, b5⟩; have C5 : Hid (Below w.heap.size w w5) := hid (C4.out.trans (b5.mono C4.out.size)))
    | (go_at_call 34; refine (moves_any _ _ _).mono ?_; rintro e w4 ⟨B4, n4, gm, go, gw, rfl, m4, vm, vo, vw, b4⟩; have C4 : Hid (Below w.heap.size w w4) := hid (B3.out.trans (b4.mono B3.out.size)))
    | (go_at_call 27; refine (HS.out _).mono ?_; rintro e w3 ⟨rfl, b3⟩; have B3 : Hid (Below w.heap.size w w3) := hid (b1.trans (b3.mono b1.size)))
    | (refine wpList_ldm rfl (.tmp 5) rfl rfl v1 ?_)
    | (refine wpList_boxm (x := ⟨n, s, l, f, d⟩) rfl (.tmp 0) rfl rfl ?_; intro w1 v1 b1 s1))
  go_ret2
  exact ⟨rfl, C5.out⟩
theorem after_3 (n s l f d : Int) (me : Nat) (k : Int) (own O : Nat) (w : World) (hk : 0 ≤ k) (hm : May ⟨n, s, l, f, d⟩ me k) (hO : k % n = (O : Int)) (ho : own < 65536) (hO2 : O ≤ 15) (he : ((O : Int) == (me : Int)) = false) :
    Calls Try.prog 13 #[mv ⟨n, s, l, f, d⟩, .int .i64 (me : Int), .int .u16 (own : Int), .int .u64 k, .int .i64 3] w (RetA (subb own O) 0 w) := by
  have HS := hid (fun w => seen_ok n s l f d me k w hk hm)
  rw [hO] at HS
  have hM : me ≤ 15 := by have a := hm.2.2.2; have b := hm.1.2.1; simp only at a b; omega
  have H1 := hid ho
  have H2 := hid hO2
  have H3 := hid hM
  clear ho hO2 hM
  clear hk hm hO
  go_enter Try.func13, Try.ntmps13
  go_wp2_with (first
    | (refine wpList_lk rfl (.tmp 30) (.tmp 31) rfl Try.underlying61 .nilFunc rfl rfl m4 (by unfold KeyI; omega) (fnd3 _ _ _ _) (zero59 _) ?_)
    | (go_at_call 43; refine (c43 go O own _ vo H1.out H2.out).mono ?_; rintro e w5 ⟨rfl, rfl⟩; have C5 := C4)
    | (go_at_call 34; refine (moves_any _ _ _).mono ?_; rintro e w4 ⟨B4, n4, gm, go, gw, rfl, m4, vm, vo, vw, b4⟩; have C4 : Hid (Below w.heap.size w w4) := hid (B3.out.trans (b4.mono B3.out.size)))
    | (go_at_call 27; refine (HS.out _).mono ?_; rintro e w3 ⟨rfl, b3⟩; have B3 : Hid (Below w.heap.size w w3) := hid (b1.trans (b3.mono b1.size)))
    | (refine wpList_ldm rfl (.tmp 5) rfl rfl v1 ?_)
    | (refine wpList_boxm (x := ⟨n, s, l, f, d⟩) rfl (.tmp 0) rfl rfl ?_; intro w1 v1 b1 s1))
  go_ret2
  exact ⟨rfl, C5.out⟩
theorem after_3e (n s l f d : Int) (me : Nat) (k : Int) (own O : Nat) (w : World) (hk : 0 ≤ k) (hm : May ⟨n, s, l, f, d⟩ me k) (hO : k % n = (O : Int)) (ho : own < 65536) (hO2 : O ≤ 15) (he : ((O : Int) == (me : Int)) = true) :
    Calls Try.prog 13 #[mv ⟨n, s, l, f, d⟩, .int .i64 (me : Int), .int .u16 (own : Int), .int .u64 k, .int .i64 3] w (RetA (addb (subb own O) me) 0 w) := by
  have HS := hid (fun w => seen_ok n s l f d me k w hk hm)
  rw [hO] at HS
  have hM : me ≤ 15 := by have a := hm.2.2.2; have b := hm.1.2.1; simp only at a b; omega
  have H1 := hid ho
  have H2 := hid hO2
  have H3 := hid hM
  have W1 := hid (fun w => with_in (subb own O) me w (Nat.lt_of_le_of_lt (subb_le own O) ho) hM)
  clear ho hO2 hM
  clear hk hm hO
  go_enter Try.func13, Try.ntmps13
  go_wp2_with (first
    | (go_at_call 23; (with_reducible refine (W1.out _).mono ?_); rintro e w6 ⟨rfl, rfl⟩)
    | (refine wpList_lk rfl (.tmp 30) (.tmp 31) rfl Try.underlying61 .nilFunc rfl rfl m4 (by unfold KeyI; omega) (fnd3 _ _ _ _) (zero59 _) ?_)
    | (go_at_call 43; refine (c43 go O own _ vo H1.out H2.out).mono ?_; rintro e w5 ⟨rfl, rfl⟩; have C5 := C4)
    | (go_at_call 34; refine (moves_any _ _ _).mono ?_; rintro e w4 ⟨B4, n4, gm, go, gw, rfl, m4, vm, vo, vw, b4⟩; have C4 : Hid (Below w.heap.size w w4) := hid (B3.out.trans (b4.mono B3.out.size)))
    | (go_at_call 27; refine (HS.out _).mono ?_; rintro e w3 ⟨rfl, b3⟩; have B3 : Hid (Below w.heap.size w w3) := hid (b1.trans (b3.mono b1.size)))
    | (refine wpList_ldm rfl (.tmp 5) rfl rfl v1 ?_)
    | (refine wpList_boxm (x := ⟨n, s, l, f, d⟩) rfl (.tmp 0) rfl rfl ?_; intro w1 v1 b1 s1))
  go_ret2
  exact ⟨rfl, C5.out⟩
theorem rafter_no (x : Md) (me k v : Int) (own : Nat) (w : World) (hk : 0 ≤ k) (hm : ¬ May x me k) : Calls Try.prog 14 #[mv x, .int .i64 me, .int .u16 (own : Int), .int .u64 k, .int .i64 v] w (RetA 0 1 w) := by
  have HS := hid (fun w => rseen_no x me k w hk hm)
  clear hm hk
  go_enter Try.func14, Try.ntmps14
  go_wp2_with (first
    | (go_at_call 29; refine (HS.out _).mono ?_; rintro e w3 ⟨O, rfl, b3⟩; have B3 : Hid (Below w.heap.size w w3) := hid (b1.trans (b3.mono b1.size)))
    | (refine wpList_ldm rfl (.tmp 5) rfl rfl v1 ?_)
    | (refine wpList_boxm (x := x) rfl (.tmp 0) rfl rfl ?_; intro w1 v1 b1 s1))
  go_ret2
  exact ⟨rfl, B3.out⟩
theorem rafter_lo (n s l f d : Int) (me : Nat) (k v : Int) (own O : Nat) (w : World) (hk : 0 ≤ k) (hm : May ⟨n, s, l, f, d⟩ me k) (hO : k % n = (O : Int)) (h : v < 0) :
    Calls Try.prog 14 #[mv ⟨n, s, l, f, d⟩, .int .i64 (me : Int), .int .u16 (own : Int), .int .u64 k, .int .i64 v] w (RetA 0 1 w) := by
  have HS := hid (fun w => rseen_ok n s l f d me k w hk hm)
  rw [hO] at HS
  clear hk hm hO
  go_enter Try.func14, Try.ntmps14
  go_wp2_with (first
    | (go_at_call 29; refine (HS.out _).mono ?_; rintro e w3 ⟨rfl, b3⟩; have B3 : Hid (Below w.heap.size w w3) := hid (b1.trans (b3.mono b1.size)))
    | (refine wpList_ldm rfl (.tmp 5) rfl rfl v1 ?_)
    | (refine wpList_boxm (x := ⟨n, s, l, f, d⟩) rfl (.tmp 0) rfl rfl ?_; intro w1 v1 b1 s1))
  go_ret2
  exact ⟨rfl, B3.out⟩
theorem rafter_hi (n s l f d : Int) (me : Nat) (k v : Int) (own O : Nat) (w : World) (hk : 0 ≤ k) (hm : May ⟨n, s, l, f, d⟩ me k) (hO : k % n = (O : Int)) (h : 3 < v) :
    Calls Try.prog 14 #[mv ⟨n, s, l, f, d⟩, .int .i64 (me : Int), .int .u16 (own : Int), .int .u64 k, .int .i64 v] w (RetA 0 1 w) := by
  have HS := hid (fun w => rseen_ok n s l f d me k w hk hm)
  rw [hO] at HS
  clear hk hm hO
  go_enter Try.func14, Try.ntmps14
  go_wp2_with (first
    | (go_at_call 29; refine (HS.out _).mono ?_; rintro e w3 ⟨rfl, b3⟩; have B3 : Hid (Below w.heap.size w w3) := hid (b1.trans (b3.mono b1.size)))
    | (refine wpList_ldm rfl (.tmp 5) rfl rfl v1 ?_)
    | (refine wpList_boxm (x := ⟨n, s, l, f, d⟩) rfl (.tmp 0) rfl rfl ?_; intro w1 v1 b1 s1))
  go_ret2
  exact ⟨rfl, B3.out⟩
theorem rafter_own (n s l f d : Int) (me : Nat) (k v : Int) (own O : Nat) (w : World) (hk : 0 ≤ k) (hm : May ⟨n, s, l, f, d⟩ me k) (hO : k % n = (O : Int)) (h0 : 0 ≤ v) (h3 : v ≤ 3) (ho : own < 65536) (hO2 : O ≤ 15) (he : ((O : Int) == (me : Int)) = true) :
    Calls Try.prog 14 #[mv ⟨n, s, l, f, d⟩, .int .i64 (me : Int), .int .u16 (own : Int), .int .u64 k, .int .i64 v] w (RetA (addb own O) 0 w) := by
  have HS := hid (fun w => rseen_ok n s l f d me k w hk hm)
  rw [hO] at HS
  have W1 := hid (fun w => refwith_in own O w ho hO2)
  clear ho hO2
  clear hk hm hO
  go_enter Try.func14, Try.ntmps14
  go_wp2_with (first
    | (go_at_call 31; (with_reducible refine (W1.out _).mono ?_); rintro e w6 ⟨rfl, rfl⟩)
    | (go_at_call 29; refine (HS.out _).mono ?_; rintro e w3 ⟨rfl, b3⟩; have B3 : Hid (Below w.heap.size w w3) := hid (b1.trans (b3.mono b1.size)))
    | (refine wpList_ldm rfl (.tmp 5) rfl rfl v1 ?_)
    | (refine wpList_boxm (x := ⟨n, s, l, f, d⟩) rfl (.tmp 0) rfl rfl ?_; intro w1 v1 b1 s1))
  go_ret2
  exact ⟨rfl, B3.out⟩
theorem rafter_1 (n s l f d : Int) (me : Nat) (k : Int) (own O : Nat) (w : World) (hk : 0 ≤ k) (hm : May ⟨n, s, l, f, d⟩ me k) (hO : k % n = (O : Int)) (ho : own < 65536) (hO2 : O ≤ 15) (he : ((O : Int) == (me : Int)) = false) :
    Calls Try.prog 14 #[mv ⟨n, s, l, f, d⟩, .int .i64 (me : Int), .int .u16 (own : Int), .int .u64 k, .int .i64 1] w (RetA (addb own O) 0 w) := by
  have HS := hid (fun w => rseen_ok n s l f d me k w hk hm)
  rw [hO] at HS
  have W1 := hid (fun w => refwith_in own O w ho hO2)
  clear ho hO2
  clear hk hm hO
  go_enter Try.func14, Try.ntmps14
  go_wp2_with (first
    | (go_at_call 31; (with_reducible refine (W1.out _).mono ?_); rintro e w6 ⟨rfl, rfl⟩)
    | (go_at_call 29; refine (HS.out _).mono ?_; rintro e w3 ⟨rfl, b3⟩; have B3 : Hid (Below w.heap.size w w3) := hid (b1.trans (b3.mono b1.size)))
    | (refine wpList_ldm rfl (.tmp 5) rfl rfl v1 ?_)
    | (refine wpList_boxm (x := ⟨n, s, l, f, d⟩) rfl (.tmp 0) rfl rfl ?_; intro w1 v1 b1 s1))
  go_ret2
  exact ⟨rfl, B3.out⟩
theorem rafter_2 (n s l f d : Int) (me : Nat) (k : Int) (own O : Nat) (w : World) (hk : 0 ≤ k) (hm : May ⟨n, s, l, f, d⟩ me k) (hO : k % n = (O : Int)) (ho : own < 65536) (hO2 : O ≤ 15) (he : ((O : Int) == (me : Int)) = false) :
    Calls Try.prog 14 #[mv ⟨n, s, l, f, d⟩, .int .i64 (me : Int), .int .u16 (own : Int), .int .u64 k, .int .i64 2] w (RetA (subb (addb own O) me) 0 w) := by
  have HS := hid (fun w => rseen_ok n s l f d me k w hk hm)
  rw [hO] at HS
  have hM : me ≤ 15 := by have a := hm.2.2.2; have b := hm.1.2.1; simp only at a b; omega
  have W1 := hid (fun w => refwith_in own O w ho hO2)
  have hs2 := addb_lt own O ho hO2
  have W2 := hid (fun w => refwithout_in (addb own O) me w hs2 hM)
  clear ho hO2 hs2 hM
  clear hk hm hO
  go_enter Try.func14, Try.ntmps14
  go_wp2_with (first
    | (go_at_call 31; (with_reducible refine (W1.out _).mono ?_); rintro e w6 ⟨rfl, rfl⟩)
    | (go_at_call 33; (with_reducible refine (W2.out _).mono ?_); rintro e w6 ⟨rfl, rfl⟩)
    | (go_at_call 29; refine (HS.out _).mono ?_; rintro e w3 ⟨rfl, b3⟩; have B3 : Hid (Below w.heap.size w w3) := hid (b1.trans (b3.mono b1.size)))
    | (refine wpList_ldm rfl (.tmp 5) rfl rfl v1 ?_)
    | (refine wpList_boxm (x := ⟨n, s, l, f, d⟩) rfl (.tmp 0) rfl rfl ?_; intro w1 v1 b1 s1))
  go_ret2
  exact ⟨rfl, B3.out⟩
theorem rafter_0 (n s l f d : Int) (me : Nat) (k : Int) (own O : Nat) (w : World) (hk : 0 ≤ k) (hm : May ⟨n, s, l, f, d⟩ me k) (hO : k % n = (O : Int)) (ho : own < 65536) (hO2 : O ≤ 15) (he : ((O : Int) == (me : Int)) = false) :
    Calls Try.prog 14 #[mv ⟨n, s, l, f, d⟩, .int .i64 (me : Int), .int .u16 (own : Int), .int .u64 k, .int .i64 0] w (RetA (subb own O) 0 w) := by
  have HS := hid (fun w => rseen_ok n s l f d me k w hk hm)
  rw [hO] at HS
  have W2 := hid (fun w => refwithout_in own O w ho hO2)
  clear ho hO2
  clear hk hm hO
  go_enter Try.func14, Try.ntmps14
  go_wp2_with (first
    | (go_at_call 33; (with_reducible refine (W2.out _).mono ?_); rintro e w6 ⟨rfl, rfl⟩)
    | (go_at_call 29; refine (HS.out _).mono ?_; rintro e w3 ⟨rfl, b3⟩; have B3 : Hid (Below w.heap.size w w3) := hid (b1.trans (b3.mono b1.size)))
    | (refine wpList_ldm rfl (.tmp 5) rfl rfl v1 ?_)
    | (refine wpList_boxm (x := ⟨n, s, l, f, d⟩) rfl (.tmp 0) rfl rfl ?_; intro w1 v1 b1 s1))
  go_ret2
  exact ⟨rfl, B3.out⟩
theorem rafter_3 (n s l f d : Int) (me : Nat) (k : Int) (own O : Nat) (w : World) (hk : 0 ≤ k) (hm : May ⟨n, s, l, f, d⟩ me k) (hO : k % n = (O : Int)) (ho : own < 65536) (hO2 : O ≤ 15) (he : ((O : Int) == (me : Int)) = false) :
    Calls Try.prog 14 #[mv ⟨n, s, l, f, d⟩, .int .i64 (me : Int), .int .u16 (own : Int), .int .u64 k, .int .i64 3] w (RetA (subb own O) 0 w) := by
  have HS := hid (fun w => rseen_ok n s l f d me k w hk hm)
  rw [hO] at HS
  have W2 := hid (fun w => refwithout_in own O w ho hO2)
  clear ho hO2
  clear hk hm hO
  go_enter Try.func14, Try.ntmps14
  go_wp2_with (first
    | (go_at_call 33; (with_reducible refine (W2.out _).mono ?_); rintro e w6 ⟨rfl, rfl⟩)
    | (go_at_call 29; refine (HS.out _).mono ?_; rintro e w3 ⟨rfl, b3⟩; have B3 : Hid (Below w.heap.size w w3) := hid (b1.trans (b3.mono b1.size)))
    | (refine wpList_ldm rfl (.tmp 5) rfl rfl v1 ?_)
    | (refine wpList_boxm (x := ⟨n, s, l, f, d⟩) rfl (.tmp 0) rfl rfl ?_; intro w1 v1 b1 s1))
  go_ret2
  exact ⟨rfl, B3.out⟩
/-- Who is there behind a slot. -/
def aft (O me own : Nat) (v : Int) : Nat :=
  if O = me then addb (if v = 1 then addb own O else if v = 2 then subb (addb own O) me else subb own O) me else (if v = 1 then addb own O else if v = 2 then subb (addb own O) me else subb own O)
def aftM (x : Md) (me k : Int) (own : Nat) (v : Int) : Nat := if May x me k ∧ OkV v then aft (slO x k) me.toNat own v else 0
def aftE (x : Md) (me k : Int) (v : Int) : Int := if May x me k ∧ OkV v then 0 else 1
theorem addb_self (m k : Nat) : addb (addb m k) k = addb m k := by
  refine Nat.eq_of_testBit_eq fun j => ?_
  rw [addb_bit, addb_bit]
  by_cases e : k = j <;> simp [e]
theorem aft_own (O own : Nat) (v : Int) : aft O O own v = addb own O := by
  unfold aft
  rw [if_pos rfl]
  split
  · exact addb_self ..
  · split
    · rw [addb_sub, addb_self]
    · exact addb_sub ..
theorem aft_lt (O me own : Nat) (v : Int) (ho : own < 65536) (hO : O ≤ 15) (hm : me ≤ 15) : aft O me own v < 65536 := by
  have h1 := addb_lt own O ho hO
  have h2 := Nat.lt_of_le_of_lt (subb_le (addb own O) me) h1
  have h3 := Nat.lt_of_le_of_lt (subb_le own O) ho
  unfold aft
  split
  · refine addb_lt _ _ ?_ hm
    split
    · exact h1
    · split <;> assumption
  · split
    · exact h1
    · split <;> assumption
theorem after_any (x : Md) (me k v : Int) (own : Nat) (w : World) (hk : 0 ≤ k) (ho : own < 65536) (hv : KeyI v) :
    Calls Try.prog 13 #[mv x, .int .i64 me, .int .u16 (own : Int), .int .u64 k, .int .i64 v] w (RetA (aftM x me k own v) (aftE x me k v) w) := by
  by_cases hm : May x me k
  · obtain ⟨n, s, l, f, d⟩ := x
    obtain ⟨h1, h2, h3, h4, h5⟩ := slO_cast _ me k hm
    by_cases hv2 : OkV v
    · unfold aftM aftE
      rw [if_pos ⟨hm, hv2⟩, if_pos ⟨hm, hv2⟩]
      rw [← h4] at hm ⊢
      show Calls _ _ _ _ (RetA (aft _ me.toNat own v) 0 w)
      generalize me.toNat = M at *
      generalize slO ⟨n, s, l, f, d⟩ k = O at *
      unfold OkV at hv2
      unfold aft
      by_cases c : O = M
      · have he : ((O : Int) == (M : Int)) = true := beq_t c
        rw [if_pos c]
        obtain rfl | rfl | rfl | rfl : v = 0 ∨ v = 1 ∨ v = 2 ∨ v = 3 := by omega
        · exact after_0e n s l f d M k own O w hk hm h1 ho h2 he
        · exact after_1e n s l f d M k own O w hk hm h1 ho h2 he
        · exact after_2e n s l f d M k own O w hk hm h1 ho h2 he
        · exact after_3e n s l f d M k own O w hk hm h1 ho h2 he
      · have he : ((O : Int) == (M : Int)) = false := beq_f c
        rw [if_neg c]
        obtain rfl | rfl | rfl | rfl : v = 0 ∨ v = 1 ∨ v = 2 ∨ v = 3 := by omega
        · exact after_0 n s l f d M k own O w hk hm h1 ho h2 he
        · exact after_1 n s l f d M k own O w hk hm h1 ho h2 he
        · exact after_2 n s l f d M k own O w hk hm h1 ho h2 he
        · exact after_3 n s l f d M k own O w hk hm h1 ho h2 he
    · unfold aftM aftE
      rw [if_neg fun h => hv2 h.2, if_neg fun h => hv2 h.2]
      rw [← h4] at hm ⊢
      exact after_noV n s l f d _ k v own _ w hk hm h1 hv (by unfold OkV at hv2; omega)
  · unfold aftM aftE
    rw [if_neg fun h => hm h.1, if_neg fun h => hm h.1]
    exact after_no x me k v own w hk hm
theorem rafter_any (x : Md) (me k v : Int) (own : Nat) (w : World) (hk : 0 ≤ k) (ho : own < 65536) :
    Calls Try.prog 14 #[mv x, .int .i64 me, .int .u16 (own : Int), .int .u64 k, .int .i64 v] w (RetA (aftM x me k own v) (aftE x me k v) w) := by
  by_cases hm : May x me k
  · obtain ⟨n, s, l, f, d⟩ := x
    obtain ⟨h1, h2, h3, h4, h5⟩ := slO_cast _ me k hm
    by_cases hv2 : OkV v
    · unfold aftM aftE
      rw [if_pos ⟨hm, hv2⟩, if_pos ⟨hm, hv2⟩]
      rw [← h4] at hm ⊢
      show Calls _ _ _ _ (RetA (aft _ me.toNat own v) 0 w)
      generalize me.toNat = M at *
      generalize slO ⟨n, s, l, f, d⟩ k = O at *
      unfold OkV at hv2
      by_cases c : O = M
      · subst c
        rw [aft_own]
        exact rafter_own n s l f d O k v own O w hk hm h1 hv2.1 hv2.2 ho h2 (beq_t rfl)
      · have he : ((O : Int) == (M : Int)) = false := beq_f c
        unfold aft
        rw [if_neg c]
        obtain rfl | rfl | rfl | rfl : v = 0 ∨ v = 1 ∨ v = 2 ∨ v = 3 := by omega
        · exact rafter_0 n s l f d M k own O w hk hm h1 ho h2 he
        · exact rafter_1 n s l f d M k own O w hk hm h1 ho h2 he
        · exact rafter_2 n s l f d M k own O w hk hm h1 ho h2 he
        · exact rafter_3 n s l f d M k own O w hk hm h1 ho h2 he
    · unfold aftM aftE
      rw [if_neg fun h => hv2 h.2, if_neg fun h => hv2 h.2]
      rw [← h4] at hm ⊢
      unfold OkV at hv2
      by_cases hlo : v < 0
      · exact rafter_lo n s l f d _ k v own _ w hk hm h1 hlo
      · exact rafter_hi n s l f d _ k v own _ w hk hm h1 (by omega)
  · unfold aftM aftE
    rw [if_neg fun h => hm h.1, if_neg fun h => hm h.1]
    exact rafter_no x me k v own w hk hm
end Go.Proofs.Ytbfaebobainhjaa
