/-
  Texts Me, Mf of this seat, as far as they are used.
-/
import Derived.Test.YtlgedfljmgedfaaGreatJ7
import Derived.Test.YtlgedfljmgedfaaGreatJ8
namespace Go.Proofs.YtlgedfljmgedfaaGreat.M10
open Go Go.RowKit Go.Maps
/-- What After gives. -/
def RetA (m : Nat) (E : Int) (w : World) (e : Ending) (w' : World) : Prop := e = .returned (.tuple #[.int .u16 (m : Int), .int .i64 E]) ∧ Below w.heap.size w w'
theorem after_no (x : Md) (me k v : Int) (own : Nat) (w : World) (hk : 0 ≤ k) (hm : ¬ May x me k) : Calls Tryz.prog 125 #[mv x, .int .i64 me, .int .u16 (own : Int), .int .u64 k, .int .i64 v] w (RetA 0 1 w) := by
  have HS := hid (fun w => seen_no x me k w hk hm)
  clear hm hk
  go_enter Tryz.func125, Tryz.ntmps125
  go_wp2_with (first
    | (go_at_call 136; refine (HS.out _).mono ?_; rintro e w3 ⟨rfl, b3⟩; have B3 : Hid (Below w.heap.size w w3) := hid (b1.trans (b3.mono b1.size)))
    | (refine wpList_ldm rfl (.tmp 5) rfl rfl v1 ?_)
    | (refine wpList_boxm (x := x) rfl (.tmp 0) rfl rfl ?_; intro w1 v1 b1 s1))
  go_ret2
  exact ⟨rfl, B3.out⟩
theorem after_noV (n s l f d : Int) (me : Nat) (k v : Int) (own O : Nat) (w : World) (hk : 0 ≤ k) (hm : May ⟨n, s, l, f, d⟩ me k) (hO : k % n = (O : Int)) (hv : KeyI v) (h : v < 0 ∨ 3 < v) :
    Calls Tryz.prog 125 #[mv ⟨n, s, l, f, d⟩, .int .i64 (me : Int), .int .u16 (own : Int), .int .u64 k, .int .i64 v] w (RetA 0 1 w) := by
  have HS := hid (fun w => seen_ok n s l f d me k w hk hm)
  rw [hO] at HS
  have HF := hid (fun a b c d => fnd_no a b c d v h)
  have HK := hid hv
  clear h hv
  clear hk hm hO
  go_enter Tryz.func125, Tryz.ntmps125
  go_wp2_with (first
    | (refine wpList_lk rfl (.tmp 30) (.tmp 31) rfl Tryz.underlying168 .nilFunc rfl rfl m4 HK.out (HF.out _ _ _ _) (zero59 _) ?_)
    | (go_at_call 153; refine (moves_any _ _ _).mono ?_; rintro e w4 ⟨B4, n4, gm, go, gw, rfl, m4, vm, vo, vw, b4⟩; have C4 : Hid (Below w.heap.size w w4) := hid (B3.out.trans (b4.mono B3.out.size)))
    | (go_at_call 136; refine (HS.out _).mono ?_; rintro e w3 ⟨rfl, b3⟩; have B3 : Hid (Below w.heap.size w w3) := hid (b1.trans (b3.mono b1.size)))
    | (refine wpList_ldm rfl (.tmp 5) rfl rfl v1 ?_)
    | (refine wpList_boxm (x := ⟨n, s, l, f, d⟩) rfl (.tmp 0) rfl rfl ?_; intro w1 v1 b1 s1))
  go_ret2
  exact ⟨rfl, C4.out⟩
theorem after_0 (n s l f d : Int) (me : Nat) (k : Int) (own O : Nat) (w : World) (hk : 0 ≤ k) (hm : May ⟨n, s, l, f, d⟩ me k) (hO : k % n = (O : Int)) (ho : own < 65536) (hO2 : O ≤ 15) (he : ((O : Int) == (me : Int)) = false) :
    Calls Tryz.prog 125 #[mv ⟨n, s, l, f, d⟩, .int .i64 (me : Int), .int .u16 (own : Int), .int .u64 k, .int .i64 0] w (RetA (subb own O) 0 w) := by
  have HS := hid (fun w => seen_ok n s l f d me k w hk hm)
  rw [hO] at HS
  have hM : me ≤ 15 := by have a := hm.2.2.2; have b := hm.1.2.1; simp only at a b; omega
  have H1 := hid ho
  have H2 := hid hO2
  have H3 := hid hM
  clear ho hO2 hM
  clear hk hm hO
  go_enter Tryz.func125, Tryz.ntmps125
  go_wp2_with (first
    | (refine wpList_lk rfl (.tmp 30) (.tmp 31) rfl Tryz.underlying168 .nilFunc rfl rfl m4 (by unfold KeyI; omega) (fnd0 _ _ _ _) (zero59 _) ?_)
    | (go_at_call 173; refine (c43 go O own _ vo H1.out H2.out).mono ?_; rintro e w5 ⟨rfl, rfl⟩; have C5 := C4)
    | (go_at_call 153; refine (moves_any _ _ _).mono ?_; rintro e w4 ⟨B4, n4, gm, go, gw, rfl, m4, vm, vo, vw, b4⟩; have C4 : Hid (Below w.heap.size w w4) := hid (B3.out.trans (b4.mono B3.out.size)))
    | (go_at_call 136; refine (HS.out _).mono ?_; rintro e w3 ⟨rfl, b3⟩; have B3 : Hid (Below w.heap.size w w3) := hid (b1.trans (b3.mono b1.size)))
    | (refine wpList_ldm rfl (.tmp 5) rfl rfl v1 ?_)
    | (refine wpList_boxm (x := ⟨n, s, l, f, d⟩) rfl (.tmp 0) rfl rfl ?_; intro w1 v1 b1 s1))
  go_ret2
  exact ⟨rfl, C5.out⟩
theorem after_0e (n s l f d : Int) (me : Nat) (k : Int) (own O : Nat) (w : World) (hk : 0 ≤ k) (hm : May ⟨n, s, l, f, d⟩ me k) (hO : k % n = (O : Int)) (ho : own < 65536) (hO2 : O ≤ 15) (he : ((O : Int) == (me : Int)) = true) :
    Calls Tryz.prog 125 #[mv ⟨n, s, l, f, d⟩, .int .i64 (me : Int), .int .u16 (own : Int), .int .u64 k, .int .i64 0] w (RetA (addb (subb own O) me) 0 w) := by
  have HS := hid (fun w => seen_ok n s l f d me k w hk hm)
  rw [hO] at HS
  have hM : me ≤ 15 := by have a := hm.2.2.2; have b := hm.1.2.1; simp only at a b; omega
  have H1 := hid ho
  have H2 := hid hO2
  have H3 := hid hM
  have W1 := hid (fun w => with_in (subb own O) me w (Nat.lt_of_le_of_lt (subb_le own O) ho) hM)
  clear ho hO2 hM
  clear hk hm hO
  go_enter Tryz.func125, Tryz.ntmps125
  go_wp2_with (first
    | (go_at_call 75; (with_reducible refine (W1.out _).mono ?_); rintro e w6 ⟨rfl, rfl⟩)
    | (refine wpList_lk rfl (.tmp 30) (.tmp 31) rfl Tryz.underlying168 .nilFunc rfl rfl m4 (by unfold KeyI; omega) (fnd0 _ _ _ _) (zero59 _) ?_)
    | (go_at_call 173; refine (c43 go O own _ vo H1.out H2.out).mono ?_; rintro e w5 ⟨rfl, rfl⟩; have C5 := C4)
    | (go_at_call 153; refine (moves_any _ _ _).mono ?_; rintro e w4 ⟨B4, n4, gm, go, gw, rfl, m4, vm, vo, vw, b4⟩; have C4 : Hid (Below w.heap.size w w4) := hid (B3.out.trans (b4.mono B3.out.size)))
    | (go_at_call 136; refine (HS.out _).mono ?_; rintro e w3 ⟨rfl, b3⟩; have B3 : Hid (Below w.heap.size w w3) := hid (b1.trans (b3.mono b1.size)))
    | (refine wpList_ldm rfl (.tmp 5) rfl rfl v1 ?_)
    | (refine wpList_boxm (x := ⟨n, s, l, f, d⟩) rfl (.tmp 0) rfl rfl ?_; intro w1 v1 b1 s1))
  go_ret2
  exact ⟨rfl, C5.out⟩
theorem after_1 (n s l f d : Int) (me : Nat) (k : Int) (own O : Nat) (w : World) (hk : 0 ≤ k) (hm : May ⟨n, s, l, f, d⟩ me k) (hO : k % n = (O : Int)) (ho : own < 65536) (hO2 : O ≤ 15) (he : ((O : Int) == (me : Int)) = false) :
    Calls Tryz.prog 125 #[mv ⟨n, s, l, f, d⟩, .int .i64 (me : Int), .int .u16 (own : Int), .int .u64 k, .int .i64 1] w (RetA (addb own O) 0 w) := by
  have HS := hid (fun w => seen_ok n s l f d me k w hk hm)
  rw [hO] at HS
  have hM : me ≤ 15 := by have a := hm.2.2.2; have b := hm.1.2.1; simp only at a b; omega
  have H1 := hid ho
  have H2 := hid hO2
  have H3 := hid hM
  clear ho hO2 hM
  clear hk hm hO
  go_enter Tryz.func125, Tryz.ntmps125
  go_wp2_with (first
    | (refine wpList_lk rfl (.tmp 30) (.tmp 31) rfl Tryz.underlying168 .nilFunc rfl rfl m4 (by unfold KeyI; omega) (fnd1 _ _ _ _) (zero59 _) ?_)
    | (go_at_call 172; refine (c42 go O own _ vo H1.out H2.out).mono ?_; rintro e w5 ⟨rfl, rfl⟩; have C5 := C4)
    | (go_at_call 153; refine (moves_any _ _ _).mono ?_; rintro e w4 ⟨B4, n4, gm, go, gw, rfl, m4, vm, vo, vw, b4⟩; have C4 : Hid (Below w.heap.size w w4) := hid (B3.out.trans (b4.mono B3.out.size)))
    | (go_at_call 136; refine (HS.out _).mono ?_; rintro e w3 ⟨rfl, b3⟩; have B3 : Hid (Below w.heap.size w w3) := hid (b1.trans (b3.mono b1.size)))
    | (refine wpList_ldm rfl (.tmp 5) rfl rfl v1 ?_)
    | (refine wpList_boxm (x := ⟨n, s, l, f, d⟩) rfl (.tmp 0) rfl rfl ?_; intro w1 v1 b1 s1))
  go_ret2
  exact ⟨rfl, C5.out⟩
theorem after_1e (n s l f d : Int) (me : Nat) (k : Int) (own O : Nat) (w : World) (hk : 0 ≤ k) (hm : May ⟨n, s, l, f, d⟩ me k) (hO : k % n = (O : Int)) (ho : own < 65536) (hO2 : O ≤ 15) (he : ((O : Int) == (me : Int)) = true) :
    Calls Tryz.prog 125 #[mv ⟨n, s, l, f, d⟩, .int .i64 (me : Int), .int .u16 (own : Int), .int .u64 k, .int .i64 1] w (RetA (addb (addb own O) me) 0 w) := by
  have HS := hid (fun w => seen_ok n s l f d me k w hk hm)
  rw [hO] at HS
  have hM : me ≤ 15 := by have a := hm.2.2.2; have b := hm.1.2.1; simp only at a b; omega
  have H1 := hid ho
  have H2 := hid hO2
  have H3 := hid hM
  have W1 := hid (fun w => with_in (addb own O) me w (addb_lt own O ho hO2) hM)
  clear ho hO2 hM
  clear hk hm hO
  go_enter Tryz.func125, Tryz.ntmps125
  go_wp2_with (first
    | (go_at_call 75; (with_reducible refine (W1.out _).mono ?_); rintro e w6 ⟨rfl, rfl⟩)
    | (refine wpList_lk rfl (.tmp 30) (.tmp 31) rfl Tryz.underlying168 .nilFunc rfl rfl m4 (by unfold KeyI; omega) (fnd1 _ _ _ _) (zero59 _) ?_)
    | (go_at_call 172; refine (c42 go O own _ vo H1.out H2.out).mono ?_; rintro e w5 ⟨rfl, rfl⟩; have C5 := C4)
    | (go_at_call 153; refine (moves_any _ _ _).mono ?_; rintro e w4 ⟨B4, n4, gm, go, gw, rfl, m4, vm, vo, vw, b4⟩; have C4 : Hid (Below w.heap.size w w4) := hid (B3.out.trans (b4.mono B3.out.size)))
    | (go_at_call 136; refine (HS.out _).mono ?_; rintro e w3 ⟨rfl, b3⟩; have B3 : Hid (Below w.heap.size w w3) := hid (b1.trans (b3.mono b1.size)))
    | (refine wpList_ldm rfl (.tmp 5) rfl rfl v1 ?_)
    | (refine wpList_boxm (x := ⟨n, s, l, f, d⟩) rfl (.tmp 0) rfl rfl ?_; intro w1 v1 b1 s1))
  go_ret2
  exact ⟨rfl, C5.out⟩
theorem after_2 (n s l f d : Int) (me : Nat) (k : Int) (own O : Nat) (w : World) (hk : 0 ≤ k) (hm : May ⟨n, s, l, f, d⟩ me k) (hO : k % n = (O : Int)) (ho : own < 65536) (hO2 : O ≤ 15) (he : ((O : Int) == (me : Int)) = false) :
    Calls Tryz.prog 125 #[mv ⟨n, s, l, f, d⟩, .int .i64 (me : Int), .int .u16 (own : Int), .int .u64 k, .int .i64 2] w (RetA (subb (addb own O) me) 0 w) := by
  have HS := hid (fun w => seen_ok n s l f d me k w hk hm)
  rw [hO] at HS
  have hM : me ≤ 15 := by have a := hm.2.2.2; have b := hm.1.2.1; simp only at a b; omega
  have H1 := hid ho
  have H2 := hid hO2
  have H3 := hid hM
  clear ho hO2 hM
  clear hk hm hO
  go_enter Tryz.func125, Tryz.ntmps125
  go_wp2_with (first
    | (refine wpList_lk rfl (.tmp 30) (.tmp 31) rfl Tryz.underlying168 .nilFunc rfl rfl m4 (by unfold KeyI; omega) (fnd2 _ _ _ _) (zero59 _) ?_)
    | (go_at_call 174; refine (c44 gw gm go O me own _ vw vo vm H1.out H2.out H3.out).mono ?_; rintro e w5 ⟨rfl, b5⟩; have C5 : Hid (Below w.heap.size w w5) := hid (C4.out.trans (b5.mono C4.out.size)))
    | (go_at_call 153; refine (moves_any _ _ _).mono ?_; rintro e w4 ⟨B4, n4, gm, go, gw, rfl, m4, vm, vo, vw, b4⟩; have C4 : Hid (Below w.heap.size w w4) := hid (B3.out.trans (b4.mono B3.out.size)))
    | (go_at_call 136; refine (HS.out _).mono ?_; rintro e w3 ⟨rfl, b3⟩; have B3 : Hid (Below w.heap.size w w3) := hid (b1.trans (b3.mono b1.size)))
    | (refine wpList_ldm rfl (.tmp 5) rfl rfl v1 ?_)
    | (refine wpList_boxm (x := ⟨n, s, l, f, d⟩) rfl (.tmp 0) rfl rfl ?_; intro w1 v1 b1 s1))
  go_ret2
  exact ⟨rfl, C5.out⟩
theorem after_2e (n s l f d : Int) (me : Nat) (k : Int) (own O : Nat) (w : World) (hk : 0 ≤ k) (hm : May ⟨n, s, l, f, d⟩ me k) (hO : k % n = (O : Int)) (ho : own < 65536) (hO2 : O ≤ 15) (he : ((O : Int) == (me : Int)) = true) :
    Calls Tryz.prog 125 #[mv ⟨n, s, l, f, d⟩, .int .i64 (me : Int), .int .u16 (own : Int), .int .u64 k, .int .i64 2] w (RetA (addb (subb (addb own O) me) me) 0 w) := by
  have HS := hid (fun w => seen_ok n s l f d me k w hk hm)
  rw [hO] at HS
  have hM : me ≤ 15 := by have a := hm.2.2.2; have b := hm.1.2.1; simp only at a b; omega
  have H1 := hid ho
  have H2 := hid hO2
  have H3 := hid hM
  have W1 := hid (fun w => with_in (subb (addb own O) me) me w (Nat.lt_of_le_of_lt (subb_le (addb own O) me) (addb_lt own O ho hO2)) hM)
  clear ho hO2 hM
  clear hk hm hO
  go_enter Tryz.func125, Tryz.ntmps125
  go_wp2_with (first
    | (go_at_call 75; (with_reducible refine (W1.out _).mono ?_); rintro e w6 ⟨rfl, rfl⟩)
    | (refine wpList_lk rfl (.tmp 30) (.tmp 31) rfl Tryz.underlying168 .nilFunc rfl rfl m4 (by unfold KeyI; omega) (fnd2 _ _ _ _) (zero59 _) ?_)
    | (go_at_call 174; refine (c44 gw gm go O me own _ vw vo vm H1.out H2.out H3.out).mono ?_; rintro e w5 ⟨rfl, b5⟩; have C5 : Hid (Below w.heap.size w w5) := hid (C4.out.trans (b5.mono C4.out.size)))
    | (go_at_call 153; refine (moves_any _ _ _).mono ?_; rintro e w4 ⟨B4, n4, gm, go, gw, rfl, m4, vm, vo, vw, b4⟩; have C4 : Hid (Below w.heap.size w w4) := hid (B3.out.trans (b4.mono B3.out.size)))
    | (go_at_call 136; refine (HS.out _).mono ?_; rintro e w3 ⟨rfl, b3⟩; have B3 : Hid (Below w.heap.size w w3) := hid (b1.trans (b3.mono b1.size)))
    | (refine wpList_ldm rfl (.tmp 5) rfl rfl v1 ?_)
    | (refine wpList_boxm (x := ⟨n, s, l, f, d⟩) rfl (.tmp 0) rfl rfl ?_; intro w1 v1 b1 s1))
  go_ret2
  exact ⟨rfl, C5.out⟩
theorem after_3 (n s l f d : Int) (me : Nat) (k : Int) (own O : Nat) (w : World) (hk : 0 ≤ k) (hm : May ⟨n, s, l, f, d⟩ me k) (hO : k % n = (O : Int)) (ho : own < 65536) (hO2 : O ≤ 15) (he : ((O : Int) == (me : Int)) = false) :
    Calls Tryz.prog 125 #[mv ⟨n, s, l, f, d⟩, .int .i64 (me : Int), .int .u16 (own : Int), .int .u64 k, .int .i64 3] w (RetA (subb own O) 0 w) := by
  have HS := hid (fun w => seen_ok n s l f d me k w hk hm)
  rw [hO] at HS
  have hM : me ≤ 15 := by have a := hm.2.2.2; have b := hm.1.2.1; simp only at a b; omega
  have H1 := hid ho
  have H2 := hid hO2
  have H3 := hid hM
  clear ho hO2 hM
  clear hk hm hO
  go_enter Tryz.func125, Tryz.ntmps125
  go_wp2_with (first
    | (refine wpList_lk rfl (.tmp 30) (.tmp 31) rfl Tryz.underlying168 .nilFunc rfl rfl m4 (by unfold KeyI; omega) (fnd3 _ _ _ _) (zero59 _) ?_)
    | (go_at_call 173; refine (c43 go O own _ vo H1.out H2.out).mono ?_; rintro e w5 ⟨rfl, rfl⟩; have C5 := C4)
    | (go_at_call 153; refine (moves_any _ _ _).mono ?_; rintro e w4 ⟨B4, n4, gm, go, gw, rfl, m4, vm, vo, vw, b4⟩; have C4 : Hid (Below w.heap.size w w4) := hid (B3.out.trans (b4.mono B3.out.size)))
    | (go_at_call 136; refine (HS.out _).mono ?_; rintro e w3 ⟨rfl, b3⟩; have B3 : Hid (Below w.heap.size w w3) := hid (b1.trans (b3.mono b1.size)))
    | (refine wpList_ldm rfl (.tmp 5) rfl rfl v1 ?_)
    | (refine wpList_boxm (x := ⟨n, s, l, f, d⟩) rfl (.tmp 0) rfl rfl ?_; intro w1 v1 b1 s1))
  go_ret2
  exact ⟨rfl, C5.out⟩
theorem after_3e (n s l f d : Int) (me : Nat) (k : Int) (own O : Nat) (w : World) (hk : 0 ≤ k) (hm : May ⟨n, s, l, f, d⟩ me k) (hO : k % n = (O : Int)) (ho : own < 65536) (hO2 : O ≤ 15) (he : ((O : Int) == (me : Int)) = true) :
    Calls Tryz.prog 125 #[mv ⟨n, s, l, f, d⟩, .int .i64 (me : Int), .int .u16 (own : Int), .int .u64 k, .int .i64 3] w (RetA (addb (subb own O) me) 0 w) := by
  have HS := hid (fun w => seen_ok n s l f d me k w hk hm)
  rw [hO] at HS
  have hM : me ≤ 15 := by have a := hm.2.2.2; have b := hm.1.2.1; simp only at a b; omega
  have H1 := hid ho
  have H2 := hid hO2
  have H3 := hid hM
  have W1 := hid (fun w => with_in (subb own O) me w (Nat.lt_of_le_of_lt (subb_le own O) ho) hM)
  clear ho hO2 hM
  clear hk hm hO
  go_enter Tryz.func125, Tryz.ntmps125
  go_wp2_with (first
    | (go_at_call 75; (with_reducible refine (W1.out _).mono ?_); rintro e w6 ⟨rfl, rfl⟩)
    | (refine wpList_lk rfl (.tmp 30) (.tmp 31) rfl Tryz.underlying168 .nilFunc rfl rfl m4 (by unfold KeyI; omega) (fnd3 _ _ _ _) (zero59 _) ?_)
    | (go_at_call 173; refine (c43 go O own _ vo H1.out H2.out).mono ?_; rintro e w5 ⟨rfl, rfl⟩; have C5 := C4)
    | (go_at_call 153; refine (moves_any _ _ _).mono ?_; rintro e w4 ⟨B4, n4, gm, go, gw, rfl, m4, vm, vo, vw, b4⟩; have C4 : Hid (Below w.heap.size w w4) := hid (B3.out.trans (b4.mono B3.out.size)))
    | (go_at_call 136; refine (HS.out _).mono ?_; rintro e w3 ⟨rfl, b3⟩; have B3 : Hid (Below w.heap.size w w3) := hid (b1.trans (b3.mono b1.size)))
    | (refine wpList_ldm rfl (.tmp 5) rfl rfl v1 ?_)
    | (refine wpList_boxm (x := ⟨n, s, l, f, d⟩) rfl (.tmp 0) rfl rfl ?_; intro w1 v1 b1 s1))
  go_ret2
  exact ⟨rfl, C5.out⟩
/-- Who is there behind a slot. -/
def aft (O me own : Nat) (v : Int) : Nat :=
  if O = me then addb (if v = 1 then addb own O else if v = 2 then subb (addb own O) me else subb own O) me else (if v = 1 then addb own O else if v = 2 then subb (addb own O) me else subb own O)
def aftM (x : Md) (me k : Int) (own : Nat) (v : Int) : Nat := if May x me k ∧ OkV v then aft (slO x k) me.toNat own v else 0
def aftE (x : Md) (me k : Int) (v : Int) : Int := if May x me k ∧ OkV v then 0 else 1
theorem aft_lt (O me own : Nat) (v : Int) (ho : own < 65536) (hO : O ≤ 15) (hm : me ≤ 15) : aft O me own v < 65536 := by
  have h1 := addb_lt own O ho hO
  have h2 := Nat.lt_of_le_of_lt (subb_le (addb own O) me) h1
  have h3 := Nat.lt_of_le_of_lt (subb_le own O) ho
  unfold aft
  split
  · refine addb_lt _ _ ?_ hm
    split
    · exact h1
    · split <;> assumption
  · split
    · exact h1
    · split <;> assumption
theorem after_any (x : Md) (me k v : Int) (own : Nat) (w : World) (hk : 0 ≤ k) (ho : own < 65536) (hv : KeyI v) :
    Calls Tryz.prog 125 #[mv x, .int .i64 me, .int .u16 (own : Int), .int .u64 k, .int .i64 v] w (RetA (aftM x me k own v) (aftE x me k v) w) := by
  by_cases hm : May x me k
  · obtain ⟨n, s, l, f, d⟩ := x
    obtain ⟨h1, h2, h3, h4, h5⟩ := slO_cast _ me k hm
    by_cases hv2 : OkV v
    · unfold aftM aftE
      rw [if_pos ⟨hm, hv2⟩, if_pos ⟨hm, hv2⟩]
      rw [← h4] at hm ⊢
      show Calls _ _ _ _ (RetA (aft _ me.toNat own v) 0 w)
      generalize me.toNat = M at *
      generalize slO ⟨n, s, l, f, d⟩ k = O at *
      unfold OkV at hv2
      unfold aft
      by_cases c : O = M
      · have he : ((O : Int) == (M : Int)) = true := beq_t c
        rw [if_pos c]
        obtain rfl | rfl | rfl | rfl : v = 0 ∨ v = 1 ∨ v = 2 ∨ v = 3 := by omega
        · exact after_0e n s l f d M k own O w hk hm h1 ho h2 he
        · exact after_1e n s l f d M k own O w hk hm h1 ho h2 he
        · exact after_2e n s l f d M k own O w hk hm h1 ho h2 he
        · exact after_3e n s l f d M k own O w hk hm h1 ho h2 he
      · have he : ((O : Int) == (M : Int)) = false := beq_f c
        rw [if_neg c]
        obtain rfl | rfl | rfl | rfl : v = 0 ∨ v = 1 ∨ v = 2 ∨ v = 3 := by omega
        · exact after_0 n s l f d M k own O w hk hm h1 ho h2 he
        · exact after_1 n s l f d M k own O w hk hm h1 ho h2 he
        · exact after_2 n s l f d M k own O w hk hm h1 ho h2 he
        · exact after_3 n s l f d M k own O w hk hm h1 ho h2 he
    · unfold aftM aftE
      rw [if_neg fun h => hv2 h.2, if_neg fun h => hv2 h.2]
      rw [← h4] at hm ⊢
      exact after_noV n s l f d _ k v own _ w hk hm h1 hv (by unfold OkV at hv2; omega)
  · unfold aftM aftE
    rw [if_neg fun h => hm h.1, if_neg fun h => hm h.1]
    exact after_no x me k v own w hk hm
end Go.Proofs.YtlgedfljmgedfaaGreat.M10
namespace Go.Proofs.YtlgedfljmgedfaaGreat.M10
open Go Go.RowKit
/-! ### What may be -/
theorem last_ok (n s l f d k O : Int) (L : Bool) (w : World) (h : Ok ⟨n, s, l, f, d⟩) (hk : 0 ≤ k) (hk2 : k ≤ 4294967296) (hO : k % n = O) (hL : (O == n - 1) = L) : Calls Tryz.prog 126 #[mv ⟨n, s, l, f, d⟩, .int .u64 k] w fun r w' => r = .returned (.tuple #[.bool L, .int .i64 0]) ∧ Below w.heap.size w w' := by
  have HC := hid (fun w => slot_any ⟨n, s, l, f, d⟩ k w 0 (if_pos ⟨h, hk2⟩))
  have HO := hid (fun w => owner_ok n s l f d k O w h.1 h.2.1 hk hk2 hO)
  clear hO
  obtain ⟨h1, h2, h3, h4, h5, h6, h7, h8, h9⟩ := h
  simp only at h1 h2 h3 h4 h5 h6 h7 h8 h9
  go_enter Tryz.func126, Tryz.ntmps126
  go_wp2_with (first
    | (go_at_call 65; (with_reducible refine (HC.out w1).mono ?_); rintro e w2 ⟨rfl, b2⟩; have v2 := v1.keep b2; have B2 : Hid (Below w.heap.size w w2) := hid (b1.trans (b2.mono b1.size)); clear v1)
    | (refine wpList_ldm rfl (.tmp 2) rfl rfl v1 ?_)
    | (refine wpList_boxm (x := ⟨n, s, l, f, d⟩) rfl (.tmp 0) rfl rfl ?_; intro w1 v1 b1 s1))
  have BB := hid (fun dd os => (B2.out.trans ((below_regrown w2 dd os).mono B2.out.size)))
  have T1 := hid (fun dd os => Calls.regrown_of (HO.out (Sort.grow (redrawn w2 dd) os)))
  have x0 : Hid (w2.cell? ⟨w.heap.size, 0, none⟩ = some (.int .i64 n)) := hid v2.c0
  have V := hid v2
  clear v2 HO HC
  refine wp_region_quiet_below (by kernel_rfl) (by kernel_rfl) ?_
  repeat (first | refine wpQuiet_ldm rfl rfl rfl V.out ?_ | refine wpQuiet_ldn rfl rfl rfl x0.out ?_ | quiet_step (with_reducible exact T1.out _ _))
  refine wpQuiet_nil ?_
  intro _ hw'
  obtain ⟨⟨dq, osq⟩, hw''⟩ := hw'
  subst hw''
  have HW := hid (BB.out dq osq)
  generalize Sort.grow (redrawn w2 dq) osq = w12 at *
  clear T1 x0
  go_wp2
  go_ret2
  have hwr : IntKind.i64.wrap (n - 1) = n - 1 := by rw [IntKind.wrap_i64]; omega
  refine ⟨?_, HW.out⟩
  show Ending.returned (.tuple #[.bool (O == IntKind.i64.wrap (n - 1)), .int .i64 0]) = _
  rw [hwr, hL]
/-! ### At, Off -/
theorem off_in (n s l f d t D : Int) (B : Bool) (w : World) (h : Ok ⟨n, s, l, f, d⟩) (ht : -9223372036854775808 + l ≤ t) (ht2 : t ≤ 9223372036854775807) (hD : t - l = D) (hd : decide (-d ≤ D) = true) (hB : decide (D ≤ d) = B) : Calls Tryz.prog 94 #[mv ⟨n, s, l, f, d⟩, .int .i64 t] w fun e w' => e = .returned (.tuple #[.int .i64 D, .bool B, .int .i64 0]) ∧ Below w.heap.size w w' := by
  have HC := hid (fun w => (okE_ok h ▸ check_any ⟨n, s, l, f, d⟩ w : Calls Tryz.prog 54 #[mv ⟨n, s, l, f, d⟩] w fun e w' => e = .returned (.int .i64 0) ∧ Below w.heap.size w w'))
  obtain ⟨h1, h2, h3, h4, h5, h6, h7, h8, h9⟩ := h
  simp only at h1 h2 h3 h4 h5 h6 h7 h8 h9
  go_enter Tryz.func94, Tryz.ntmps94
  go_wp2_with (first
    | (go_at_call 54; (with_reducible refine (HC.out w1).mono ?_); rintro e w2 ⟨rfl, b2⟩; have v2 := v1.keep b2; have B2 : Hid (Below w.heap.size w w2) := hid (b1.trans (b2.mono b1.size)); have c2 : w2.cell? ⟨w.heap.size, 2, none⟩ = some (.int .i64 l) := v2.c2; have c4 : w2.cell? ⟨w.heap.size, 4, none⟩ = some (.int .i64 d) := v2.c4; clear v1)
    | (refine wpList_ldm rfl (.tmp 2) rfl rfl v1 ?_)
    | (refine wpList_boxm (x := ⟨n, s, l, f, d⟩) rfl (.tmp 0) rfl rfl ?_; intro w1 v1 b1 s1))
  go_region
  go_wp2
  go_ret3
  exact ⟨rfl, B2.out.drew⟩
theorem off_early (n s l f d t D : Int) (w : World) (h : Ok ⟨n, s, l, f, d⟩) (ht : -9223372036854775808 + l ≤ t) (ht2 : t ≤ 9223372036854775807) (hD : t - l = D) (hd : decide (-d ≤ D) = false) : Calls Tryz.prog 94 #[mv ⟨n, s, l, f, d⟩, .int .i64 t] w fun e w' => e = .returned (.tuple #[.int .i64 D, .bool false, .int .i64 0]) ∧ Below w.heap.size w w' := by
  have HC := hid (fun w => (okE_ok h ▸ check_any ⟨n, s, l, f, d⟩ w : Calls Tryz.prog 54 #[mv ⟨n, s, l, f, d⟩] w fun e w' => e = .returned (.int .i64 0) ∧ Below w.heap.size w w'))
  obtain ⟨h1, h2, h3, h4, h5, h6, h7, h8, h9⟩ := h
  simp only at h1 h2 h3 h4 h5 h6 h7 h8 h9
  go_enter Tryz.func94, Tryz.ntmps94
  go_wp2_with (first
    | (go_at_call 54; (with_reducible refine (HC.out w1).mono ?_); rintro e w2 ⟨rfl, b2⟩; have v2 := v1.keep b2; have B2 : Hid (Below w.heap.size w w2) := hid (b1.trans (b2.mono b1.size)); have c2 : w2.cell? ⟨w.heap.size, 2, none⟩ = some (.int .i64 l) := v2.c2; have c4 : w2.cell? ⟨w.heap.size, 4, none⟩ = some (.int .i64 d) := v2.c4; clear v1)
    | (refine wpList_ldm rfl (.tmp 2) rfl rfl v1 ?_)
    | (refine wpList_boxm (x := ⟨n, s, l, f, d⟩) rfl (.tmp 0) rfl rfl ?_; intro w1 v1 b1 s1))
  go_region
  go_wp2
  go_ret3
  exact ⟨rfl, B2.out.drew⟩
/-! ### Next -/
end Go.Proofs.YtlgedfljmgedfaaGreat.M10
