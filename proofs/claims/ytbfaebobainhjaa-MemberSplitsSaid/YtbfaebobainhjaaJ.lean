/-
  member.Judge and the Judge of the document: what they answer, at every schedule, node, own members, slot and frame.
-/
import Derived.Test.YtbfaebobainhjaaO
namespace Go.Proofs.Ytbfaebobainhjaa
open Go Go.RowKit Go.Maps
theorem judge_frame (n s l f d : Int) (me : Nat) (k : Int) (own O : Nat) (fk ff : Int) (fs fm : Nat) (w : World) (hk : 0 ≤ k) (hm : May ⟨n, s, l, f, d⟩ me k) (hO : k % n = (O : Int)) (hf : ¬ OkF ⟨fk, ff, fs, fm⟩) :
    Calls Try.prog 11 #[mv ⟨n, s, l, f, d⟩, .int .i64 (me : Int), .int .u16 (own : Int), .int .u64 k, fv ⟨fk, ff, fs, fm⟩] w (RetO 0 1 w) := by
  have HS := hid (fun w => seen_ok n s l f d me k w hk hm)
  rw [hO] at HS
  have HF := hid (fun w => (okF_bad hf ▸ fcheck_any ⟨fk, ff, fs, fm⟩ w : Calls Try.prog 28 #[fv ⟨fk, ff, fs, fm⟩] w fun e w' => e = .returned (.int .i64 (1 : Nat)) ∧ Below w.heap.size w w'))
  clear hk hm hO
  go_enter Try.func11, Try.ntmps11
  go_wp2_with (first
    | (go_at_call 28; (with_reducible refine (HF.out _).mono ?_); rintro e w4 ⟨rfl, b4⟩; have u4 := u3.keep b4; have c1 : w4.cell? ⟨w1.heap.size, 1, none⟩ = some (.int .i64 ff) := u4.c1; have c2 : w4.cell? ⟨w1.heap.size, 2, none⟩ = some (.int .u64 (fs : Int)) := u4.c2; have c3 : w4.cell? ⟨w1.heap.size, 3, none⟩ = some (.int .u16 (fm : Int)) := u4.c3; have B4 : Hid (Below w.heap.size w w4) := hid (B3.out.trans (b4.mono B3.out.size)))
    | (refine wpList_ldf rfl (.tmp 9) rfl rfl u3 ?_)
    | (go_at_call 27; refine (HS.out _).mono ?_; rintro e w3 ⟨rfl, b3⟩; have u3 := v2.keep b3; have B3 : Hid (Below w.heap.size w w3) := hid (B2.out.trans (b3.mono B2.out.size)))
    | (refine wpList_ldm rfl (.tmp 5) rfl rfl v3 ?_)
    | (refine wpList_boxf (x := ⟨fk, ff, fs, fm⟩) rfl (.tmp 4) rfl rfl ?_; intro w2 v2 b2 s2; have v3 := v1.keep b2; have B2 : Hid (Below w.heap.size w w2) := hid (b1.trans (b2.mono b1.size)))
    | (refine wpList_boxm (x := ⟨n, s, l, f, d⟩) rfl (.tmp 0) rfl rfl ?_; intro w1 v1 b1 s1))
  go_ret2
  exact ⟨rfl, B4.out⟩
theorem judge_from (n s l f d : Int) (me : Nat) (k : Int) (own O : Nat) (fk ff : Int) (fs fm : Nat) (w : World) (hk : 0 ≤ k) (hm : May ⟨n, s, l, f, d⟩ me k) (hO : k % n = (O : Int)) (hf : OkF ⟨fk, ff, fs, fm⟩) (h1 : (ff != (O : Int)) = true) :
    Calls Try.prog 11 #[mv ⟨n, s, l, f, d⟩, .int .i64 (me : Int), .int .u16 (own : Int), .int .u64 k, fv ⟨fk, ff, fs, fm⟩] w (RetO 3 0 w) := by
  have HS := hid (fun w => seen_ok n s l f d me k w hk hm)
  rw [hO] at HS
  have HF := hid (fun w => (okF_ok hf ▸ fcheck_any ⟨fk, ff, fs, fm⟩ w : Calls Try.prog 28 #[fv ⟨fk, ff, fs, fm⟩] w fun e w' => e = .returned (.int .i64 (0 : Nat)) ∧ Below w.heap.size w w'))
  clear hf
  clear hk hm hO
  go_enter Try.func11, Try.ntmps11
  go_wp2_with (first
    | (go_at_call 28; (with_reducible refine (HF.out _).mono ?_); rintro e w4 ⟨rfl, b4⟩; have u4 := u3.keep b4; have c1 : w4.cell? ⟨w1.heap.size, 1, none⟩ = some (.int .i64 ff) := u4.c1; have c2 : w4.cell? ⟨w1.heap.size, 2, none⟩ = some (.int .u64 (fs : Int)) := u4.c2; have c3 : w4.cell? ⟨w1.heap.size, 3, none⟩ = some (.int .u16 (fm : Int)) := u4.c3; have B4 : Hid (Below w.heap.size w w4) := hid (B3.out.trans (b4.mono B3.out.size)))
    | (refine wpList_ldf rfl (.tmp 9) rfl rfl u3 ?_)
    | (go_at_call 27; refine (HS.out _).mono ?_; rintro e w3 ⟨rfl, b3⟩; have u3 := v2.keep b3; have B3 : Hid (Below w.heap.size w w3) := hid (B2.out.trans (b3.mono B2.out.size)))
    | (refine wpList_ldm rfl (.tmp 5) rfl rfl v3 ?_)
    | (refine wpList_boxf (x := ⟨fk, ff, fs, fm⟩) rfl (.tmp 4) rfl rfl ?_; intro w2 v2 b2 s2; have v3 := v1.keep b2; have B2 : Hid (Below w.heap.size w w2) := hid (b1.trans (b2.mono b1.size)))
    | (refine wpList_boxm (x := ⟨n, s, l, f, d⟩) rfl (.tmp 0) rfl rfl ?_; intro w1 v1 b1 s1))
  go_ret2
  exact ⟨rfl, B4.out⟩
theorem judge_slot (n s l f d : Int) (me : Nat) (k : Int) (own O : Nat) (fk ff : Int) (fs fm : Nat) (w : World) (hk : 0 ≤ k) (hm : May ⟨n, s, l, f, d⟩ me k) (hO : k % n = (O : Int)) (hf : OkF ⟨fk, ff, fs, fm⟩) (h1 : (ff != (O : Int)) = false) (h2 : ((fs : Int) != k) = true) :
    Calls Try.prog 11 #[mv ⟨n, s, l, f, d⟩, .int .i64 (me : Int), .int .u16 (own : Int), .int .u64 k, fv ⟨fk, ff, fs, fm⟩] w (RetO 3 0 w) := by
  have HS := hid (fun w => seen_ok n s l f d me k w hk hm)
  rw [hO] at HS
  have HF := hid (fun w => (okF_ok hf ▸ fcheck_any ⟨fk, ff, fs, fm⟩ w : Calls Try.prog 28 #[fv ⟨fk, ff, fs, fm⟩] w fun e w' => e = .returned (.int .i64 (0 : Nat)) ∧ Below w.heap.size w w'))
  clear hf
  clear hk hm hO
  go_enter Try.func11, Try.ntmps11
  go_wp2_with (first
    | (go_at_call 28; (with_reducible refine (HF.out _).mono ?_); rintro e w4 ⟨rfl, b4⟩; have u4 := u3.keep b4; have c1 : w4.cell? ⟨w1.heap.size, 1, none⟩ = some (.int .i64 ff) := u4.c1; have c2 : w4.cell? ⟨w1.heap.size, 2, none⟩ = some (.int .u64 (fs : Int)) := u4.c2; have c3 : w4.cell? ⟨w1.heap.size, 3, none⟩ = some (.int .u16 (fm : Int)) := u4.c3; have B4 : Hid (Below w.heap.size w w4) := hid (B3.out.trans (b4.mono B3.out.size)))
    | (refine wpList_ldf rfl (.tmp 9) rfl rfl u3 ?_)
    | (go_at_call 27; refine (HS.out _).mono ?_; rintro e w3 ⟨rfl, b3⟩; have u3 := v2.keep b3; have B3 : Hid (Below w.heap.size w w3) := hid (B2.out.trans (b3.mono B2.out.size)))
    | (refine wpList_ldm rfl (.tmp 5) rfl rfl v3 ?_)
    | (refine wpList_boxf (x := ⟨fk, ff, fs, fm⟩) rfl (.tmp 4) rfl rfl ?_; intro w2 v2 b2 s2; have v3 := v1.keep b2; have B2 : Hid (Below w.heap.size w w2) := hid (b1.trans (b2.mono b1.size)))
    | (refine wpList_boxm (x := ⟨n, s, l, f, d⟩) rfl (.tmp 0) rfl rfl ?_; intro w1 v1 b1 s1))
  go_ret2
  exact ⟨rfl, B4.out⟩
theorem judge_1 (n s l f d : Int) (me : Nat) (k : Int) (own O : Nat) (fk ff : Int) (fs fm : Nat) (w : World) (hk : 0 ≤ k) (hm : May ⟨n, s, l, f, d⟩ me k) (hO : k % n = (O : Int)) (hf : OkF ⟨fk, ff, fs, fm⟩) (h1 : (ff != (O : Int)) = false) (h2 : ((fs : Int) != k) = false) (ho : own < 65536) (hO2 : O ≤ 15) (h3 : ((fm : Int) == ((addb own O : Nat) : Int)) = true) :
    Calls Try.prog 11 #[mv ⟨n, s, l, f, d⟩, .int .i64 (me : Int), .int .u16 (own : Int), .int .u64 k, fv ⟨fk, ff, fs, fm⟩] w (RetO 1 0 w) := by
  have HS := hid (fun w => seen_ok n s l f d me k w hk hm)
  rw [hO] at HS
  have HF := hid (fun w => (okF_ok hf ▸ fcheck_any ⟨fk, ff, fs, fm⟩ w : Calls Try.prog 28 #[fv ⟨fk, ff, fs, fm⟩] w fun e w' => e = .returned (.int .i64 (0 : Nat)) ∧ Below w.heap.size w w'))
  clear hf
  have W1 := hid (fun w => with_in own O w ho hO2)
  have M1 := addb_lt own O ho hO2
  clear ho hO2
  generalize addb own O = y1 at *
  clear hk hm hO
  go_enter Try.func11, Try.ntmps11
  go_wp2_with (first
    | (go_at_call 28; (with_reducible refine (HF.out _).mono ?_); rintro e w4 ⟨rfl, b4⟩; have u4 := u3.keep b4; have c1 : w4.cell? ⟨w1.heap.size, 1, none⟩ = some (.int .i64 ff) := u4.c1; have c2 : w4.cell? ⟨w1.heap.size, 2, none⟩ = some (.int .u64 (fs : Int)) := u4.c2; have c3 : w4.cell? ⟨w1.heap.size, 3, none⟩ = some (.int .u16 (fm : Int)) := u4.c3; have B4 : Hid (Below w.heap.size w w4) := hid (B3.out.trans (b4.mono B3.out.size)))
    | (refine wpList_ldf rfl (.tmp 9) rfl rfl u3 ?_)
    | (go_at_call 27; refine (HS.out _).mono ?_; rintro e w3 ⟨rfl, b3⟩; have u3 := v2.keep b3; have B3 : Hid (Below w.heap.size w w3) := hid (B2.out.trans (b3.mono B2.out.size)))
    | (refine wpList_ldm rfl (.tmp 5) rfl rfl v3 ?_)
    | (refine wpList_boxf (x := ⟨fk, ff, fs, fm⟩) rfl (.tmp 4) rfl rfl ?_; intro w2 v2 b2 s2; have v3 := v1.keep b2; have B2 : Hid (Below w.heap.size w w2) := hid (b1.trans (b2.mono b1.size)))
    | (refine wpList_boxm (x := ⟨n, s, l, f, d⟩) rfl (.tmp 0) rfl rfl ?_; intro w1 v1 b1 s1)
    | (go_at_call 23; (with_reducible refine (W1.out _).mono ?_); rintro e w' ⟨rfl, rfl⟩))
  go_ret2
  exact ⟨rfl, B4.out⟩
theorem judge_2 (n s l f d : Int) (me : Nat) (k : Int) (own O : Nat) (fk ff : Int) (fs fm : Nat) (w : World) (hk : 0 ≤ k) (hm : May ⟨n, s, l, f, d⟩ me k) (hO : k % n = (O : Int)) (hf : OkF ⟨fk, ff, fs, fm⟩) (h1 : (ff != (O : Int)) = false) (h2 : ((fs : Int) != k) = false) (ho : own < 65536) (hO2 : O ≤ 15) (h3 : ((fm : Int) == ((addb own O : Nat) : Int)) = false) (h4 : ((fm : Int) == ((addb (subb own me) O : Nat) : Int)) = true) :
    Calls Try.prog 11 #[mv ⟨n, s, l, f, d⟩, .int .i64 (me : Int), .int .u16 (own : Int), .int .u64 k, fv ⟨fk, ff, fs, fm⟩] w (RetO 2 0 w) := by
  have HS := hid (fun w => seen_ok n s l f d me k w hk hm)
  rw [hO] at HS
  have HF := hid (fun w => (okF_ok hf ▸ fcheck_any ⟨fk, ff, fs, fm⟩ w : Calls Try.prog 28 #[fv ⟨fk, ff, fs, fm⟩] w fun e w' => e = .returned (.int .i64 (0 : Nat)) ∧ Below w.heap.size w w'))
  clear hf
  have W1 := hid (fun w => with_in own O w ho hO2)
  have M1 := addb_lt own O ho hO2
  have hM : me ≤ 15 := by have a := hm.2.2.2; have b := hm.1.2.1; simp only at a b; omega
  have W2 := hid (fun w => without_in own me w ho hM)
  have hs2 := Nat.lt_of_le_of_lt (subb_le own me) ho
  have W3 := hid (fun w => with_in (subb own me) O w hs2 hO2)
  have M2 := addb_lt (subb own me) O hs2 hO2
  clear ho hO2 hs2 hM
  generalize addb own O = y1 at *
  generalize addb (subb own me) O = y2 at *
  generalize subb own me = y3 at *
  clear hk hm hO
  go_enter Try.func11, Try.ntmps11
  go_wp2_with (first
    | (go_at_call 28; (with_reducible refine (HF.out _).mono ?_); rintro e w4 ⟨rfl, b4⟩; have u4 := u3.keep b4; have c1 : w4.cell? ⟨w1.heap.size, 1, none⟩ = some (.int .i64 ff) := u4.c1; have c2 : w4.cell? ⟨w1.heap.size, 2, none⟩ = some (.int .u64 (fs : Int)) := u4.c2; have c3 : w4.cell? ⟨w1.heap.size, 3, none⟩ = some (.int .u16 (fm : Int)) := u4.c3; have B4 : Hid (Below w.heap.size w w4) := hid (B3.out.trans (b4.mono B3.out.size)))
    | (refine wpList_ldf rfl (.tmp 9) rfl rfl u3 ?_)
    | (go_at_call 27; refine (HS.out _).mono ?_; rintro e w3 ⟨rfl, b3⟩; have u3 := v2.keep b3; have B3 : Hid (Below w.heap.size w w3) := hid (B2.out.trans (b3.mono B2.out.size)))
    | (refine wpList_ldm rfl (.tmp 5) rfl rfl v3 ?_)
    | (refine wpList_boxf (x := ⟨fk, ff, fs, fm⟩) rfl (.tmp 4) rfl rfl ?_; intro w2 v2 b2 s2; have v3 := v1.keep b2; have B2 : Hid (Below w.heap.size w w2) := hid (b1.trans (b2.mono b1.size)))
    | (refine wpList_boxm (x := ⟨n, s, l, f, d⟩) rfl (.tmp 0) rfl rfl ?_; intro w1 v1 b1 s1)
    | (go_at_call 23; (with_reducible refine (W1.out _).mono ?_); rintro e w' ⟨rfl, rfl⟩)
    | (go_at_call 24; (with_reducible refine (W2.out _).mono ?_); rintro e w' ⟨rfl, rfl⟩)
    | (go_at_call 23; (with_reducible refine (W3.out _).mono ?_); rintro e w' ⟨rfl, rfl⟩))
  go_ret2
  exact ⟨rfl, B4.out⟩
theorem judge_3 (n s l f d : Int) (me : Nat) (k : Int) (own O : Nat) (fk ff : Int) (fs fm : Nat) (w : World) (hk : 0 ≤ k) (hm : May ⟨n, s, l, f, d⟩ me k) (hO : k % n = (O : Int)) (hf : OkF ⟨fk, ff, fs, fm⟩) (h1 : (ff != (O : Int)) = false) (h2 : ((fs : Int) != k) = false) (ho : own < 65536) (hO2 : O ≤ 15) (h3 : ((fm : Int) == ((addb own O : Nat) : Int)) = false) (h4 : ((fm : Int) == ((addb (subb own me) O : Nat) : Int)) = false) :
    Calls Try.prog 11 #[mv ⟨n, s, l, f, d⟩, .int .i64 (me : Int), .int .u16 (own : Int), .int .u64 k, fv ⟨fk, ff, fs, fm⟩] w (RetO 3 0 w) := by
  have HS := hid (fun w => seen_ok n s l f d me k w hk hm)
  rw [hO] at HS
  have HF := hid (fun w => (okF_ok hf ▸ fcheck_any ⟨fk, ff, fs, fm⟩ w : Calls Try.prog 28 #[fv ⟨fk, ff, fs, fm⟩] w fun e w' => e = .returned (.int .i64 (0 : Nat)) ∧ Below w.heap.size w w'))
  clear hf
  have W1 := hid (fun w => with_in own O w ho hO2)
  have M1 := addb_lt own O ho hO2
  have hM : me ≤ 15 := by have a := hm.2.2.2; have b := hm.1.2.1; simp only at a b; omega
  have W2 := hid (fun w => without_in own me w ho hM)
  have hs2 := Nat.lt_of_le_of_lt (subb_le own me) ho
  have W3 := hid (fun w => with_in (subb own me) O w hs2 hO2)
  have M2 := addb_lt (subb own me) O hs2 hO2
  clear ho hO2 hs2 hM
  generalize addb own O = y1 at *
  generalize addb (subb own me) O = y2 at *
  generalize subb own me = y3 at *
  clear hk hm hO
  go_enter Try.func11, Try.ntmps11
  go_wp2_with (first
    | (go_at_call 28; (with_reducible refine (HF.out _).mono ?_); rintro e w4 ⟨rfl, b4⟩; have u4 := u3.keep b4; have c1 : w4.cell? ⟨w1.heap.size, 1, none⟩ = some (.int .i64 ff) := u4.c1; have c2 : w4.cell? ⟨w1.heap.size, 2, none⟩ = some (.int .u64 (fs : Int)) := u4.c2; have c3 : w4.cell? ⟨w1.heap.size, 3, none⟩ = some (.int .u16 (fm : Int)) := u4.c3; have B4 : Hid (Below w.heap.size w w4) := hid (B3.out.trans (b4.mono B3.out.size)))
    | (refine wpList_ldf rfl (.tmp 9) rfl rfl u3 ?_)
    | (go_at_call 27; refine (HS.out _).mono ?_; rintro e w3 ⟨rfl, b3⟩; have u3 := v2.keep b3; have B3 : Hid (Below w.heap.size w w3) := hid (B2.out.trans (b3.mono B2.out.size)))
    | (refine wpList_ldm rfl (.tmp 5) rfl rfl v3 ?_)
    | (refine wpList_boxf (x := ⟨fk, ff, fs, fm⟩) rfl (.tmp 4) rfl rfl ?_; intro w2 v2 b2 s2; have v3 := v1.keep b2; have B2 : Hid (Below w.heap.size w w2) := hid (b1.trans (b2.mono b1.size)))
    | (refine wpList_boxm (x := ⟨n, s, l, f, d⟩) rfl (.tmp 0) rfl rfl ?_; intro w1 v1 b1 s1)
    | (go_at_call 23; (with_reducible refine (W1.out _).mono ?_); rintro e w' ⟨rfl, rfl⟩)
    | (go_at_call 24; (with_reducible refine (W2.out _).mono ?_); rintro e w' ⟨rfl, rfl⟩)
    | (go_at_call 23; (with_reducible refine (W3.out _).mono ?_); rintro e w' ⟨rfl, rfl⟩))
  go_ret2
  exact ⟨rfl, B4.out⟩
theorem judge_no (x : Md) (me k : Int) (own : Nat) (y : Fr) (w : World) (hk : 0 ≤ k) (hm : ¬ May x me k) : Calls Try.prog 11 #[mv x, .int .i64 me, .int .u16 (own : Int), .int .u64 k, fv y] w (RetO 0 1 w) := by
  have HS := hid (fun w => seen_no x me k w hk hm)
  clear hm hk
  go_enter Try.func11, Try.ntmps11
  go_wp2_with (first
    | (go_at_call 27; refine (HS.out _).mono ?_; rintro e w3 ⟨rfl, b3⟩; have B3 : Hid (Below w.heap.size w w3) := hid (B2.out.trans (b3.mono B2.out.size)))
    | (refine wpList_ldm rfl (.tmp 5) rfl rfl v3 ?_)
    | (refine wpList_boxf (x := y) rfl (.tmp 4) rfl rfl ?_; intro w2 v2 b2 s2; have v3 := v1.keep b2; have B2 : Hid (Below w.heap.size w w2) := hid (b1.trans (b2.mono b1.size)))
    | (refine wpList_boxm (x := x) rfl (.tmp 0) rfl rfl ?_; intro w1 v1 b1 s1))
  go_ret2
  exact ⟨rfl, B3.out⟩
theorem rjudge_no (x : Md) (me k : Int) (own : Nat) (y : Fr) (w : World) (hk : 0 ≤ k) (hm : ¬ May x me k) : Calls Try.prog 12 #[mv x, .int .i64 me, .int .u16 (own : Int), .int .u64 k, fv y] w (RetO 0 1 w) := by
  have HS := hid (fun w => rseen_no x me k w hk hm)
  clear hm hk
  go_enter Try.func12, Try.ntmps12
  go_wp2_with (first
    | (go_at_call 29; refine (HS.out _).mono ?_; rintro e w3 ⟨O, rfl, b3⟩; have B3 : Hid (Below w.heap.size w w3) := hid (B2.out.trans (b3.mono B2.out.size)))
    | (refine wpList_ldm rfl (.tmp 5) rfl rfl v3 ?_)
    | (refine wpList_boxf (x := y) rfl (.tmp 9) rfl rfl ?_; intro w2 v2 b2 s2; have v3 := v1.keep b2; have B2 : Hid (Below w.heap.size w w2) := hid (b1.trans (b2.mono b1.size)))
    | (refine wpList_boxf (x := y) rfl (.tmp 4) rfl rfl ?_; intro w2 v2 b2 s2; have v3 := v1.keep b2; have B2 : Hid (Below w.heap.size w w2) := hid (b1.trans (b2.mono b1.size)))
    | (refine wpList_boxm (x := x) rfl (.tmp 0) rfl rfl ?_; intro w1 v1 b1 s1))
  go_ret2
  exact ⟨rfl, B3.out⟩
theorem rjudge_frame (n s l f d : Int) (me : Nat) (k : Int) (own O : Nat) (fk ff : Int) (fs fm : Nat) (w : World) (hk : 0 ≤ k) (hm : May ⟨n, s, l, f, d⟩ me k) (hO : k % n = (O : Int)) (hf : ¬ OkF ⟨fk, ff, fs, fm⟩) :
    Calls Try.prog 12 #[mv ⟨n, s, l, f, d⟩, .int .i64 (me : Int), .int .u16 (own : Int), .int .u64 k, fv ⟨fk, ff, fs, fm⟩] w (RetO 0 1 w) := by
  have HS := hid (fun w => rseen_ok n s l f d me k w hk hm)
  rw [hO] at HS
  have HF := hid (fun w => (okF_bad hf ▸ reffcheck_any ⟨fk, ff, fs, fm⟩ w : Calls Try.prog 30 #[fv ⟨fk, ff, fs, fm⟩] w fun e w' => e = .returned (.int .i64 (1 : Nat)) ∧ Below w.heap.size w w'))
  clear hk hm hO
  go_enter Try.func12, Try.ntmps12
  go_wp2_with (first
    | (go_at_call 30; (with_reducible refine (HF.out _).mono ?_); rintro e w4 ⟨rfl, b4⟩; have u4 := u3.keep b4; have c1 : w4.cell? ⟨w1.heap.size, 1, none⟩ = some (.int .i64 ff) := u4.c1; have c2 : w4.cell? ⟨w1.heap.size, 2, none⟩ = some (.int .u64 (fs : Int)) := u4.c2; have c3 : w4.cell? ⟨w1.heap.size, 3, none⟩ = some (.int .u16 (fm : Int)) := u4.c3; have B4 : Hid (Below w.heap.size w w4) := hid (B3.out.trans (b4.mono B3.out.size)))
    | (refine wpList_ldf rfl (.tmp 9) rfl rfl u3 ?_)
    | (go_at_call 29; refine (HS.out _).mono ?_; rintro e w3 ⟨rfl, b3⟩; have u3 := v2.keep b3; have B3 : Hid (Below w.heap.size w w3) := hid (B2.out.trans (b3.mono B2.out.size)))
    | (refine wpList_ldm rfl (.tmp 5) rfl rfl v3 ?_)
    | (refine wpList_boxf (x := ⟨fk, ff, fs, fm⟩) rfl (.tmp 4) rfl rfl ?_; intro w2 v2 b2 s2; have v3 := v1.keep b2; have B2 : Hid (Below w.heap.size w w2) := hid (b1.trans (b2.mono b1.size)))
    | (refine wpList_boxm (x := ⟨n, s, l, f, d⟩) rfl (.tmp 0) rfl rfl ?_; intro w1 v1 b1 s1))
  go_ret2
  exact ⟨rfl, B4.out⟩
theorem rjudge_from (n s l f d : Int) (me : Nat) (k : Int) (own O : Nat) (fk ff : Int) (fs fm : Nat) (w : World) (hk : 0 ≤ k) (hm : May ⟨n, s, l, f, d⟩ me k) (hO : k % n = (O : Int)) (hf : OkF ⟨fk, ff, fs, fm⟩) (h1 : (ff != (O : Int)) = true) :
    Calls Try.prog 12 #[mv ⟨n, s, l, f, d⟩, .int .i64 (me : Int), .int .u16 (own : Int), .int .u64 k, fv ⟨fk, ff, fs, fm⟩] w (RetO 3 0 w) := by
  have HS := hid (fun w => rseen_ok n s l f d me k w hk hm)
  rw [hO] at HS
  have HF := hid (fun w => (okF_ok hf ▸ reffcheck_any ⟨fk, ff, fs, fm⟩ w : Calls Try.prog 30 #[fv ⟨fk, ff, fs, fm⟩] w fun e w' => e = .returned (.int .i64 (0 : Nat)) ∧ Below w.heap.size w w'))
  clear hf
  clear hk hm hO
  go_enter Try.func12, Try.ntmps12
  go_wp2_with (first
    | (go_at_call 30; (with_reducible refine (HF.out _).mono ?_); rintro e w4 ⟨rfl, b4⟩; have u4 := u3.keep b4; have c1 : w4.cell? ⟨w1.heap.size, 1, none⟩ = some (.int .i64 ff) := u4.c1; have c2 : w4.cell? ⟨w1.heap.size, 2, none⟩ = some (.int .u64 (fs : Int)) := u4.c2; have c3 : w4.cell? ⟨w1.heap.size, 3, none⟩ = some (.int .u16 (fm : Int)) := u4.c3; have B4 : Hid (Below w.heap.size w w4) := hid (B3.out.trans (b4.mono B3.out.size)))
    | (refine wpList_ldf rfl (.tmp 9) rfl rfl u3 ?_)
    | (go_at_call 29; refine (HS.out _).mono ?_; rintro e w3 ⟨rfl, b3⟩; have u3 := v2.keep b3; have B3 : Hid (Below w.heap.size w w3) := hid (B2.out.trans (b3.mono B2.out.size)))
    | (refine wpList_ldm rfl (.tmp 5) rfl rfl v3 ?_)
    | (refine wpList_boxf (x := ⟨fk, ff, fs, fm⟩) rfl (.tmp 4) rfl rfl ?_; intro w2 v2 b2 s2; have v3 := v1.keep b2; have B2 : Hid (Below w.heap.size w w2) := hid (b1.trans (b2.mono b1.size)))
    | (refine wpList_boxm (x := ⟨n, s, l, f, d⟩) rfl (.tmp 0) rfl rfl ?_; intro w1 v1 b1 s1))
  go_ret2
  exact ⟨rfl, B4.out⟩
theorem rjudge_slot (n s l f d : Int) (me : Nat) (k : Int) (own O : Nat) (fk ff : Int) (fs fm : Nat) (w : World) (hk : 0 ≤ k) (hm : May ⟨n, s, l, f, d⟩ me k) (hO : k % n = (O : Int)) (hf : OkF ⟨fk, ff, fs, fm⟩) (h1 : (ff != (O : Int)) = false) (h2 : ((fs : Int) != k) = true) :
    Calls Try.prog 12 #[mv ⟨n, s, l, f, d⟩, .int .i64 (me : Int), .int .u16 (own : Int), .int .u64 k, fv ⟨fk, ff, fs, fm⟩] w (RetO 3 0 w) := by
  have HS := hid (fun w => rseen_ok n s l f d me k w hk hm)
  rw [hO] at HS
  have HF := hid (fun w => (okF_ok hf ▸ reffcheck_any ⟨fk, ff, fs, fm⟩ w : Calls Try.prog 30 #[fv ⟨fk, ff, fs, fm⟩] w fun e w' => e = .returned (.int .i64 (0 : Nat)) ∧ Below w.heap.size w w'))
  clear hf
  clear hk hm hO
  go_enter Try.func12, Try.ntmps12
  go_wp2_with (first
    | (go_at_call 30; (with_reducible refine (HF.out _).mono ?_); rintro e w4 ⟨rfl, b4⟩; have u4 := u3.keep b4; have c1 : w4.cell? ⟨w1.heap.size, 1, none⟩ = some (.int .i64 ff) := u4.c1; have c2 : w4.cell? ⟨w1.heap.size, 2, none⟩ = some (.int .u64 (fs : Int)) := u4.c2; have c3 : w4.cell? ⟨w1.heap.size, 3, none⟩ = some (.int .u16 (fm : Int)) := u4.c3; have B4 : Hid (Below w.heap.size w w4) := hid (B3.out.trans (b4.mono B3.out.size)))
    | (refine wpList_ldf rfl (.tmp 9) rfl rfl u3 ?_)
    | (go_at_call 29; refine (HS.out _).mono ?_; rintro e w3 ⟨rfl, b3⟩; have u3 := v2.keep b3; have B3 : Hid (Below w.heap.size w w3) := hid (B2.out.trans (b3.mono B2.out.size)))
    | (refine wpList_ldm rfl (.tmp 5) rfl rfl v3 ?_)
    | (refine wpList_boxf (x := ⟨fk, ff, fs, fm⟩) rfl (.tmp 4) rfl rfl ?_; intro w2 v2 b2 s2; have v3 := v1.keep b2; have B2 : Hid (Below w.heap.size w w2) := hid (b1.trans (b2.mono b1.size)))
    | (refine wpList_boxm (x := ⟨n, s, l, f, d⟩) rfl (.tmp 0) rfl rfl ?_; intro w1 v1 b1 s1))
  go_ret2
  exact ⟨rfl, B4.out⟩
theorem rjudge_1 (n s l f d : Int) (me : Nat) (k : Int) (own O : Nat) (fk ff : Int) (fs fm : Nat) (w : World) (hk : 0 ≤ k) (hm : May ⟨n, s, l, f, d⟩ me k) (hO : k % n = (O : Int)) (hf : OkF ⟨fk, ff, fs, fm⟩) (h1 : (ff != (O : Int)) = false) (h2 : ((fs : Int) != k) = false) (ho : own < 65536) (hO2 : O ≤ 15) (h3 : ((fm : Int) == ((addb own O : Nat) : Int)) = true) :
    Calls Try.prog 12 #[mv ⟨n, s, l, f, d⟩, .int .i64 (me : Int), .int .u16 (own : Int), .int .u64 k, fv ⟨fk, ff, fs, fm⟩] w (RetO 1 0 w) := by
  have HS := hid (fun w => rseen_ok n s l f d me k w hk hm)
  rw [hO] at HS
  have HF := hid (fun w => (okF_ok hf ▸ reffcheck_any ⟨fk, ff, fs, fm⟩ w : Calls Try.prog 30 #[fv ⟨fk, ff, fs, fm⟩] w fun e w' => e = .returned (.int .i64 (0 : Nat)) ∧ Below w.heap.size w w'))
  clear hf
  have T1 := hid (fun (w : World) n => Calls.quiet_of_same ((refwith_in own O (w.drewN n) ho hO2).mono fun _ _ => symm_post))
  clear ho hO2
  generalize addb own O = y1 at *
  clear hk hm hO
  go_enter Try.func12, Try.ntmps12
  go_wp2_with (first
    | (go_at_call 30; (with_reducible refine (HF.out _).mono ?_); rintro e w4 ⟨rfl, b4⟩; have u4 := u3.keep b4; have c1 : w4.cell? ⟨w1.heap.size, 1, none⟩ = some (.int .i64 ff) := u4.c1; have c2 : w4.cell? ⟨w1.heap.size, 2, none⟩ = some (.int .u64 (fs : Int)) := u4.c2; have c3 : w4.cell? ⟨w1.heap.size, 3, none⟩ = some (.int .u16 (fm : Int)) := u4.c3; have B4 : Hid (Below w.heap.size w w4) := hid (B3.out.trans (b4.mono B3.out.size)))
    | (refine wpList_ldf rfl (.tmp 9) rfl rfl u3 ?_)
    | (go_at_call 29; refine (HS.out _).mono ?_; rintro e w3 ⟨rfl, b3⟩; have u3 := v2.keep b3; have B3 : Hid (Below w.heap.size w w3) := hid (B2.out.trans (b3.mono B2.out.size)))
    | (refine wpList_ldm rfl (.tmp 5) rfl rfl v3 ?_)
    | (refine wpList_boxf (x := ⟨fk, ff, fs, fm⟩) rfl (.tmp 4) rfl rfl ?_; intro w2 v2 b2 s2; have v3 := v1.keep b2; have B2 : Hid (Below w.heap.size w w2) := hid (b1.trans (b2.mono b1.size)))
    | (refine wpList_boxm (x := ⟨n, s, l, f, d⟩) rfl (.tmp 0) rfl rfl ?_; intro w1 v1 b1 s1))
  go_quiet (first | exact T1.out _ _)
  go_wp2_with fail
  go_ret2
  exact ⟨rfl, bel_drewN B4.out _⟩
theorem rjudge_own (n s l f d : Int) (me : Nat) (k : Int) (own O : Nat) (fk ff : Int) (fs fm : Nat) (w : World) (hk : 0 ≤ k) (hm : May ⟨n, s, l, f, d⟩ me k) (hO : k % n = (O : Int)) (hf : OkF ⟨fk, ff, fs, fm⟩) (h1 : (ff != (O : Int)) = false) (h2 : ((fs : Int) != k) = false) (ho : own < 65536) (hO2 : O ≤ 15) (h3 : ((fm : Int) == ((addb own O : Nat) : Int)) = false) (h4 : ((me : Int) != (O : Int)) = false) :
    Calls Try.prog 12 #[mv ⟨n, s, l, f, d⟩, .int .i64 (me : Int), .int .u16 (own : Int), .int .u64 k, fv ⟨fk, ff, fs, fm⟩] w (RetO 3 0 w) := by
  have HS := hid (fun w => rseen_ok n s l f d me k w hk hm)
  rw [hO] at HS
  have HF := hid (fun w => (okF_ok hf ▸ reffcheck_any ⟨fk, ff, fs, fm⟩ w : Calls Try.prog 30 #[fv ⟨fk, ff, fs, fm⟩] w fun e w' => e = .returned (.int .i64 (0 : Nat)) ∧ Below w.heap.size w w'))
  clear hf
  have T1 := hid (fun (w : World) n => Calls.quiet_of_same ((refwith_in own O (w.drewN n) ho hO2).mono fun _ _ => symm_post))
  clear ho hO2
  generalize addb own O = y1 at *
  clear hk hm hO
  go_enter Try.func12, Try.ntmps12
  go_wp2_with (first
    | (go_at_call 30; (with_reducible refine (HF.out _).mono ?_); rintro e w4 ⟨rfl, b4⟩; have u4 := u3.keep b4; have c1 : w4.cell? ⟨w1.heap.size, 1, none⟩ = some (.int .i64 ff) := u4.c1; have c2 : w4.cell? ⟨w1.heap.size, 2, none⟩ = some (.int .u64 (fs : Int)) := u4.c2; have c3 : w4.cell? ⟨w1.heap.size, 3, none⟩ = some (.int .u16 (fm : Int)) := u4.c3; have B4 : Hid (Below w.heap.size w w4) := hid (B3.out.trans (b4.mono B3.out.size)))
    | (refine wpList_ldf rfl (.tmp 9) rfl rfl u3 ?_)
    | (go_at_call 29; refine (HS.out _).mono ?_; rintro e w3 ⟨rfl, b3⟩; have u3 := v2.keep b3; have B3 : Hid (Below w.heap.size w w3) := hid (B2.out.trans (b3.mono B2.out.size)))
    | (refine wpList_ldm rfl (.tmp 5) rfl rfl v3 ?_)
    | (refine wpList_boxf (x := ⟨fk, ff, fs, fm⟩) rfl (.tmp 4) rfl rfl ?_; intro w2 v2 b2 s2; have v3 := v1.keep b2; have B2 : Hid (Below w.heap.size w w2) := hid (b1.trans (b2.mono b1.size)))
    | (refine wpList_boxm (x := ⟨n, s, l, f, d⟩) rfl (.tmp 0) rfl rfl ?_; intro w1 v1 b1 s1))
  go_quiet (first | exact T1.out _ _)
  have u5 := u4.keep (bel_drewN (Below.refl _ _) nq)
  have B5 : Hid (Below w.heap.size w (w4.drewN nq)) := hid (bel_drewN B4.out nq)
  have d3 : (w4.drewN nq).cell? ⟨w1.heap.size, 3, none⟩ = some (.int .u16 (fm : Int)) := u5.c3
  clear u5 T1
  generalize w4.drewN nq = w5 at *
  clear u4 c1 c2 c3 b4 B4
  go_wp2_with fail
  go_quiet (fail)
  go_wp2_with fail
  go_ret2
  exact ⟨rfl, bel_drewN B5.out _⟩
theorem rjudge_out (n s l f d : Int) (me : Nat) (k : Int) (own O : Nat) (fk ff : Int) (fs fm : Nat) (w : World) (hk : 0 ≤ k) (hm : May ⟨n, s, l, f, d⟩ me k) (hO : k % n = (O : Int)) (hf : OkF ⟨fk, ff, fs, fm⟩) (h1 : (ff != (O : Int)) = false) (h2 : ((fs : Int) != k) = false) (ho : own < 65536) (hO2 : O ≤ 15) (h3 : ((fm : Int) == ((addb own O : Nat) : Int)) = false) (h4 : ((me : Int) != (O : Int)) = true) (h5 : hs own me = false) :
    Calls Try.prog 12 #[mv ⟨n, s, l, f, d⟩, .int .i64 (me : Int), .int .u16 (own : Int), .int .u64 k, fv ⟨fk, ff, fs, fm⟩] w (RetO 3 0 w) := by
  have HS := hid (fun w => rseen_ok n s l f d me k w hk hm)
  rw [hO] at HS
  have HF := hid (fun w => (okF_ok hf ▸ reffcheck_any ⟨fk, ff, fs, fm⟩ w : Calls Try.prog 30 #[fv ⟨fk, ff, fs, fm⟩] w fun e w' => e = .returned (.int .i64 (0 : Nat)) ∧ Below w.heap.size w w'))
  clear hf
  have hM : me ≤ 15 := by have a := hm.2.2.2; have b := hm.1.2.1; simp only at a b; omega
  have T1 := hid (fun (w : World) n => Calls.quiet_of_same ((refwith_in own O (w.drewN n) ho hO2).mono fun _ _ => symm_post))
  have T2 := hid (fun (w : World) n => Calls.quiet_of_same ((refhas_in own me (w.drewN n) ho hM).mono fun _ _ => symm_post))
  rw [h5] at T2
  clear ho hO2 hM
  generalize addb own O = y1 at *
  clear hk hm hO
  go_enter Try.func12, Try.ntmps12
  go_wp2_with (first
    | (go_at_call 30; (with_reducible refine (HF.out _).mono ?_); rintro e w4 ⟨rfl, b4⟩; have u4 := u3.keep b4; have c1 : w4.cell? ⟨w1.heap.size, 1, none⟩ = some (.int .i64 ff) := u4.c1; have c2 : w4.cell? ⟨w1.heap.size, 2, none⟩ = some (.int .u64 (fs : Int)) := u4.c2; have c3 : w4.cell? ⟨w1.heap.size, 3, none⟩ = some (.int .u16 (fm : Int)) := u4.c3; have B4 : Hid (Below w.heap.size w w4) := hid (B3.out.trans (b4.mono B3.out.size)))
    | (refine wpList_ldf rfl (.tmp 9) rfl rfl u3 ?_)
    | (go_at_call 29; refine (HS.out _).mono ?_; rintro e w3 ⟨rfl, b3⟩; have u3 := v2.keep b3; have B3 : Hid (Below w.heap.size w w3) := hid (B2.out.trans (b3.mono B2.out.size)))
    | (refine wpList_ldm rfl (.tmp 5) rfl rfl v3 ?_)
    | (refine wpList_boxf (x := ⟨fk, ff, fs, fm⟩) rfl (.tmp 4) rfl rfl ?_; intro w2 v2 b2 s2; have v3 := v1.keep b2; have B2 : Hid (Below w.heap.size w w2) := hid (b1.trans (b2.mono b1.size)))
    | (refine wpList_boxm (x := ⟨n, s, l, f, d⟩) rfl (.tmp 0) rfl rfl ?_; intro w1 v1 b1 s1))
  go_quiet (first | exact T1.out _ _)
  have u5 := u4.keep (bel_drewN (Below.refl _ _) nq)
  have B5 : Hid (Below w.heap.size w (w4.drewN nq)) := hid (bel_drewN B4.out nq)
  have d3 : (w4.drewN nq).cell? ⟨w1.heap.size, 3, none⟩ = some (.int .u16 (fm : Int)) := u5.c3
  clear u5 T1
  generalize w4.drewN nq = w5 at *
  clear u4 c1 c2 c3 b4 B4
  go_wp2_with fail
  go_quiet (first | exact T2.out _ _)
  go_wp2_with fail
  go_ret2
  exact ⟨rfl, bel_drewN B5.out _⟩
theorem rjudge_2 (n s l f d : Int) (me : Nat) (k : Int) (own O : Nat) (fk ff : Int) (fs fm : Nat) (w : World) (hk : 0 ≤ k) (hm : May ⟨n, s, l, f, d⟩ me k) (hO : k % n = (O : Int)) (hf : OkF ⟨fk, ff, fs, fm⟩) (h1 : (ff != (O : Int)) = false) (h2 : ((fs : Int) != k) = false) (ho : own < 65536) (hO2 : O ≤ 15) (h3 : ((fm : Int) == ((addb own O : Nat) : Int)) = false) (h4 : ((me : Int) != (O : Int)) = true) (h5 : hs own me = true) (h6 : ((fm : Int) == ((addb (subb own me) O : Nat) : Int)) = true) :
    Calls Try.prog 12 #[mv ⟨n, s, l, f, d⟩, .int .i64 (me : Int), .int .u16 (own : Int), .int .u64 k, fv ⟨fk, ff, fs, fm⟩] w (RetO 2 0 w) := by
  have HS := hid (fun w => rseen_ok n s l f d me k w hk hm)
  rw [hO] at HS
  have HF := hid (fun w => (okF_ok hf ▸ reffcheck_any ⟨fk, ff, fs, fm⟩ w : Calls Try.prog 30 #[fv ⟨fk, ff, fs, fm⟩] w fun e w' => e = .returned (.int .i64 (0 : Nat)) ∧ Below w.heap.size w w'))
  clear hf
  have hM : me ≤ 15 := by have a := hm.2.2.2; have b := hm.1.2.1; simp only at a b; omega
  have T1 := hid (fun (w : World) n => Calls.quiet_of_same ((refwith_in own O (w.drewN n) ho hO2).mono fun _ _ => symm_post))
  have T2 := hid (fun (w : World) n => Calls.quiet_of_same ((refhas_in own me (w.drewN n) ho hM).mono fun _ _ => symm_post))
  rw [h5] at T2
  have T3 := hid (fun (w : World) n => Calls.quiet_of_same ((refwithout_in own me (w.drewN n) ho hM).mono fun _ _ => symm_post))
  have hs2 := Nat.lt_of_le_of_lt (subb_le own me) ho
  have T4 := hid (fun (w : World) n => Calls.quiet_of_same ((refwith_in (subb own me) O (w.drewN n) hs2 hO2).mono fun _ _ => symm_post))
  clear ho hO2 hM hs2
  generalize addb own O = y1 at *
  generalize addb (subb own me) O = y2 at *
  generalize subb own me = y3 at *
  clear hk hm hO
  go_enter Try.func12, Try.ntmps12
  go_wp2_with (first
    | (go_at_call 30; (with_reducible refine (HF.out _).mono ?_); rintro e w4 ⟨rfl, b4⟩; have u4 := u3.keep b4; have c1 : w4.cell? ⟨w1.heap.size, 1, none⟩ = some (.int .i64 ff) := u4.c1; have c2 : w4.cell? ⟨w1.heap.size, 2, none⟩ = some (.int .u64 (fs : Int)) := u4.c2; have c3 : w4.cell? ⟨w1.heap.size, 3, none⟩ = some (.int .u16 (fm : Int)) := u4.c3; have B4 : Hid (Below w.heap.size w w4) := hid (B3.out.trans (b4.mono B3.out.size)))
    | (refine wpList_ldf rfl (.tmp 9) rfl rfl u3 ?_)
    | (go_at_call 29; refine (HS.out _).mono ?_; rintro e w3 ⟨rfl, b3⟩; have u3 := v2.keep b3; have B3 : Hid (Below w.heap.size w w3) := hid (B2.out.trans (b3.mono B2.out.size)))
    | (refine wpList_ldm rfl (.tmp 5) rfl rfl v3 ?_)
    | (refine wpList_boxf (x := ⟨fk, ff, fs, fm⟩) rfl (.tmp 4) rfl rfl ?_; intro w2 v2 b2 s2; have v3 := v1.keep b2; have B2 : Hid (Below w.heap.size w w2) := hid (b1.trans (b2.mono b1.size)))
    | (refine wpList_boxm (x := ⟨n, s, l, f, d⟩) rfl (.tmp 0) rfl rfl ?_; intro w1 v1 b1 s1))
  go_quiet (first | exact T1.out _ _)
  have u5 := u4.keep (bel_drewN (Below.refl _ _) nq)
  have B5 : Hid (Below w.heap.size w (w4.drewN nq)) := hid (bel_drewN B4.out nq)
  have d3 : (w4.drewN nq).cell? ⟨w1.heap.size, 3, none⟩ = some (.int .u16 (fm : Int)) := u5.c3
  clear u5 T1
  generalize w4.drewN nq = w5 at *
  clear u4 c1 c2 c3 b4 B4
  go_wp2_with fail
  go_quiet (first | exact T2.out _ _ | exact T3.out _ _ | exact T4.out _ _)
  go_wp2_with fail
  go_ret2
  exact ⟨rfl, bel_drewN B5.out _⟩
theorem rjudge_3 (n s l f d : Int) (me : Nat) (k : Int) (own O : Nat) (fk ff : Int) (fs fm : Nat) (w : World) (hk : 0 ≤ k) (hm : May ⟨n, s, l, f, d⟩ me k) (hO : k % n = (O : Int)) (hf : OkF ⟨fk, ff, fs, fm⟩) (h1 : (ff != (O : Int)) = false) (h2 : ((fs : Int) != k) = false) (ho : own < 65536) (hO2 : O ≤ 15) (h3 : ((fm : Int) == ((addb own O : Nat) : Int)) = false) (h4 : ((me : Int) != (O : Int)) = true) (h5 : hs own me = true) (h6 : ((fm : Int) == ((addb (subb own me) O : Nat) : Int)) = false) :
    Calls Try.prog 12 #[mv ⟨n, s, l, f, d⟩, .int .i64 (me : Int), .int .u16 (own : Int), .int .u64 k, fv ⟨fk, ff, fs, fm⟩] w (RetO 3 0 w) := by
  have HS := hid (fun w => rseen_ok n s l f d me k w hk hm)
  rw [hO] at HS
  have HF := hid (fun w => (okF_ok hf ▸ reffcheck_any ⟨fk, ff, fs, fm⟩ w : Calls Try.prog 30 #[fv ⟨fk, ff, fs, fm⟩] w fun e w' => e = .returned (.int .i64 (0 : Nat)) ∧ Below w.heap.size w w'))
  clear hf
  have hM : me ≤ 15 := by have a := hm.2.2.2; have b := hm.1.2.1; simp only at a b; omega
  have T1 := hid (fun (w : World) n => Calls.quiet_of_same ((refwith_in own O (w.drewN n) ho hO2).mono fun _ _ => symm_post))
  have T2 := hid (fun (w : World) n => Calls.quiet_of_same ((refhas_in own me (w.drewN n) ho hM).mono fun _ _ => symm_post))
  rw [h5] at T2
  have T3 := hid (fun (w : World) n => Calls.quiet_of_same ((refwithout_in own me (w.drewN n) ho hM).mono fun _ _ => symm_post))
  have hs2 := Nat.lt_of_le_of_lt (subb_le own me) ho
  have T4 := hid (fun (w : World) n => Calls.quiet_of_same ((refwith_in (subb own me) O (w.drewN n) hs2 hO2).mono fun _ _ => symm_post))
  clear ho hO2 hM hs2
  generalize addb own O = y1 at *
  generalize addb (subb own me) O = y2 at *
  generalize subb own me = y3 at *
  clear hk hm hO
  go_enter Try.func12, Try.ntmps12
  go_wp2_with (first
    | (go_at_call 30; (with_reducible refine (HF.out _).mono ?_); rintro e w4 ⟨rfl, b4⟩; have u4 := u3.keep b4; have c1 : w4.cell? ⟨w1.heap.size, 1, none⟩ = some (.int .i64 ff) := u4.c1; have c2 : w4.cell? ⟨w1.heap.size, 2, none⟩ = some (.int .u64 (fs : Int)) := u4.c2; have c3 : w4.cell? ⟨w1.heap.size, 3, none⟩ = some (.int .u16 (fm : Int)) := u4.c3; have B4 : Hid (Below w.heap.size w w4) := hid (B3.out.trans (b4.mono B3.out.size)))
    | (refine wpList_ldf rfl (.tmp 9) rfl rfl u3 ?_)
    | (go_at_call 29; refine (HS.out _).mono ?_; rintro e w3 ⟨rfl, b3⟩; have u3 := v2.keep b3; have B3 : Hid (Below w.heap.size w w3) := hid (B2.out.trans (b3.mono B2.out.size)))
    | (refine wpList_ldm rfl (.tmp 5) rfl rfl v3 ?_)
    | (refine wpList_boxf (x := ⟨fk, ff, fs, fm⟩) rfl (.tmp 4) rfl rfl ?_; intro w2 v2 b2 s2; have v3 := v1.keep b2; have B2 : Hid (Below w.heap.size w w2) := hid (b1.trans (b2.mono b1.size)))
    | (refine wpList_boxm (x := ⟨n, s, l, f, d⟩) rfl (.tmp 0) rfl rfl ?_; intro w1 v1 b1 s1))
  go_quiet (first | exact T1.out _ _)
  have u5 := u4.keep (bel_drewN (Below.refl _ _) nq)
  have B5 : Hid (Below w.heap.size w (w4.drewN nq)) := hid (bel_drewN B4.out nq)
  have d3 : (w4.drewN nq).cell? ⟨w1.heap.size, 3, none⟩ = some (.int .u16 (fm : Int)) := u5.c3
  clear u5 T1
  generalize w4.drewN nq = w5 at *
  clear u4 c1 c2 c3 b4 B4
  go_wp2_with fail
  go_quiet (first | exact T2.out _ _ | exact T3.out _ _ | exact T4.out _ _)
  go_wp2_with fail
  go_ret2
  exact ⟨rfl, bel_drewN B5.out _⟩
/-! ### Both, at every schedule, node, slot and frame -/
/-- Whose slot k is; what a frame is; what Judge answers. -/
def slO (x : Md) (k : Int) : Nat := (k % x.n).toNat
def jV (O me : Nat) (k : Int) (own : Nat) (y : Fr) : Int := if y.f = (O : Int) ∧ (y.s : Int) = k then (if y.m = addb own O then 1 else if y.m = addb (subb own me) O then 2 else 3) else 3
def judV (x : Md) (me k : Int) (own : Nat) (y : Fr) : Int := if May x me k ∧ OkF y then jV (slO x k) me.toNat k own y else 0
def judE (x : Md) (me k : Int) (y : Fr) : Int := if May x me k ∧ OkF y then 0 else 1
theorem slO_cast (x : Md) (me k : Int) (h : May x me k) : k % x.n = (slO x k : Int) ∧ slO x k ≤ 15 ∧ (slO x k : Int) < x.n ∧ (me.toNat : Int) = me ∧ me.toNat ≤ 15 := by
  have h2 := h.1.1; have h3 := h.1.2.1; have h4 := h.2.2.1; have h5 := h.2.2.2
  have a1 := Int.emod_nonneg k (show x.n ≠ 0 by omega)
  have a2 := Int.emod_lt_of_pos k (show 0 < x.n by omega)
  unfold slO
  omega
theorem addb_sub (m k : Nat) : addb (subb m k) k = addb m k := by
  refine Nat.eq_of_testBit_eq fun j => ?_
  rw [addb_bit, addb_bit, subb_bit]
  by_cases e : k = j <;> simp [e]
theorem subb_no (m k : Nat) (h : hs m k = false) : subb m k = m := by unfold subb; rw [h]; rfl
theorem bne_f {a b : Int} (h : a = b) : (a != b) = false := by rw [h]; simp
theorem bne_t {a b : Int} (h : a ≠ b) : (a != b) = true := by rw [bne_iff_ne]; exact h
theorem beq_t {a b : Nat} (h : a = b) : ((a : Int) == (b : Int)) = true := by rw [h]; simp
theorem beq_f {a b : Nat} (h : a ≠ b) : ((a : Int) == (b : Int)) = false := by rw [beq_eq_false_iff_ne]; omega
theorem judge_any (x : Md) (me k : Int) (own : Nat) (y : Fr) (w : World) (hk : 0 ≤ k) (ho : own < 65536) :
    Calls Try.prog 11 #[mv x, .int .i64 me, .int .u16 (own : Int), .int .u64 k, fv y] w (RetO (judV x me k own y) (judE x me k y) w) := by
  by_cases hm : May x me k
  · obtain ⟨n, s, l, f, d⟩ := x
    obtain ⟨fk, ff, fs, fm⟩ := y
    obtain ⟨h1, h2, h3, h4, h5⟩ := slO_cast _ me k hm
    by_cases hf : OkF ⟨fk, ff, fs, fm⟩
    · unfold judV judE
      rw [if_pos ⟨hm, hf⟩, if_pos ⟨hm, hf⟩]
      rw [← h4] at hm ⊢
      show Calls _ _ _ _ (RetO (jV _ me.toNat k own _) 0 w)
      generalize me.toNat = M at *
      generalize slO ⟨n, s, l, f, d⟩ k = O at *
      unfold jV
      by_cases c1 : ff = (O : Int)
      · by_cases c2 : (fs : Int) = k
        · rw [if_pos ⟨c1, c2⟩]
          by_cases c3 : fm = addb own O
          · rw [if_pos c3]; exact judge_1 n s l f d M k own O fk ff fs fm w hk hm h1 hf (bne_f c1) (bne_f c2) ho h2 (beq_t c3)
          · rw [if_neg c3]
            by_cases c4 : fm = addb (subb own M) O
            · rw [if_pos c4]; exact judge_2 n s l f d M k own O fk ff fs fm w hk hm h1 hf (bne_f c1) (bne_f c2) ho h2 (beq_f c3) (beq_t c4)
            · rw [if_neg c4]; exact judge_3 n s l f d M k own O fk ff fs fm w hk hm h1 hf (bne_f c1) (bne_f c2) ho h2 (beq_f c3) (beq_f c4)
        · rw [if_neg fun h => c2 h.2]; exact judge_slot n s l f d M k own O fk ff fs fm w hk hm h1 hf (bne_f c1) (bne_t c2)
      · rw [if_neg fun h => c1 h.1]; exact judge_from n s l f d M k own O fk ff fs fm w hk hm h1 hf (bne_t c1)
    · unfold judV judE
      rw [if_neg fun h => hf h.2, if_neg fun h => hf h.2]
      rw [← h4] at hm ⊢
      exact judge_frame n s l f d _ k own _ fk ff fs fm w hk hm h1 hf
  · unfold judV judE
    rw [if_neg fun h => hm h.1, if_neg fun h => hm h.1]
    exact judge_no x me k own y w hk hm
theorem rjudge_any (x : Md) (me k : Int) (own : Nat) (y : Fr) (w : World) (hk : 0 ≤ k) (ho : own < 65536) :
    Calls Try.prog 12 #[mv x, .int .i64 me, .int .u16 (own : Int), .int .u64 k, fv y] w (RetO (judV x me k own y) (judE x me k y) w) := by
  by_cases hm : May x me k
  · obtain ⟨n, s, l, f, d⟩ := x
    obtain ⟨fk, ff, fs, fm⟩ := y
    obtain ⟨h1, h2, h3, h4, h5⟩ := slO_cast _ me k hm
    by_cases hf : OkF ⟨fk, ff, fs, fm⟩
    · unfold judV judE
      rw [if_pos ⟨hm, hf⟩, if_pos ⟨hm, hf⟩]
      rw [← h4] at hm ⊢
      show Calls _ _ _ _ (RetO (jV _ me.toNat k own _) 0 w)
      generalize me.toNat = M at *
      generalize slO ⟨n, s, l, f, d⟩ k = O at *
      unfold jV
      by_cases c1 : ff = (O : Int)
      · by_cases c2 : (fs : Int) = k
        · rw [if_pos ⟨c1, c2⟩]
          by_cases c3 : fm = addb own O
          · rw [if_pos c3]; exact rjudge_1 n s l f d M k own O fk ff fs fm w hk hm h1 hf (bne_f c1) (bne_f c2) ho h2 (beq_t c3)
          · rw [if_neg c3]
            by_cases c5 : M = O
            · subst c5
              rw [addb_sub, if_neg c3]; exact rjudge_own n s l f d M k own M fk ff fs fm w hk hm h1 hf (bne_f c1) (bne_f c2) ho h2 (beq_f c3) (bne_f rfl)
            · have c6 : ((M : Int) != (O : Int)) = true := bne_t (by omega)
              cases c7 : hs own M with
              | false => rw [subb_no _ _ c7, if_neg c3]; exact rjudge_out n s l f d M k own O fk ff fs fm w hk hm h1 hf (bne_f c1) (bne_f c2) ho h2 (beq_f c3) c6 c7
              | true =>
                by_cases c4 : fm = addb (subb own M) O
                · rw [if_pos c4]; exact rjudge_2 n s l f d M k own O fk ff fs fm w hk hm h1 hf (bne_f c1) (bne_f c2) ho h2 (beq_f c3) c6 c7 (beq_t c4)
                · rw [if_neg c4]; exact rjudge_3 n s l f d M k own O fk ff fs fm w hk hm h1 hf (bne_f c1) (bne_f c2) ho h2 (beq_f c3) c6 c7 (beq_f c4)
        · rw [if_neg fun h => c2 h.2]; exact rjudge_slot n s l f d M k own O fk ff fs fm w hk hm h1 hf (bne_f c1) (bne_t c2)
      · rw [if_neg fun h => c1 h.1]; exact rjudge_from n s l f d M k own O fk ff fs fm w hk hm h1 hf (bne_t c1)
    · unfold judV judE
      rw [if_neg fun h => hf h.2, if_neg fun h => hf h.2]
      rw [← h4] at hm ⊢
      exact rjudge_frame n s l f d _ k own _ fk ff fs fm w hk hm h1 hf
  · unfold judV judE
    rw [if_neg fun h => hm h.1, if_neg fun h => hm h.1]
    exact rjudge_no x me k own y w hk hm
end Go.Proofs.Ytbfaebobainhjaa
