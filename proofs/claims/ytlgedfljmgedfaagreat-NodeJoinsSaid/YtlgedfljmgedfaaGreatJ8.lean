/-
  Texts Md of this seat, as far as they are used.
-/
import Derived.Test.YtlgedfljmgedfaaGreatJ7
namespace Go.Proofs.YtlgedfljmgedfaaGreat.M10
open Go Go.RowKit Go.Maps
end Go.Proofs.YtlgedfljmgedfaaGreat.M10
namespace Go.Proofs.YtlgedfljmgedfaaGreat.M10
open Go Go.RowKit Go.Maps
/-- What medl.Owner gives. -/
def RetO (O E : Int) (w : World) (e : Ending) (w' : World) : Prop := e = .returned (.tuple #[.int .i64 O, .int .i64 E]) ∧ Below w.heap.size w w'
def owO (x : Md) (k : Int) : Int := if Ok x ∧ k ≤ 4294967296 then k % x.n else 0
def owE (x : Md) (k : Int) : Int := if Ok x ∧ k ≤ 4294967296 then 0 else 1
/-- A schedule, a node and a slot that may be. -/
def May (x : Md) (me k : Int) : Prop := Ok x ∧ k ≤ 4294967296 ∧ 0 ≤ me ∧ me < x.n
instance (x : Md) (me k : Int) : Decidable (May x me k) := by unfold May; infer_instance
theorem seen_ok (n s l f d me k : Int) (w : World) (hk : 0 ≤ k) (h : May ⟨n, s, l, f, d⟩ me k) : Calls Tryz.prog 136 #[mv ⟨n, s, l, f, d⟩, .int .i64 me, .int .u64 k] w (RetO (k % n) 0 w) := by
  obtain ⟨hx, h4, h1, h2⟩ := h
  simp only at h2
  have HO := hid (fun w => own_ok n s l f d k _ w hx hk h4 rfl)
  clear hx h4 hk
  generalize k % n = O at *
  go_enter Tryz.func136, Tryz.ntmps136
  go_wp2_with (first
    | (go_at_call 25; refine (HO.out _).mono ?_; rintro e w2 ⟨rfl, b2⟩; have c0 : w2.cell? ⟨w.heap.size, 0, none⟩ = some (.int .i64 n) := (v1.keep b2).c0; have B2 : Hid (Below w.heap.size w w2) := hid (b1.trans (b2.mono b1.size)))
    | (refine wpList_ldm rfl (.tmp 3) rfl rfl v1 ?_)
    | (refine wpList_boxm (x := ⟨n, s, l, f, d⟩) rfl (.tmp 0) rfl rfl ?_; intro w1 v1 b1 s1))
  go_ret2
  exact ⟨rfl, B2.out⟩
theorem seen_me (n s l f d me k : Int) (w : World) (hk : 0 ≤ k) (hx : Ok ⟨n, s, l, f, d⟩) (h4 : k ≤ 4294967296) (h : me < 0 ∨ n ≤ me) : Calls Tryz.prog 136 #[mv ⟨n, s, l, f, d⟩, .int .i64 me, .int .u64 k] w (RetO 0 1 w) := by
  have HO := hid (fun w => own_ok n s l f d k _ w hx hk h4 rfl)
  clear hx h4 hk
  generalize k % n = O at *
  rcases h with h | h
  · go_enter Tryz.func136, Tryz.ntmps136
    go_wp2_with (first
      | (go_at_call 25; refine (HO.out _).mono ?_; rintro e w2 ⟨rfl, b2⟩; have c0 : w2.cell? ⟨w.heap.size, 0, none⟩ = some (.int .i64 n) := (v1.keep b2).c0; have B2 : Hid (Below w.heap.size w w2) := hid (b1.trans (b2.mono b1.size)))
      | (refine wpList_ldm rfl (.tmp 3) rfl rfl v1 ?_)
      | (refine wpList_boxm (x := ⟨n, s, l, f, d⟩) rfl (.tmp 0) rfl rfl ?_; intro w1 v1 b1 s1))
    go_ret2
    exact ⟨rfl, B2.out⟩
  · by_cases h0 : 0 ≤ me
    · go_enter Tryz.func136, Tryz.ntmps136
      go_wp2_with (first
        | (go_at_call 25; refine (HO.out _).mono ?_; rintro e w2 ⟨rfl, b2⟩; have c0 : w2.cell? ⟨w.heap.size, 0, none⟩ = some (.int .i64 n) := (v1.keep b2).c0; have B2 : Hid (Below w.heap.size w w2) := hid (b1.trans (b2.mono b1.size)))
        | (refine wpList_ldm rfl (.tmp 3) rfl rfl v1 ?_)
        | (refine wpList_boxm (x := ⟨n, s, l, f, d⟩) rfl (.tmp 0) rfl rfl ?_; intro w1 v1 b1 s1))
      go_ret2
      exact ⟨rfl, B2.out⟩
    · go_enter Tryz.func136, Tryz.ntmps136
      go_wp2_with (first
        | (go_at_call 25; refine (HO.out _).mono ?_; rintro e w2 ⟨rfl, b2⟩; have c0 : w2.cell? ⟨w.heap.size, 0, none⟩ = some (.int .i64 n) := (v1.keep b2).c0; have B2 : Hid (Below w.heap.size w w2) := hid (b1.trans (b2.mono b1.size)))
        | (refine wpList_ldm rfl (.tmp 3) rfl rfl v1 ?_)
        | (refine wpList_boxm (x := ⟨n, s, l, f, d⟩) rfl (.tmp 0) rfl rfl ?_; intro w1 v1 b1 s1))
      go_ret2
      exact ⟨rfl, B2.out⟩
theorem seen_bad (x : Md) (me k : Int) (w : World) (h : ¬ (Ok x ∧ k ≤ 4294967296)) : Calls Tryz.prog 136 #[mv x, .int .i64 me, .int .u64 k] w (RetO 0 1 w) := by
  have HO := hid (fun w => own_bad x k w h)
  clear h
  go_enter Tryz.func136, Tryz.ntmps136
  go_wp2_with (first
    | (go_at_call 25; refine (HO.out _).mono ?_; rintro e w2 ⟨rfl, b2⟩; have B2 : Hid (Below w.heap.size w w2) := hid (b1.trans (b2.mono b1.size)))
    | (refine wpList_ldm rfl (.tmp 3) rfl rfl v1 ?_)
    | (refine wpList_boxm (x := x) rfl (.tmp 0) rfl rfl ?_; intro w1 v1 b1 s1))
  go_ret2
  exact ⟨rfl, B2.out⟩
theorem seen_no (x : Md) (me k : Int) (w : World) (hk : 0 ≤ k) (h : ¬ May x me k) : Calls Tryz.prog 136 #[mv x, .int .i64 me, .int .u64 k] w (RetO 0 1 w) := by
  by_cases h1 : Ok x ∧ k ≤ 4294967296
  · obtain ⟨n, s, l, f, d⟩ := x
    refine seen_me n s l f d me k w hk h1.1 h1.2 ?_
    unfold May at h
    simp only at h
    by_cases a : me < 0
    · exact .inl a
    · exact .inr (Int.not_lt.1 fun c => h ⟨h1.1, h1.2, by omega, c⟩)
  · exact seen_bad x me k w h1
/-! ### The document's own -/
def RetB (O : Int) (b : Bool) (w : World) (e : Ending) (w' : World) : Prop := e = .returned (.tuple #[.int .i64 O, .bool b]) ∧ Below w.heap.size w w'
def RetN (w : World) (e : Ending) (w' : World) : Prop := ∃ O, RetB O false w e w'
end Go.Proofs.YtlgedfljmgedfaaGreat.M10
namespace Go.Proofs.YtlgedfljmgedfaaGreat.M10
open Go Go.RowKit Go.Maps
theorem judge_frame (n s l f d : Int) (me : Nat) (k : Int) (own O : Nat) (fk ff : Int) (fs fm : Nat) (w : World) (hk : 0 ≤ k) (hm : May ⟨n, s, l, f, d⟩ me k) (hO : k % n = (O : Int)) (hf : ¬ OkF ⟨fk, ff, fs, fm⟩) :
    Calls Tryz.prog 95 #[mv ⟨n, s, l, f, d⟩, .int .i64 (me : Int), .int .u16 (own : Int), .int .u64 k, fv ⟨fk, ff, fs, fm⟩] w (RetO 0 1 w) := by
  have HS := hid (fun w => seen_ok n s l f d me k w hk hm)
  rw [hO] at HS
  have HF := hid (fun w => (okF_bad hf ▸ fcheck_any ⟨fk, ff, fs, fm⟩ w : Calls Tryz.prog 61 #[fv ⟨fk, ff, fs, fm⟩] w fun e w' => e = .returned (.int .i64 (1 : Nat)) ∧ Below w.heap.size w w'))
  clear hk hm hO
  go_enter Tryz.func95, Tryz.ntmps95
  go_wp2_with (first
    | (go_at_call 61; (with_reducible refine (HF.out _).mono ?_); rintro e w4 ⟨rfl, b4⟩; have u4 := u3.keep b4; have c1 : w4.cell? ⟨w1.heap.size, 1, none⟩ = some (.int .i64 ff) := u4.c1; have c2 : w4.cell? ⟨w1.heap.size, 2, none⟩ = some (.int .u64 (fs : Int)) := u4.c2; have c3 : w4.cell? ⟨w1.heap.size, 3, none⟩ = some (.int .u16 (fm : Int)) := u4.c3; have B4 : Hid (Below w.heap.size w w4) := hid (B3.out.trans (b4.mono B3.out.size)))
    | (refine wpList_ldf rfl (.tmp 9) rfl rfl u3 ?_)
    | (go_at_call 136; refine (HS.out _).mono ?_; rintro e w3 ⟨rfl, b3⟩; have u3 := v2.keep b3; have B3 : Hid (Below w.heap.size w w3) := hid (B2.out.trans (b3.mono B2.out.size)))
    | (refine wpList_ldm rfl (.tmp 5) rfl rfl v3 ?_)
    | (refine wpList_boxf (x := ⟨fk, ff, fs, fm⟩) rfl (.tmp 4) rfl rfl ?_; intro w2 v2 b2 s2; have v3 := v1.keep b2; have B2 : Hid (Below w.heap.size w w2) := hid (b1.trans (b2.mono b1.size)))
    | (refine wpList_boxm (x := ⟨n, s, l, f, d⟩) rfl (.tmp 0) rfl rfl ?_; intro w1 v1 b1 s1))
  go_ret2
  exact ⟨rfl, B4.out⟩
theorem judge_from (n s l f d : Int) (me : Nat) (k : Int) (own O : Nat) (fk ff : Int) (fs fm : Nat) (w : World) (hk : 0 ≤ k) (hm : May ⟨n, s, l, f, d⟩ me k) (hO : k % n = (O : Int)) (hf : OkF ⟨fk, ff, fs, fm⟩) (h1 : (ff != (O : Int)) = true) :
    Calls Tryz.prog 95 #[mv ⟨n, s, l, f, d⟩, .int .i64 (me : Int), .int .u16 (own : Int), .int .u64 k, fv ⟨fk, ff, fs, fm⟩] w (RetO 3 0 w) := by
  have HS := hid (fun w => seen_ok n s l f d me k w hk hm)
  rw [hO] at HS
  have HF := hid (fun w => (okF_ok hf ▸ fcheck_any ⟨fk, ff, fs, fm⟩ w : Calls Tryz.prog 61 #[fv ⟨fk, ff, fs, fm⟩] w fun e w' => e = .returned (.int .i64 (0 : Nat)) ∧ Below w.heap.size w w'))
  clear hf
  clear hk hm hO
  go_enter Tryz.func95, Tryz.ntmps95
  go_wp2_with (first
    | (go_at_call 61; (with_reducible refine (HF.out _).mono ?_); rintro e w4 ⟨rfl, b4⟩; have u4 := u3.keep b4; have c1 : w4.cell? ⟨w1.heap.size, 1, none⟩ = some (.int .i64 ff) := u4.c1; have c2 : w4.cell? ⟨w1.heap.size, 2, none⟩ = some (.int .u64 (fs : Int)) := u4.c2; have c3 : w4.cell? ⟨w1.heap.size, 3, none⟩ = some (.int .u16 (fm : Int)) := u4.c3; have B4 : Hid (Below w.heap.size w w4) := hid (B3.out.trans (b4.mono B3.out.size)))
    | (refine wpList_ldf rfl (.tmp 9) rfl rfl u3 ?_)
    | (go_at_call 136; refine (HS.out _).mono ?_; rintro e w3 ⟨rfl, b3⟩; have u3 := v2.keep b3; have B3 : Hid (Below w.heap.size w w3) := hid (B2.out.trans (b3.mono B2.out.size)))
    | (refine wpList_ldm rfl (.tmp 5) rfl rfl v3 ?_)
    | (refine wpList_boxf (x := ⟨fk, ff, fs, fm⟩) rfl (.tmp 4) rfl rfl ?_; intro w2 v2 b2 s2; have v3 := v1.keep b2; have B2 : Hid (Below w.heap.size w w2) := hid (b1.trans (b2.mono b1.size)))
    | (refine wpList_boxm (x := ⟨n, s, l, f, d⟩) rfl (.tmp 0) rfl rfl ?_; intro w1 v1 b1 s1))
  go_ret2
  exact ⟨rfl, B4.out⟩
theorem judge_slot (n s l f d : Int) (me : Nat) (k : Int) (own O : Nat) (fk ff : Int) (fs fm : Nat) (w : World) (hk : 0 ≤ k) (hm : May ⟨n, s, l, f, d⟩ me k) (hO : k % n = (O : Int)) (hf : OkF ⟨fk, ff, fs, fm⟩) (h1 : (ff != (O : Int)) = false) (h2 : ((fs : Int) != k) = true) :
    Calls Tryz.prog 95 #[mv ⟨n, s, l, f, d⟩, .int .i64 (me : Int), .int .u16 (own : Int), .int .u64 k, fv ⟨fk, ff, fs, fm⟩] w (RetO 3 0 w) := by
  have HS := hid (fun w => seen_ok n s l f d me k w hk hm)
  rw [hO] at HS
  have HF := hid (fun w => (okF_ok hf ▸ fcheck_any ⟨fk, ff, fs, fm⟩ w : Calls Tryz.prog 61 #[fv ⟨fk, ff, fs, fm⟩] w fun e w' => e = .returned (.int .i64 (0 : Nat)) ∧ Below w.heap.size w w'))
  clear hf
  clear hk hm hO
  go_enter Tryz.func95, Tryz.ntmps95
  go_wp2_with (first
    | (go_at_call 61; (with_reducible refine (HF.out _).mono ?_); rintro e w4 ⟨rfl, b4⟩; have u4 := u3.keep b4; have c1 : w4.cell? ⟨w1.heap.size, 1, none⟩ = some (.int .i64 ff) := u4.c1; have c2 : w4.cell? ⟨w1.heap.size, 2, none⟩ = some (.int .u64 (fs : Int)) := u4.c2; have c3 : w4.cell? ⟨w1.heap.size, 3, none⟩ = some (.int .u16 (fm : Int)) := u4.c3; have B4 : Hid (Below w.heap.size w w4) := hid (B3.out.trans (b4.mono B3.out.size)))
    | (refine wpList_ldf rfl (.tmp 9) rfl rfl u3 ?_)
    | (go_at_call 136; refine (HS.out _).mono ?_; rintro e w3 ⟨rfl, b3⟩; have u3 := v2.keep b3; have B3 : Hid (Below w.heap.size w w3) := hid (B2.out.trans (b3.mono B2.out.size)))
    | (refine wpList_ldm rfl (.tmp 5) rfl rfl v3 ?_)
    | (refine wpList_boxf (x := ⟨fk, ff, fs, fm⟩) rfl (.tmp 4) rfl rfl ?_; intro w2 v2 b2 s2; have v3 := v1.keep b2; have B2 : Hid (Below w.heap.size w w2) := hid (b1.trans (b2.mono b1.size)))
    | (refine wpList_boxm (x := ⟨n, s, l, f, d⟩) rfl (.tmp 0) rfl rfl ?_; intro w1 v1 b1 s1))
  go_ret2
  exact ⟨rfl, B4.out⟩
theorem judge_1 (n s l f d : Int) (me : Nat) (k : Int) (own O : Nat) (fk ff : Int) (fs fm : Nat) (w : World) (hk : 0 ≤ k) (hm : May ⟨n, s, l, f, d⟩ me k) (hO : k % n = (O : Int)) (hf : OkF ⟨fk, ff, fs, fm⟩) (h1 : (ff != (O : Int)) = false) (h2 : ((fs : Int) != k) = false) (ho : own < 65536) (hO2 : O ≤ 15) (h3 : ((fm : Int) == ((addb own O : Nat) : Int)) = true) :
    Calls Tryz.prog 95 #[mv ⟨n, s, l, f, d⟩, .int .i64 (me : Int), .int .u16 (own : Int), .int .u64 k, fv ⟨fk, ff, fs, fm⟩] w (RetO 1 0 w) := by
  have HS := hid (fun w => seen_ok n s l f d me k w hk hm)
  rw [hO] at HS
  have HF := hid (fun w => (okF_ok hf ▸ fcheck_any ⟨fk, ff, fs, fm⟩ w : Calls Tryz.prog 61 #[fv ⟨fk, ff, fs, fm⟩] w fun e w' => e = .returned (.int .i64 (0 : Nat)) ∧ Below w.heap.size w w'))
  clear hf
  have W1 := hid (fun w => with_in own O w ho hO2)
  have M1 := addb_lt own O ho hO2
  clear ho hO2
  generalize addb own O = y1 at *
  clear hk hm hO
  go_enter Tryz.func95, Tryz.ntmps95
  go_wp2_with (first
    | (go_at_call 61; (with_reducible refine (HF.out _).mono ?_); rintro e w4 ⟨rfl, b4⟩; have u4 := u3.keep b4; have c1 : w4.cell? ⟨w1.heap.size, 1, none⟩ = some (.int .i64 ff) := u4.c1; have c2 : w4.cell? ⟨w1.heap.size, 2, none⟩ = some (.int .u64 (fs : Int)) := u4.c2; have c3 : w4.cell? ⟨w1.heap.size, 3, none⟩ = some (.int .u16 (fm : Int)) := u4.c3; have B4 : Hid (Below w.heap.size w w4) := hid (B3.out.trans (b4.mono B3.out.size)))
    | (refine wpList_ldf rfl (.tmp 9) rfl rfl u3 ?_)
    | (go_at_call 136; refine (HS.out _).mono ?_; rintro e w3 ⟨rfl, b3⟩; have u3 := v2.keep b3; have B3 : Hid (Below w.heap.size w w3) := hid (B2.out.trans (b3.mono B2.out.size)))
    | (refine wpList_ldm rfl (.tmp 5) rfl rfl v3 ?_)
    | (refine wpList_boxf (x := ⟨fk, ff, fs, fm⟩) rfl (.tmp 4) rfl rfl ?_; intro w2 v2 b2 s2; have v3 := v1.keep b2; have B2 : Hid (Below w.heap.size w w2) := hid (b1.trans (b2.mono b1.size)))
    | (refine wpList_boxm (x := ⟨n, s, l, f, d⟩) rfl (.tmp 0) rfl rfl ?_; intro w1 v1 b1 s1)
    | (go_at_call 75; (with_reducible refine (W1.out _).mono ?_); rintro e w' ⟨rfl, rfl⟩))
  go_ret2
  exact ⟨rfl, B4.out⟩
theorem judge_2 (n s l f d : Int) (me : Nat) (k : Int) (own O : Nat) (fk ff : Int) (fs fm : Nat) (w : World) (hk : 0 ≤ k) (hm : May ⟨n, s, l, f, d⟩ me k) (hO : k % n = (O : Int)) (hf : OkF ⟨fk, ff, fs, fm⟩) (h1 : (ff != (O : Int)) = false) (h2 : ((fs : Int) != k) = false) (ho : own < 65536) (hO2 : O ≤ 15) (h3 : ((fm : Int) == ((addb own O : Nat) : Int)) = false) (h4 : ((fm : Int) == ((addb (subb own me) O : Nat) : Int)) = true) :
    Calls Tryz.prog 95 #[mv ⟨n, s, l, f, d⟩, .int .i64 (me : Int), .int .u16 (own : Int), .int .u64 k, fv ⟨fk, ff, fs, fm⟩] w (RetO 2 0 w) := by
  have HS := hid (fun w => seen_ok n s l f d me k w hk hm)
  rw [hO] at HS
  have HF := hid (fun w => (okF_ok hf ▸ fcheck_any ⟨fk, ff, fs, fm⟩ w : Calls Tryz.prog 61 #[fv ⟨fk, ff, fs, fm⟩] w fun e w' => e = .returned (.int .i64 (0 : Nat)) ∧ Below w.heap.size w w'))
  clear hf
  have W1 := hid (fun w => with_in own O w ho hO2)
  have M1 := addb_lt own O ho hO2
  have hM : me ≤ 15 := by have a := hm.2.2.2; have b := hm.1.2.1; simp only at a b; omega
  have W2 := hid (fun w => without_in own me w ho hM)
  have hs2 := Nat.lt_of_le_of_lt (subb_le own me) ho
  have W3 := hid (fun w => with_in (subb own me) O w hs2 hO2)
  have M2 := addb_lt (subb own me) O hs2 hO2
  clear ho hO2 hs2 hM
  generalize addb own O = y1 at *
  generalize addb (subb own me) O = y2 at *
  generalize subb own me = y3 at *
  clear hk hm hO
  go_enter Tryz.func95, Tryz.ntmps95
  go_wp2_with (first
    | (go_at_call 61; (with_reducible refine (HF.out _).mono ?_); rintro e w4 ⟨rfl, b4⟩; have u4 := u3.keep b4; have c1 : w4.cell? ⟨w1.heap.size, 1, none⟩ = some (.int .i64 ff) := u4.c1; have c2 : w4.cell? ⟨w1.heap.size, 2, none⟩ = some (.int .u64 (fs : Int)) := u4.c2; have c3 : w4.cell? ⟨w1.heap.size, 3, none⟩ = some (.int .u16 (fm : Int)) := u4.c3; have B4 : Hid (Below w.heap.size w w4) := hid (B3.out.trans (b4.mono B3.out.size)))
    | (refine wpList_ldf rfl (.tmp 9) rfl rfl u3 ?_)
    | (go_at_call 136; refine (HS.out _).mono ?_; rintro e w3 ⟨rfl, b3⟩; have u3 := v2.keep b3; have B3 : Hid (Below w.heap.size w w3) := hid (B2.out.trans (b3.mono B2.out.size)))
    | (refine wpList_ldm rfl (.tmp 5) rfl rfl v3 ?_)
    | (refine wpList_boxf (x := ⟨fk, ff, fs, fm⟩) rfl (.tmp 4) rfl rfl ?_; intro w2 v2 b2 s2; have v3 := v1.keep b2; have B2 : Hid (Below w.heap.size w w2) := hid (b1.trans (b2.mono b1.size)))
    | (refine wpList_boxm (x := ⟨n, s, l, f, d⟩) rfl (.tmp 0) rfl rfl ?_; intro w1 v1 b1 s1)
    | (go_at_call 75; (with_reducible refine (W1.out _).mono ?_); rintro e w' ⟨rfl, rfl⟩)
    | (go_at_call 92; (with_reducible refine (W2.out _).mono ?_); rintro e w' ⟨rfl, rfl⟩)
    | (go_at_call 75; (with_reducible refine (W3.out _).mono ?_); rintro e w' ⟨rfl, rfl⟩))
  go_ret2
  exact ⟨rfl, B4.out⟩
theorem judge_3 (n s l f d : Int) (me : Nat) (k : Int) (own O : Nat) (fk ff : Int) (fs fm : Nat) (w : World) (hk : 0 ≤ k) (hm : May ⟨n, s, l, f, d⟩ me k) (hO : k % n = (O : Int)) (hf : OkF ⟨fk, ff, fs, fm⟩) (h1 : (ff != (O : Int)) = false) (h2 : ((fs : Int) != k) = false) (ho : own < 65536) (hO2 : O ≤ 15) (h3 : ((fm : Int) == ((addb own O : Nat) : Int)) = false) (h4 : ((fm : Int) == ((addb (subb own me) O : Nat) : Int)) = false) :
    Calls Tryz.prog 95 #[mv ⟨n, s, l, f, d⟩, .int .i64 (me : Int), .int .u16 (own : Int), .int .u64 k, fv ⟨fk, ff, fs, fm⟩] w (RetO 3 0 w) := by
  have HS := hid (fun w => seen_ok n s l f d me k w hk hm)
  rw [hO] at HS
  have HF := hid (fun w => (okF_ok hf ▸ fcheck_any ⟨fk, ff, fs, fm⟩ w : Calls Tryz.prog 61 #[fv ⟨fk, ff, fs, fm⟩] w fun e w' => e = .returned (.int .i64 (0 : Nat)) ∧ Below w.heap.size w w'))
  clear hf
  have W1 := hid (fun w => with_in own O w ho hO2)
  have M1 := addb_lt own O ho hO2
  have hM : me ≤ 15 := by have a := hm.2.2.2; have b := hm.1.2.1; simp only at a b; omega
  have W2 := hid (fun w => without_in own me w ho hM)
  have hs2 := Nat.lt_of_le_of_lt (subb_le own me) ho
  have W3 := hid (fun w => with_in (subb own me) O w hs2 hO2)
  have M2 := addb_lt (subb own me) O hs2 hO2
  clear ho hO2 hs2 hM
  generalize addb own O = y1 at *
  generalize addb (subb own me) O = y2 at *
  generalize subb own me = y3 at *
  clear hk hm hO
  go_enter Tryz.func95, Tryz.ntmps95
  go_wp2_with (first
    | (go_at_call 61; (with_reducible refine (HF.out _).mono ?_); rintro e w4 ⟨rfl, b4⟩; have u4 := u3.keep b4; have c1 : w4.cell? ⟨w1.heap.size, 1, none⟩ = some (.int .i64 ff) := u4.c1; have c2 : w4.cell? ⟨w1.heap.size, 2, none⟩ = some (.int .u64 (fs : Int)) := u4.c2; have c3 : w4.cell? ⟨w1.heap.size, 3, none⟩ = some (.int .u16 (fm : Int)) := u4.c3; have B4 : Hid (Below w.heap.size w w4) := hid (B3.out.trans (b4.mono B3.out.size)))
    | (refine wpList_ldf rfl (.tmp 9) rfl rfl u3 ?_)
    | (go_at_call 136; refine (HS.out _).mono ?_; rintro e w3 ⟨rfl, b3⟩; have u3 := v2.keep b3; have B3 : Hid (Below w.heap.size w w3) := hid (B2.out.trans (b3.mono B2.out.size)))
    | (refine wpList_ldm rfl (.tmp 5) rfl rfl v3 ?_)
    | (refine wpList_boxf (x := ⟨fk, ff, fs, fm⟩) rfl (.tmp 4) rfl rfl ?_; intro w2 v2 b2 s2; have v3 := v1.keep b2; have B2 : Hid (Below w.heap.size w w2) := hid (b1.trans (b2.mono b1.size)))
    | (refine wpList_boxm (x := ⟨n, s, l, f, d⟩) rfl (.tmp 0) rfl rfl ?_; intro w1 v1 b1 s1)
    | (go_at_call 75; (with_reducible refine (W1.out _).mono ?_); rintro e w' ⟨rfl, rfl⟩)
    | (go_at_call 92; (with_reducible refine (W2.out _).mono ?_); rintro e w' ⟨rfl, rfl⟩)
    | (go_at_call 75; (with_reducible refine (W3.out _).mono ?_); rintro e w' ⟨rfl, rfl⟩))
  go_ret2
  exact ⟨rfl, B4.out⟩
theorem judge_no (x : Md) (me k : Int) (own : Nat) (y : Fr) (w : World) (hk : 0 ≤ k) (hm : ¬ May x me k) : Calls Tryz.prog 95 #[mv x, .int .i64 me, .int .u16 (own : Int), .int .u64 k, fv y] w (RetO 0 1 w) := by
  have HS := hid (fun w => seen_no x me k w hk hm)
  clear hm hk
  go_enter Tryz.func95, Tryz.ntmps95
  go_wp2_with (first
    | (go_at_call 136; refine (HS.out _).mono ?_; rintro e w3 ⟨rfl, b3⟩; have B3 : Hid (Below w.heap.size w w3) := hid (B2.out.trans (b3.mono B2.out.size)))
    | (refine wpList_ldm rfl (.tmp 5) rfl rfl v3 ?_)
    | (refine wpList_boxf (x := y) rfl (.tmp 4) rfl rfl ?_; intro w2 v2 b2 s2; have v3 := v1.keep b2; have B2 : Hid (Below w.heap.size w w2) := hid (b1.trans (b2.mono b1.size)))
    | (refine wpList_boxm (x := x) rfl (.tmp 0) rfl rfl ?_; intro w1 v1 b1 s1))
  go_ret2
  exact ⟨rfl, B3.out⟩
/-! ### Both, at every schedule, node, slot and frame -/
/-- Whose slot k is; what a frame is; what Judge answers. -/
def slO (x : Md) (k : Int) : Nat := (k % x.n).toNat
def jV (O me : Nat) (k : Int) (own : Nat) (y : Fr) : Int := if y.f = (O : Int) ∧ (y.s : Int) = k then (if y.m = addb own O then 1 else if y.m = addb (subb own me) O then 2 else 3) else 3
def judV (x : Md) (me k : Int) (own : Nat) (y : Fr) : Int := if May x me k ∧ OkF y then jV (slO x k) me.toNat k own y else 0
def judE (x : Md) (me k : Int) (y : Fr) : Int := if May x me k ∧ OkF y then 0 else 1
theorem slO_cast (x : Md) (me k : Int) (h : May x me k) : k % x.n = (slO x k : Int) ∧ slO x k ≤ 15 ∧ (slO x k : Int) < x.n ∧ (me.toNat : Int) = me ∧ me.toNat ≤ 15 := by
  have h2 := h.1.1; have h3 := h.1.2.1; have h4 := h.2.2.1; have h5 := h.2.2.2
  have a1 := Int.emod_nonneg k (show x.n ≠ 0 by omega)
  have a2 := Int.emod_lt_of_pos k (show 0 < x.n by omega)
  unfold slO
  omega
theorem bne_f {a b : Int} (h : a = b) : (a != b) = false := by rw [h]; simp
theorem bne_t {a b : Int} (h : a ≠ b) : (a != b) = true := by rw [bne_iff_ne]; exact h
theorem beq_t {a b : Nat} (h : a = b) : ((a : Int) == (b : Int)) = true := by rw [h]; simp
theorem beq_f {a b : Nat} (h : a ≠ b) : ((a : Int) == (b : Int)) = false := by rw [beq_eq_false_iff_ne]; omega
theorem judge_any (x : Md) (me k : Int) (own : Nat) (y : Fr) (w : World) (hk : 0 ≤ k) (ho : own < 65536) :
    Calls Tryz.prog 95 #[mv x, .int .i64 me, .int .u16 (own : Int), .int .u64 k, fv y] w (RetO (judV x me k own y) (judE x me k y) w) := by
  by_cases hm : May x me k
  · obtain ⟨n, s, l, f, d⟩ := x
    obtain ⟨fk, ff, fs, fm⟩ := y
    obtain ⟨h1, h2, h3, h4, h5⟩ := slO_cast _ me k hm
    by_cases hf : OkF ⟨fk, ff, fs, fm⟩
    · unfold judV judE
      rw [if_pos ⟨hm, hf⟩, if_pos ⟨hm, hf⟩]
      rw [← h4] at hm ⊢
      show Calls _ _ _ _ (RetO (jV _ me.toNat k own _) 0 w)
      generalize me.toNat = M at *
      generalize slO ⟨n, s, l, f, d⟩ k = O at *
      unfold jV
      by_cases c1 : ff = (O : Int)
      · by_cases c2 : (fs : Int) = k
        · rw [if_pos ⟨c1, c2⟩]
          by_cases c3 : fm = addb own O
          · rw [if_pos c3]; exact judge_1 n s l f d M k own O fk ff fs fm w hk hm h1 hf (bne_f c1) (bne_f c2) ho h2 (beq_t c3)
          · rw [if_neg c3]
            by_cases c4 : fm = addb (subb own M) O
            · rw [if_pos c4]; exact judge_2 n s l f d M k own O fk ff fs fm w hk hm h1 hf (bne_f c1) (bne_f c2) ho h2 (beq_f c3) (beq_t c4)
            · rw [if_neg c4]; exact judge_3 n s l f d M k own O fk ff fs fm w hk hm h1 hf (bne_f c1) (bne_f c2) ho h2 (beq_f c3) (beq_f c4)
        · rw [if_neg fun h => c2 h.2]; exact judge_slot n s l f d M k own O fk ff fs fm w hk hm h1 hf (bne_f c1) (bne_t c2)
      · rw [if_neg fun h => c1 h.1]; exact judge_from n s l f d M k own O fk ff fs fm w hk hm h1 hf (bne_t c1)
    · unfold judV judE
      rw [if_neg fun h => hf h.2, if_neg fun h => hf h.2]
      rw [← h4] at hm ⊢
      exact judge_frame n s l f d _ k own _ fk ff fs fm w hk hm h1 hf
  · unfold judV judE
    rw [if_neg fun h => hm h.1, if_neg fun h => hm h.1]
    exact judge_no x me k own y w hk hm
end Go.Proofs.YtlgedfljmgedfaaGreat.M10
