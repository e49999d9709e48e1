/-
  Texts NF, NG, NH, NI of this seat, as far as they are used.
-/
import Derived.Test.YtlgedfljmgedfaaGreatP4
import Derived.Test.YtlgedfljmgedfaaGreatP8
namespace Go.Proofs.YtlgedfljmgedfaaGreat
open Go Go.RowKit
open M10 (hid Md encm mv mz Oth range_keep there_keep range_other there_other setCells_oth setCells_size there_set Ty enct tv tz Fr encf fv fz)
open O6 (Oc enco ov oz)
open T9 (sv)
/-- A node's numbers within their bounds, of a schedule that may be. -/
structure NdOk (m : Md) (x : Nd) : Prop where
  hm : M10.Ok m
  ho : O6.Ok x.o
  i0 : 0 ≤ x.id
  i1 : x.id < m.n
  p0 : 0 ≤ x.ph
  p1 : x.ph ≤ 3
  s0 : 0 ≤ x.sl
  s1 : x.sl ≤ 4294967296
  t0 : 0 ≤ x.st
  t1 : x.st ≤ 1152921504606846976
  c0 : -m.d ≤ x.co
  c1 : x.co ≤ m.d
  mb : x.mb < 65536
  ty : M10.OkT x.t
  dl : (x.dv.length : Int) ≤ m.n
  dd : ∀ y ∈ x.dv, -m.d ≤ y ∧ y ≤ m.d
  v0 : 0 ≤ x.vd
  v1 : x.vd ≤ 3
/-- Who is there behind its slot. -/
def aftM (m : Md) (x : Nd) : Nat := M10.aftM m x.id x.sl x.mb x.vd
theorem after_ok (m : Md) (x : Nd) (w : World) (k : NdOk m x) :
    Calls Tryz.prog 125 #[mv m, .int .i64 x.id, .int .u16 (x.mb : Int), .int .u64 x.sl, .int .i64 x.vd] w fun e w' => e = .returned (.tuple #[.int .u16 (aftM m x : Nat), .int .i64 0]) ∧ Below w.heap.size w w' := by
  have := M10.after_any m x.id x.sl x.vd x.mb w k.s0 k.mb ⟨by have := k.v0; omega, by have := k.v1; omega⟩
  have e : M10.aftE m x.id x.sl x.vd = 0 := if_pos ⟨⟨k.hm, k.s1, k.i0, k.i1⟩, k.v0, k.v1⟩
  rw [e] at this
  exact this
/-- A node at work, its members whatever they are. -/
def SM (K : Nat → Prop) (base g : Nat) (x : Nd) (m : Md) (l : List Ac) (w : World) : Prop := ∃ q : Nat, Wk w K base g { x with mb := q } m l
section
variable {w : World} {K : Nat → Prop} {base g : Nat} {x : Nd} {m : Md} {l : List Ac}
theorem SM.cell (h : SM K base g x m l w) {j : Nat} {v : Value} (hc : ∀ q A n c B k d, (encw { x with mb := q } A n c m B k d)[j]? = some v) : w.cell? ⟨g, j, none⟩ = some v := by
  obtain ⟨q, h⟩ := h
  exact h.cell (hc q)
theorem SM.md (h : SM K base g x m l w) : w.rangeAt g 14 (encm m) := by
  obtain ⟨q, h⟩ := h
  exact h.md
end
set_option maxRecDepth 100000 in
set_option maxHeartbeats 2000000 in
theorem leave_own (K : Nat → Prop) (base g : Nat) (x : Nd) (m : Md) (l : List Ac) (w : World) (h : Wk w K base g x m l) (_hl : l.length ≤ 1000) (k : NdOk m x) (hO : x.sl % m.n = x.id) :
    Calls Tryz.prog 80 #[.pointer (some ⟨g, 0, none⟩)] w (RetW K base g { x with mb := aftM m x, dv := lateL m x.dv 0 } m l (.tuple #[]) w) := by
  have H := hid h
  have HO := hid (owner_w K base g x m l w h k.hm k.s0 k.s1)
  have o0 := Int.emod_nonneg x.sl (show m.n ≠ 0 by have := k.hm.1; omega)
  have o1 := Int.emod_lt_of_pos x.sl (show 0 < m.n by have := k.hm.1; omega)
  have o2 : x.sl % m.n ≤ 15 := by have := k.hm.2.1; omega
  have HH := hid (fun w => has_id x.mb (x.sl % m.n) w k.mb o0 o2)
  have HA := hid (fun w => after_ok m x w k)
  have HL := hid (fun w h => late_w K base g { x with mb := aftM m x } m l 0 w h k.hm.2.1)
  have e1 : (x.sl % m.n != x.id) = false := by simp [hO]
  have e2 : (x.sl % m.n == x.id) = true := by simp [hO]
  clear h _hl k o0 o1 o2 hO
  generalize x.sl % m.n = O at *
  generalize aftM m x = B at *
  go_enter Tryz.func80, Tryz.ntmps80
  go_wp2_with (first
    | (go_at_call 39; (with_reducible refine HO.out.mono ?_); rintro e w1 ⟨rfl, b1⟩; have W1 := hid (H.out.below b1); have k1 := hid (H.out.keptb b1); have c0 : w1.cell? ⟨g, 0, none⟩ = some (.int .i64 x.id) := W1.out.cell fun _ _ _ _ _ _ => rfl; have c8 : w1.cell? ⟨g, 8, none⟩ = some (.int .u16 (x.mb : Int)) := W1.out.cell fun _ _ _ _ _ _ => rfl; have c13 : w1.cell? ⟨g, 13, none⟩ = some (.int .i64 x.vd) := W1.out.cell fun _ _ _ _ _ _ => rfl))
  have KK := hid (k1.out.trans (W1.out.keptb (Below.refl _ _).drew))
  have Q1 := hid W1.out.drew
  have S1 : SM K base g x m l w1.drew := ⟨_, Q1.out⟩
  refine wp_region_held_drew (S := SM K base g x m l) (by kernel_rfl) S1 (fun _ => ?_)
  refine tk 0 (some 33) (.pointer (some ⟨g, 0, none⟩)) rfl rfl (by kernel_rfl) (by kernel_rfl) (by kernel_rfl) (fun _ _ _ h => h) (.inl ⟨by rfl, fun _ _ => by go_simp⟩) S1 ?_
  simp only [Act.put, List.setIfInBounds_toArray, List.set_cons_zero, List.set_cons_succ]
  refine tk 1 (some 34) (.pointer (some ⟨g, 0, none⟩)) rfl rfl (by kernel_rfl) (by kernel_rfl) (by kernel_rfl) (fun _ _ _ h => h) (.inl ⟨by rfl, fun _ _ => by go_simp⟩) S1 ?_
  simp only [Act.put, List.setIfInBounds_toArray, List.set_cons_zero, List.set_cons_succ]
  refine tk 2 (some 35) (.pointer (some ⟨g, 0, none⟩)) rfl rfl (by kernel_rfl) (by kernel_rfl) (by kernel_rfl) (fun _ _ _ h => h) (.inl ⟨by rfl, fun _ _ => by go_simp⟩) S1 ?_
  simp only [Act.put, List.setIfInBounds_toArray, List.set_cons_zero, List.set_cons_succ]
  refine tk 3 (some 36) (.pointer (some ⟨g, 14, none⟩)) rfl rfl (by kernel_rfl) (by kernel_rfl) (by kernel_rfl) (fun _ _ _ h => h) (.inl ⟨by rfl, fun _ _ => by go_simp⟩) S1 ?_
  simp only [Act.put, List.setIfInBounds_toArray, List.set_cons_zero, List.set_cons_succ]
  refine tk 4 (some 37) (mv m) rfl rfl (by kernel_rfl) (by kernel_rfl) (by kernel_rfl) (fun _ _ _ h => h) (ylm rfl rfl (fun w h => h.md) rfl) S1 ?_
  simp only [Act.put, List.setIfInBounds_toArray, List.set_cons_zero, List.set_cons_succ]
  refine tk 5 (some 38) (.pointer (some ⟨g, 0, none⟩)) rfl rfl (by kernel_rfl) (by kernel_rfl) (by kernel_rfl) (fun _ _ _ h => h) (.inl ⟨by rfl, fun _ _ => by go_simp⟩) S1 ?_
  simp only [Act.put, List.setIfInBounds_toArray, List.set_cons_zero, List.set_cons_succ]
  refine tk 6 (some 39) (.pointer (some ⟨g, 0, none⟩)) rfl rfl (by kernel_rfl) (by kernel_rfl) (by kernel_rfl) (fun _ _ _ h => h) (.inl ⟨by rfl, fun _ _ => by go_simp⟩) S1 ?_
  simp only [Act.put, List.setIfInBounds_toArray, List.set_cons_zero, List.set_cons_succ]
  refine tk 7 (some 40) (.pointer (some ⟨g, 0, none⟩)) rfl rfl (by kernel_rfl) (by kernel_rfl) (by kernel_rfl) (fun _ _ _ h => h) (.inl ⟨by rfl, fun _ _ => by go_simp⟩) S1 ?_
  simp only [Act.put, List.setIfInBounds_toArray, List.set_cons_zero, List.set_cons_succ]
  refine tk 8 (some 41) (.pointer (some ⟨g, 0, none⟩)) rfl rfl (by kernel_rfl) (by kernel_rfl) (by kernel_rfl) (fun _ _ _ h => h) (.inl ⟨by rfl, fun _ _ => by go_simp⟩) S1 ?_
  simp only [Act.put, List.setIfInBounds_toArray, List.set_cons_zero, List.set_cons_succ]
  refine tk 9 (some 42) (.int .i64 x.id) rfl rfl (by kernel_rfl) (by kernel_rfl) (by kernel_rfl) (fun _ _ _ h => h) (yl1 3 (p := ⟨g, 0, none⟩) (v := .int .i64 x.id) rfl rfl Tryz.isAgg3 (fun w h => h.cell (j := 0) fun _ _ _ _ _ _ _ => rfl) rfl) S1 ?_
  simp only [Act.put, List.setIfInBounds_toArray, List.set_cons_zero, List.set_cons_succ]
  refine tk 10 (some 43) (.pointer (some ⟨g, 0, none⟩)) rfl rfl (by kernel_rfl) (by kernel_rfl) (by kernel_rfl) (fun _ _ _ h => h) (.inl ⟨by rfl, fun _ _ => by go_simp⟩) S1 ?_
  simp only [Act.put, List.setIfInBounds_toArray, List.set_cons_zero, List.set_cons_succ]
  refine tk 11 (some 44) (.pointer (some ⟨g, 0, none⟩)) rfl rfl (by kernel_rfl) (by kernel_rfl) (by kernel_rfl) (fun _ _ _ h => h) (.inl ⟨by rfl, fun _ _ => by go_simp⟩) S1 ?_
  simp only [Act.put, List.setIfInBounds_toArray, List.set_cons_zero, List.set_cons_succ]
  refine tk 12 (some 45) (.pointer (some ⟨g, 0, none⟩)) rfl rfl (by kernel_rfl) (by kernel_rfl) (by kernel_rfl) (fun _ _ _ h => h) (.inl ⟨by rfl, fun _ _ => by go_simp⟩) S1 ?_
  simp only [Act.put, List.setIfInBounds_toArray, List.set_cons_zero, List.set_cons_succ]
  refine tk 13 (some 46) (.pointer (some ⟨g, 8, none⟩)) rfl rfl (by kernel_rfl) (by kernel_rfl) (by kernel_rfl) (fun _ _ _ h => h) (.inl ⟨by rfl, fun _ _ => by go_simp⟩) S1 ?_
  simp only [Act.put, List.setIfInBounds_toArray, List.set_cons_zero, List.set_cons_succ]
  refine tk 15 (some 48) (.pointer (some ⟨g, 0, none⟩)) rfl rfl (by kernel_rfl) (by kernel_rfl) (by kernel_rfl) (fun _ _ _ h => h) (.inl ⟨by rfl, fun _ _ => by go_simp⟩) S1 ?_
  simp only [Act.put, List.setIfInBounds_toArray, List.set_cons_zero, List.set_cons_succ]
  refine tk 16 (some 49) (.pointer (some ⟨g, 0, none⟩)) rfl rfl (by kernel_rfl) (by kernel_rfl) (by kernel_rfl) (fun _ _ _ h => h) (.inl ⟨by rfl, fun _ _ => by go_simp⟩) S1 ?_
  simp only [Act.put, List.setIfInBounds_toArray, List.set_cons_zero, List.set_cons_succ]
  refine tk 17 (some 50) (.pointer (some ⟨g, 0, none⟩)) rfl rfl (by kernel_rfl) (by kernel_rfl) (by kernel_rfl) (fun _ _ _ h => h) (.inl ⟨by rfl, fun _ _ => by go_simp⟩) S1 ?_
  simp only [Act.put, List.setIfInBounds_toArray, List.set_cons_zero, List.set_cons_succ]
  refine tk 18 (some 51) (.pointer (some ⟨g, 2, none⟩)) rfl rfl (by kernel_rfl) (by kernel_rfl) (by kernel_rfl) (fun _ _ _ h => h) (.inl ⟨by rfl, fun _ _ => by go_simp⟩) S1 ?_
  simp only [Act.put, List.setIfInBounds_toArray, List.set_cons_zero, List.set_cons_succ]
  refine tk 19 (some 52) (.int .u64 x.sl) rfl rfl (by kernel_rfl) (by kernel_rfl) (by kernel_rfl) (fun _ _ _ h => h) (yl1 24 (p := ⟨g, 2, none⟩) (v := .int .u64 x.sl) rfl rfl Tryz.isAgg24 (fun w h => h.cell (j := 2) fun _ _ _ _ _ _ _ => rfl) rfl) S1 ?_
  simp only [Act.put, List.setIfInBounds_toArray, List.set_cons_zero, List.set_cons_succ]
  refine tk 20 (some 53) (.pointer (some ⟨g, 0, none⟩)) rfl rfl (by kernel_rfl) (by kernel_rfl) (by kernel_rfl) (fun _ _ _ h => h) (.inl ⟨by rfl, fun _ _ => by go_simp⟩) S1 ?_
  simp only [Act.put, List.setIfInBounds_toArray, List.set_cons_zero, List.set_cons_succ]
  refine tk 21 (some 54) (.pointer (some ⟨g, 0, none⟩)) rfl rfl (by kernel_rfl) (by kernel_rfl) (by kernel_rfl) (fun _ _ _ h => h) (.inl ⟨by rfl, fun _ _ => by go_simp⟩) S1 ?_
  simp only [Act.put, List.setIfInBounds_toArray, List.set_cons_zero, List.set_cons_succ]
  refine tk 22 (some 55) (.pointer (some ⟨g, 0, none⟩)) rfl rfl (by kernel_rfl) (by kernel_rfl) (by kernel_rfl) (fun _ _ _ h => h) (.inl ⟨by rfl, fun _ _ => by go_simp⟩) S1 ?_
  simp only [Act.put, List.setIfInBounds_toArray, List.set_cons_zero, List.set_cons_succ]
  refine tk 23 (some 56) (.pointer (some ⟨g, 13, none⟩)) rfl rfl (by kernel_rfl) (by kernel_rfl) (by kernel_rfl) (fun _ _ _ h => h) (.inl ⟨by rfl, fun _ _ => by go_simp⟩) S1 ?_
  simp only [Act.put, List.setIfInBounds_toArray, List.set_cons_zero, List.set_cons_succ]
  refine tk 24 (some 57) (.int .i64 x.vd) rfl rfl (by kernel_rfl) (by kernel_rfl) (by kernel_rfl) (fun _ _ _ h => h) (yl1 3 (p := ⟨g, 13, none⟩) (v := .int .i64 x.vd) rfl rfl Tryz.isAgg3 (fun w h => h.cell (j := 13) fun _ _ _ _ _ _ _ => rfl) rfl) S1 ?_
  simp only [Act.put, List.setIfInBounds_toArray, List.set_cons_zero, List.set_cons_succ]
  refine rd_l1 14 (some 47) (.int .u16 (x.mb : Int)) 27 (p := ⟨g, 8, none⟩) (by kernel_rfl) rfl rfl rfl rfl Tryz.isAgg27 (Q1.out.cell fun _ _ _ _ _ _ => rfl) rfl S1 ?_
  simp only [Act.put, List.setIfInBounds_toArray, List.set_cons_zero, List.set_cons_succ]
  refine rd_cl 25 (some 58) 125 #[mv m, .int .i64 x.id, .int .u16 (x.mb : Int), .int .u64 x.sl, .int .i64 x.vd] _ (by kernel_rfl) rfl rfl (by unfold execOp; simp [go_sem]; done) (HA.out _) rfl ?_
  intro w2 b2
  have Q2 := hid (Q1.out.below b2)
  have K2 := hid (Q1.out.keptb b2)
  have S2 : SM K base g x m l w2 := ⟨_, Q2.out⟩
  refine ⟨S2, ?_⟩
  simp only [Act.put, List.setIfInBounds_toArray, List.set_cons_zero, List.set_cons_succ]
  refine tk 26 (some 32) (.tuple #[.int .u16 (B : Int), .int .i64 0]) rfl rfl (by kernel_rfl) (by kernel_rfl) (by kernel_rfl) (fun _ _ _ h => h) (.inl ⟨by rfl, fun _ _ => by go_simp⟩) S2 ?_
  simp only [Act.put, List.setIfInBounds_toArray, List.set_cons_zero, List.set_cons_succ]
  refine tk 27 (some 59) (.int .u16 (B : Int)) rfl rfl (by kernel_rfl) (by kernel_rfl) (by kernel_rfl) (fun _ _ _ h => h) (.inl ⟨by rfl, fun _ _ => by go_simp⟩) S2 ?_
  simp only [Act.put, List.setIfInBounds_toArray, List.set_cons_zero, List.set_cons_succ]
  refine tk 28 (some 60) (.int .i64 0) rfl rfl (by kernel_rfl) (by kernel_rfl) (by kernel_rfl) (fun _ _ _ h => h) (.inl ⟨by rfl, fun _ _ => by go_simp⟩) S2 ?_
  simp only [Act.put, List.setIfInBounds_toArray, List.set_cons_zero, List.set_cons_succ]
  refine tk 29 (some 61) (.pointer (some ⟨g, 0, none⟩)) rfl rfl (by kernel_rfl) (by kernel_rfl) (by kernel_rfl) (fun _ _ _ h => h) (.inl ⟨by rfl, fun _ _ => by go_simp⟩) S2 ?_
  simp only [Act.put, List.setIfInBounds_toArray, List.set_cons_zero, List.set_cons_succ]
  refine tk 30 (some 62) (.pointer (some ⟨g, 0, none⟩)) rfl rfl (by kernel_rfl) (by kernel_rfl) (by kernel_rfl) (fun _ _ _ h => h) (.inl ⟨by rfl, fun _ _ => by go_simp⟩) S2 ?_
  simp only [Act.put, List.setIfInBounds_toArray, List.set_cons_zero, List.set_cons_succ]
  refine tk 31 (some 63) (.pointer (some ⟨g, 8, none⟩)) rfl rfl (by kernel_rfl) (by kernel_rfl) (by kernel_rfl) (fun _ _ _ h => h) (.inl ⟨by rfl, fun _ _ => by go_simp⟩) S2 ?_
  simp only [Act.put, List.setIfInBounds_toArray, List.set_cons_zero, List.set_cons_succ]
  refine rd_ws1 { x with mb := B } 32 8 (.int .u16 (B : Int)) 27 (by kernel_rfl) rfl rfl rfl rfl rfl Q2.out (by kernel_rfl) rfl rfl rfl (fun _ _ _ _ _ _ => rfl) (by omega) rfl ?_
  intro w3 Q3 k3
  refine ⟨⟨_, Q3⟩, ?_⟩
  refine wpAnyH_done (by kernel_rfl) ?_ _
  have Q3 := hid Q3
  have K3 := hid (KK.out.trans (K2.out.trans k3))
  have d0 : w3.cell? ⟨g, 0, none⟩ = some (.int .i64 x.id) := Q3.out.cell fun _ _ _ _ _ _ => rfl
  clear k3
  go_wp2_with (first
    | (go_at_call 97; (with_reducible refine (HL.out w3 Q3.out).mono ?_); rintro e w4 ⟨rfl, W4, k4⟩))
  first | go_end0 | refine bodyPost_ret (results_none rfl _ _ _) rfl ?_
  exact ⟨rfl, W4, K3.out.trans k4⟩
set_option maxRecDepth 100000 in
set_option maxHeartbeats 2000000 in
theorem leave_none (K : Nat → Prop) (base g : Nat) (x : Nd) (m : Md) (l : List Ac) (w : World) (h : Wk w K base g x m l) (_hl : l.length ≤ 1000) (k : NdOk m x) (hO : ¬ x.sl % m.n = x.id) (hh : M10.hs x.mb (x.sl % m.n).toNat = false) :
    Calls Tryz.prog 80 #[.pointer (some ⟨g, 0, none⟩)] w (RetW K base g { x with mb := aftM m x } m l (.tuple #[]) w) := by
  have H := hid h
  have HO := hid (owner_w K base g x m l w h k.hm k.s0 k.s1)
  have o0 := Int.emod_nonneg x.sl (show m.n ≠ 0 by have := k.hm.1; omega)
  have o1 := Int.emod_lt_of_pos x.sl (show 0 < m.n by have := k.hm.1; omega)
  have o2 : x.sl % m.n ≤ 15 := by have := k.hm.2.1; omega
  have HH := hid (fun w => has_id x.mb (x.sl % m.n) w k.mb o0 o2)
  have HA := hid (fun w => after_ok m x w k)
  have e1 : (x.sl % m.n != x.id) = true := by simp [hO]
  have e2 : (x.sl % m.n == x.id) = false := by simp [hO]
  rw [hh] at HH
  clear h _hl k o0 o1 o2 hO hh
  generalize x.sl % m.n = O at *
  generalize aftM m x = B at *
  go_enter Tryz.func80, Tryz.ntmps80
  go_wp2_with (first
    | (go_at_call 39; (with_reducible refine HO.out.mono ?_); rintro e w1 ⟨rfl, b1⟩; have W1 := hid (H.out.below b1); have k1 := hid (H.out.keptb b1); have c0 : w1.cell? ⟨g, 0, none⟩ = some (.int .i64 x.id) := W1.out.cell fun _ _ _ _ _ _ => rfl; have c8 : w1.cell? ⟨g, 8, none⟩ = some (.int .u16 (x.mb : Int)) := W1.out.cell fun _ _ _ _ _ _ => rfl; have c13 : w1.cell? ⟨g, 13, none⟩ = some (.int .i64 x.vd) := W1.out.cell fun _ _ _ _ _ _ => rfl)
    | (go_at_call 26; (with_reducible refine (HH.out w1).mono ?_); rintro e w1 ⟨rfl, rfl⟩))
  have KK := hid (k1.out.trans (W1.out.keptb (Below.refl _ _).drew))
  have Q1 := hid W1.out.drew
  have S1 : SM K base g x m l w1.drew := ⟨_, Q1.out⟩
  refine wp_region_held_drew (S := SM K base g x m l) (by kernel_rfl) S1 (fun _ => ?_)
  refine tk 0 (some 33) (.pointer (some ⟨g, 0, none⟩)) rfl rfl (by kernel_rfl) (by kernel_rfl) (by kernel_rfl) (fun _ _ _ h => h) (.inl ⟨by rfl, fun _ _ => by go_simp⟩) S1 ?_
  simp only [Act.put, List.setIfInBounds_toArray, List.set_cons_zero, List.set_cons_succ]
  refine tk 1 (some 34) (.pointer (some ⟨g, 0, none⟩)) rfl rfl (by kernel_rfl) (by kernel_rfl) (by kernel_rfl) (fun _ _ _ h => h) (.inl ⟨by rfl, fun _ _ => by go_simp⟩) S1 ?_
  simp only [Act.put, List.setIfInBounds_toArray, List.set_cons_zero, List.set_cons_succ]
  refine tk 2 (some 35) (.pointer (some ⟨g, 0, none⟩)) rfl rfl (by kernel_rfl) (by kernel_rfl) (by kernel_rfl) (fun _ _ _ h => h) (.inl ⟨by rfl, fun _ _ => by go_simp⟩) S1 ?_
  simp only [Act.put, List.setIfInBounds_toArray, List.set_cons_zero, List.set_cons_succ]
  refine tk 3 (some 36) (.pointer (some ⟨g, 14, none⟩)) rfl rfl (by kernel_rfl) (by kernel_rfl) (by kernel_rfl) (fun _ _ _ h => h) (.inl ⟨by rfl, fun _ _ => by go_simp⟩) S1 ?_
  simp only [Act.put, List.setIfInBounds_toArray, List.set_cons_zero, List.set_cons_succ]
  refine tk 4 (some 37) (mv m) rfl rfl (by kernel_rfl) (by kernel_rfl) (by kernel_rfl) (fun _ _ _ h => h) (ylm rfl rfl (fun w h => h.md) rfl) S1 ?_
  simp only [Act.put, List.setIfInBounds_toArray, List.set_cons_zero, List.set_cons_succ]
  refine tk 5 (some 38) (.pointer (some ⟨g, 0, none⟩)) rfl rfl (by kernel_rfl) (by kernel_rfl) (by kernel_rfl) (fun _ _ _ h => h) (.inl ⟨by rfl, fun _ _ => by go_simp⟩) S1 ?_
  simp only [Act.put, List.setIfInBounds_toArray, List.set_cons_zero, List.set_cons_succ]
  refine tk 6 (some 39) (.pointer (some ⟨g, 0, none⟩)) rfl rfl (by kernel_rfl) (by kernel_rfl) (by kernel_rfl) (fun _ _ _ h => h) (.inl ⟨by rfl, fun _ _ => by go_simp⟩) S1 ?_
  simp only [Act.put, List.setIfInBounds_toArray, List.set_cons_zero, List.set_cons_succ]
  refine tk 7 (some 40) (.pointer (some ⟨g, 0, none⟩)) rfl rfl (by kernel_rfl) (by kernel_rfl) (by kernel_rfl) (fun _ _ _ h => h) (.inl ⟨by rfl, fun _ _ => by go_simp⟩) S1 ?_
  simp only [Act.put, List.setIfInBounds_toArray, List.set_cons_zero, List.set_cons_succ]
  refine tk 8 (some 41) (.pointer (some ⟨g, 0, none⟩)) rfl rfl (by kernel_rfl) (by kernel_rfl) (by kernel_rfl) (fun _ _ _ h => h) (.inl ⟨by rfl, fun _ _ => by go_simp⟩) S1 ?_
  simp only [Act.put, List.setIfInBounds_toArray, List.set_cons_zero, List.set_cons_succ]
  refine tk 9 (some 42) (.int .i64 x.id) rfl rfl (by kernel_rfl) (by kernel_rfl) (by kernel_rfl) (fun _ _ _ h => h) (yl1 3 (p := ⟨g, 0, none⟩) (v := .int .i64 x.id) rfl rfl Tryz.isAgg3 (fun w h => h.cell (j := 0) fun _ _ _ _ _ _ _ => rfl) rfl) S1 ?_
  simp only [Act.put, List.setIfInBounds_toArray, List.set_cons_zero, List.set_cons_succ]
  refine tk 10 (some 43) (.pointer (some ⟨g, 0, none⟩)) rfl rfl (by kernel_rfl) (by kernel_rfl) (by kernel_rfl) (fun _ _ _ h => h) (.inl ⟨by rfl, fun _ _ => by go_simp⟩) S1 ?_
  simp only [Act.put, List.setIfInBounds_toArray, List.set_cons_zero, List.set_cons_succ]
  refine tk 11 (some 44) (.pointer (some ⟨g, 0, none⟩)) rfl rfl (by kernel_rfl) (by kernel_rfl) (by kernel_rfl) (fun _ _ _ h => h) (.inl ⟨by rfl, fun _ _ => by go_simp⟩) S1 ?_
  simp only [Act.put, List.setIfInBounds_toArray, List.set_cons_zero, List.set_cons_succ]
  refine tk 12 (some 45) (.pointer (some ⟨g, 0, none⟩)) rfl rfl (by kernel_rfl) (by kernel_rfl) (by kernel_rfl) (fun _ _ _ h => h) (.inl ⟨by rfl, fun _ _ => by go_simp⟩) S1 ?_
  simp only [Act.put, List.setIfInBounds_toArray, List.set_cons_zero, List.set_cons_succ]
  refine tk 13 (some 46) (.pointer (some ⟨g, 8, none⟩)) rfl rfl (by kernel_rfl) (by kernel_rfl) (by kernel_rfl) (fun _ _ _ h => h) (.inl ⟨by rfl, fun _ _ => by go_simp⟩) S1 ?_
  simp only [Act.put, List.setIfInBounds_toArray, List.set_cons_zero, List.set_cons_succ]
  refine tk 15 (some 48) (.pointer (some ⟨g, 0, none⟩)) rfl rfl (by kernel_rfl) (by kernel_rfl) (by kernel_rfl) (fun _ _ _ h => h) (.inl ⟨by rfl, fun _ _ => by go_simp⟩) S1 ?_
  simp only [Act.put, List.setIfInBounds_toArray, List.set_cons_zero, List.set_cons_succ]
  refine tk 16 (some 49) (.pointer (some ⟨g, 0, none⟩)) rfl rfl (by kernel_rfl) (by kernel_rfl) (by kernel_rfl) (fun _ _ _ h => h) (.inl ⟨by rfl, fun _ _ => by go_simp⟩) S1 ?_
  simp only [Act.put, List.setIfInBounds_toArray, List.set_cons_zero, List.set_cons_succ]
  refine tk 17 (some 50) (.pointer (some ⟨g, 0, none⟩)) rfl rfl (by kernel_rfl) (by kernel_rfl) (by kernel_rfl) (fun _ _ _ h => h) (.inl ⟨by rfl, fun _ _ => by go_simp⟩) S1 ?_
  simp only [Act.put, List.setIfInBounds_toArray, List.set_cons_zero, List.set_cons_succ]
  refine tk 18 (some 51) (.pointer (some ⟨g, 2, none⟩)) rfl rfl (by kernel_rfl) (by kernel_rfl) (by kernel_rfl) (fun _ _ _ h => h) (.inl ⟨by rfl, fun _ _ => by go_simp⟩) S1 ?_
  simp only [Act.put, List.setIfInBounds_toArray, List.set_cons_zero, List.set_cons_succ]
  refine tk 19 (some 52) (.int .u64 x.sl) rfl rfl (by kernel_rfl) (by kernel_rfl) (by kernel_rfl) (fun _ _ _ h => h) (yl1 24 (p := ⟨g, 2, none⟩) (v := .int .u64 x.sl) rfl rfl Tryz.isAgg24 (fun w h => h.cell (j := 2) fun _ _ _ _ _ _ _ => rfl) rfl) S1 ?_
  simp only [Act.put, List.setIfInBounds_toArray, List.set_cons_zero, List.set_cons_succ]
  refine tk 20 (some 53) (.pointer (some ⟨g, 0, none⟩)) rfl rfl (by kernel_rfl) (by kernel_rfl) (by kernel_rfl) (fun _ _ _ h => h) (.inl ⟨by rfl, fun _ _ => by go_simp⟩) S1 ?_
  simp only [Act.put, List.setIfInBounds_toArray, List.set_cons_zero, List.set_cons_succ]
  refine tk 21 (some 54) (.pointer (some ⟨g, 0, none⟩)) rfl rfl (by kernel_rfl) (by kernel_rfl) (by kernel_rfl) (fun _ _ _ h => h) (.inl ⟨by rfl, fun _ _ => by go_simp⟩) S1 ?_
  simp only [Act.put, List.setIfInBounds_toArray, List.set_cons_zero, List.set_cons_succ]
  refine tk 22 (some 55) (.pointer (some ⟨g, 0, none⟩)) rfl rfl (by kernel_rfl) (by kernel_rfl) (by kernel_rfl) (fun _ _ _ h => h) (.inl ⟨by rfl, fun _ _ => by go_simp⟩) S1 ?_
  simp only [Act.put, List.setIfInBounds_toArray, List.set_cons_zero, List.set_cons_succ]
  refine tk 23 (some 56) (.pointer (some ⟨g, 13, none⟩)) rfl rfl (by kernel_rfl) (by kernel_rfl) (by kernel_rfl) (fun _ _ _ h => h) (.inl ⟨by rfl, fun _ _ => by go_simp⟩) S1 ?_
  simp only [Act.put, List.setIfInBounds_toArray, List.set_cons_zero, List.set_cons_succ]
  refine tk 24 (some 57) (.int .i64 x.vd) rfl rfl (by kernel_rfl) (by kernel_rfl) (by kernel_rfl) (fun _ _ _ h => h) (yl1 3 (p := ⟨g, 13, none⟩) (v := .int .i64 x.vd) rfl rfl Tryz.isAgg3 (fun w h => h.cell (j := 13) fun _ _ _ _ _ _ _ => rfl) rfl) S1 ?_
  simp only [Act.put, List.setIfInBounds_toArray, List.set_cons_zero, List.set_cons_succ]
  refine rd_l1 14 (some 47) (.int .u16 (x.mb : Int)) 27 (p := ⟨g, 8, none⟩) (by kernel_rfl) rfl rfl rfl rfl Tryz.isAgg27 (Q1.out.cell fun _ _ _ _ _ _ => rfl) rfl S1 ?_
  simp only [Act.put, List.setIfInBounds_toArray, List.set_cons_zero, List.set_cons_succ]
  refine rd_cl 25 (some 58) 125 #[mv m, .int .i64 x.id, .int .u16 (x.mb : Int), .int .u64 x.sl, .int .i64 x.vd] _ (by kernel_rfl) rfl rfl (by unfold execOp; simp [go_sem]; done) (HA.out _) rfl ?_
  intro w2 b2
  have Q2 := hid (Q1.out.below b2)
  have K2 := hid (Q1.out.keptb b2)
  have S2 : SM K base g x m l w2 := ⟨_, Q2.out⟩
  refine ⟨S2, ?_⟩
  simp only [Act.put, List.setIfInBounds_toArray, List.set_cons_zero, List.set_cons_succ]
  refine tk 26 (some 32) (.tuple #[.int .u16 (B : Int), .int .i64 0]) rfl rfl (by kernel_rfl) (by kernel_rfl) (by kernel_rfl) (fun _ _ _ h => h) (.inl ⟨by rfl, fun _ _ => by go_simp⟩) S2 ?_
  simp only [Act.put, List.setIfInBounds_toArray, List.set_cons_zero, List.set_cons_succ]
  refine tk 27 (some 59) (.int .u16 (B : Int)) rfl rfl (by kernel_rfl) (by kernel_rfl) (by kernel_rfl) (fun _ _ _ h => h) (.inl ⟨by rfl, fun _ _ => by go_simp⟩) S2 ?_
  simp only [Act.put, List.setIfInBounds_toArray, List.set_cons_zero, List.set_cons_succ]
  refine tk 28 (some 60) (.int .i64 0) rfl rfl (by kernel_rfl) (by kernel_rfl) (by kernel_rfl) (fun _ _ _ h => h) (.inl ⟨by rfl, fun _ _ => by go_simp⟩) S2 ?_
  simp only [Act.put, List.setIfInBounds_toArray, List.set_cons_zero, List.set_cons_succ]
  refine tk 29 (some 61) (.pointer (some ⟨g, 0, none⟩)) rfl rfl (by kernel_rfl) (by kernel_rfl) (by kernel_rfl) (fun _ _ _ h => h) (.inl ⟨by rfl, fun _ _ => by go_simp⟩) S2 ?_
  simp only [Act.put, List.setIfInBounds_toArray, List.set_cons_zero, List.set_cons_succ]
  refine tk 30 (some 62) (.pointer (some ⟨g, 0, none⟩)) rfl rfl (by kernel_rfl) (by kernel_rfl) (by kernel_rfl) (fun _ _ _ h => h) (.inl ⟨by rfl, fun _ _ => by go_simp⟩) S2 ?_
  simp only [Act.put, List.setIfInBounds_toArray, List.set_cons_zero, List.set_cons_succ]
  refine tk 31 (some 63) (.pointer (some ⟨g, 8, none⟩)) rfl rfl (by kernel_rfl) (by kernel_rfl) (by kernel_rfl) (fun _ _ _ h => h) (.inl ⟨by rfl, fun _ _ => by go_simp⟩) S2 ?_
  simp only [Act.put, List.setIfInBounds_toArray, List.set_cons_zero, List.set_cons_succ]
  refine rd_ws1 { x with mb := B } 32 8 (.int .u16 (B : Int)) 27 (by kernel_rfl) rfl rfl rfl rfl rfl Q2.out (by kernel_rfl) rfl rfl rfl (fun _ _ _ _ _ _ => rfl) (by omega) rfl ?_
  intro w3 Q3 k3
  refine ⟨⟨_, Q3⟩, ?_⟩
  refine wpAnyH_done (by kernel_rfl) ?_ _
  have Q3 := hid Q3
  have K3 := hid (KK.out.trans (K2.out.trans k3))
  have d0 : w3.cell? ⟨g, 0, none⟩ = some (.int .i64 x.id) := Q3.out.cell fun _ _ _ _ _ _ => rfl
  clear k3
  go_wp2_with fail
  first | go_end0 | refine bodyPost_ret (results_none rfl _ _ _) rfl ?_
  exact ⟨rfl, Q3.out, K3.out⟩
set_option maxRecDepth 100000 in
set_option maxHeartbeats 2000000 in
theorem leave_heard (K : Nat → Prop) (base g : Nat) (x : Nd) (m : Md) (l : List Ac) (w : World) (h : Wk w K base g x m l) (_hl : l.length ≤ 1000) (k : NdOk m x) (hO : ¬ x.sl % m.n = x.id) (hh : M10.hs x.mb (x.sl % m.n).toNat = true) (hv : ¬ x.vd = 0) :
    Calls Tryz.prog 80 #[.pointer (some ⟨g, 0, none⟩)] w (RetW K base g { x with mb := aftM m x } m l (.tuple #[]) w) := by
  have H := hid h
  have HO := hid (owner_w K base g x m l w h k.hm k.s0 k.s1)
  have o0 := Int.emod_nonneg x.sl (show m.n ≠ 0 by have := k.hm.1; omega)
  have o1 := Int.emod_lt_of_pos x.sl (show 0 < m.n by have := k.hm.1; omega)
  have o2 : x.sl % m.n ≤ 15 := by have := k.hm.2.1; omega
  have HH := hid (fun w => has_id x.mb (x.sl % m.n) w k.mb o0 o2)
  have HA := hid (fun w => after_ok m x w k)
  have e1 : (x.sl % m.n != x.id) = true := by simp [hO]
  have e2 : (x.sl % m.n == x.id) = false := by simp [hO]
  rw [hh] at HH
  have e3 : (x.vd == 0) = false := by simp [hv]
  clear h _hl k o0 o1 o2 hO hh hv
  generalize x.sl % m.n = O at *
  generalize aftM m x = B at *
  go_enter Tryz.func80, Tryz.ntmps80
  go_wp2_with (first
    | (go_at_call 39; (with_reducible refine HO.out.mono ?_); rintro e w1 ⟨rfl, b1⟩; have W1 := hid (H.out.below b1); have k1 := hid (H.out.keptb b1); have c0 : w1.cell? ⟨g, 0, none⟩ = some (.int .i64 x.id) := W1.out.cell fun _ _ _ _ _ _ => rfl; have c8 : w1.cell? ⟨g, 8, none⟩ = some (.int .u16 (x.mb : Int)) := W1.out.cell fun _ _ _ _ _ _ => rfl; have c13 : w1.cell? ⟨g, 13, none⟩ = some (.int .i64 x.vd) := W1.out.cell fun _ _ _ _ _ _ => rfl)
    | (go_at_call 26; (with_reducible refine (HH.out w1).mono ?_); rintro e w1 ⟨rfl, rfl⟩))
  have KK := hid (k1.out.trans (W1.out.keptb (Below.refl _ _).drew))
  have Q1 := hid W1.out.drew
  have S1 : SM K base g x m l w1.drew := ⟨_, Q1.out⟩
  refine wp_region_held_drew (S := SM K base g x m l) (by kernel_rfl) S1 (fun _ => ?_)
  refine tk 0 (some 33) (.pointer (some ⟨g, 0, none⟩)) rfl rfl (by kernel_rfl) (by kernel_rfl) (by kernel_rfl) (fun _ _ _ h => h) (.inl ⟨by rfl, fun _ _ => by go_simp⟩) S1 ?_
  simp only [Act.put, List.setIfInBounds_toArray, List.set_cons_zero, List.set_cons_succ]
  refine tk 1 (some 34) (.pointer (some ⟨g, 0, none⟩)) rfl rfl (by kernel_rfl) (by kernel_rfl) (by kernel_rfl) (fun _ _ _ h => h) (.inl ⟨by rfl, fun _ _ => by go_simp⟩) S1 ?_
  simp only [Act.put, List.setIfInBounds_toArray, List.set_cons_zero, List.set_cons_succ]
  refine tk 2 (some 35) (.pointer (some ⟨g, 0, none⟩)) rfl rfl (by kernel_rfl) (by kernel_rfl) (by kernel_rfl) (fun _ _ _ h => h) (.inl ⟨by rfl, fun _ _ => by go_simp⟩) S1 ?_
  simp only [Act.put, List.setIfInBounds_toArray, List.set_cons_zero, List.set_cons_succ]
  refine tk 3 (some 36) (.pointer (some ⟨g, 14, none⟩)) rfl rfl (by kernel_rfl) (by kernel_rfl) (by kernel_rfl) (fun _ _ _ h => h) (.inl ⟨by rfl, fun _ _ => by go_simp⟩) S1 ?_
  simp only [Act.put, List.setIfInBounds_toArray, List.set_cons_zero, List.set_cons_succ]
  refine tk 4 (some 37) (mv m) rfl rfl (by kernel_rfl) (by kernel_rfl) (by kernel_rfl) (fun _ _ _ h => h) (ylm rfl rfl (fun w h => h.md) rfl) S1 ?_
  simp only [Act.put, List.setIfInBounds_toArray, List.set_cons_zero, List.set_cons_succ]
  refine tk 5 (some 38) (.pointer (some ⟨g, 0, none⟩)) rfl rfl (by kernel_rfl) (by kernel_rfl) (by kernel_rfl) (fun _ _ _ h => h) (.inl ⟨by rfl, fun _ _ => by go_simp⟩) S1 ?_
  simp only [Act.put, List.setIfInBounds_toArray, List.set_cons_zero, List.set_cons_succ]
  refine tk 6 (some 39) (.pointer (some ⟨g, 0, none⟩)) rfl rfl (by kernel_rfl) (by kernel_rfl) (by kernel_rfl) (fun _ _ _ h => h) (.inl ⟨by rfl, fun _ _ => by go_simp⟩) S1 ?_
  simp only [Act.put, List.setIfInBounds_toArray, List.set_cons_zero, List.set_cons_succ]
  refine tk 7 (some 40) (.pointer (some ⟨g, 0, none⟩)) rfl rfl (by kernel_rfl) (by kernel_rfl) (by kernel_rfl) (fun _ _ _ h => h) (.inl ⟨by rfl, fun _ _ => by go_simp⟩) S1 ?_
  simp only [Act.put, List.setIfInBounds_toArray, List.set_cons_zero, List.set_cons_succ]
  refine tk 8 (some 41) (.pointer (some ⟨g, 0, none⟩)) rfl rfl (by kernel_rfl) (by kernel_rfl) (by kernel_rfl) (fun _ _ _ h => h) (.inl ⟨by rfl, fun _ _ => by go_simp⟩) S1 ?_
  simp only [Act.put, List.setIfInBounds_toArray, List.set_cons_zero, List.set_cons_succ]
  refine tk 9 (some 42) (.int .i64 x.id) rfl rfl (by kernel_rfl) (by kernel_rfl) (by kernel_rfl) (fun _ _ _ h => h) (yl1 3 (p := ⟨g, 0, none⟩) (v := .int .i64 x.id) rfl rfl Tryz.isAgg3 (fun w h => h.cell (j := 0) fun _ _ _ _ _ _ _ => rfl) rfl) S1 ?_
  simp only [Act.put, List.setIfInBounds_toArray, List.set_cons_zero, List.set_cons_succ]
  refine tk 10 (some 43) (.pointer (some ⟨g, 0, none⟩)) rfl rfl (by kernel_rfl) (by kernel_rfl) (by kernel_rfl) (fun _ _ _ h => h) (.inl ⟨by rfl, fun _ _ => by go_simp⟩) S1 ?_
  simp only [Act.put, List.setIfInBounds_toArray, List.set_cons_zero, List.set_cons_succ]
  refine tk 11 (some 44) (.pointer (some ⟨g, 0, none⟩)) rfl rfl (by kernel_rfl) (by kernel_rfl) (by kernel_rfl) (fun _ _ _ h => h) (.inl ⟨by rfl, fun _ _ => by go_simp⟩) S1 ?_
  simp only [Act.put, List.setIfInBounds_toArray, List.set_cons_zero, List.set_cons_succ]
  refine tk 12 (some 45) (.pointer (some ⟨g, 0, none⟩)) rfl rfl (by kernel_rfl) (by kernel_rfl) (by kernel_rfl) (fun _ _ _ h => h) (.inl ⟨by rfl, fun _ _ => by go_simp⟩) S1 ?_
  simp only [Act.put, List.setIfInBounds_toArray, List.set_cons_zero, List.set_cons_succ]
  refine tk 13 (some 46) (.pointer (some ⟨g, 8, none⟩)) rfl rfl (by kernel_rfl) (by kernel_rfl) (by kernel_rfl) (fun _ _ _ h => h) (.inl ⟨by rfl, fun _ _ => by go_simp⟩) S1 ?_
  simp only [Act.put, List.setIfInBounds_toArray, List.set_cons_zero, List.set_cons_succ]
  refine tk 15 (some 48) (.pointer (some ⟨g, 0, none⟩)) rfl rfl (by kernel_rfl) (by kernel_rfl) (by kernel_rfl) (fun _ _ _ h => h) (.inl ⟨by rfl, fun _ _ => by go_simp⟩) S1 ?_
  simp only [Act.put, List.setIfInBounds_toArray, List.set_cons_zero, List.set_cons_succ]
  refine tk 16 (some 49) (.pointer (some ⟨g, 0, none⟩)) rfl rfl (by kernel_rfl) (by kernel_rfl) (by kernel_rfl) (fun _ _ _ h => h) (.inl ⟨by rfl, fun _ _ => by go_simp⟩) S1 ?_
  simp only [Act.put, List.setIfInBounds_toArray, List.set_cons_zero, List.set_cons_succ]
  refine tk 17 (some 50) (.pointer (some ⟨g, 0, none⟩)) rfl rfl (by kernel_rfl) (by kernel_rfl) (by kernel_rfl) (fun _ _ _ h => h) (.inl ⟨by rfl, fun _ _ => by go_simp⟩) S1 ?_
  simp only [Act.put, List.setIfInBounds_toArray, List.set_cons_zero, List.set_cons_succ]
  refine tk 18 (some 51) (.pointer (some ⟨g, 2, none⟩)) rfl rfl (by kernel_rfl) (by kernel_rfl) (by kernel_rfl) (fun _ _ _ h => h) (.inl ⟨by rfl, fun _ _ => by go_simp⟩) S1 ?_
  simp only [Act.put, List.setIfInBounds_toArray, List.set_cons_zero, List.set_cons_succ]
  refine tk 19 (some 52) (.int .u64 x.sl) rfl rfl (by kernel_rfl) (by kernel_rfl) (by kernel_rfl) (fun _ _ _ h => h) (yl1 24 (p := ⟨g, 2, none⟩) (v := .int .u64 x.sl) rfl rfl Tryz.isAgg24 (fun w h => h.cell (j := 2) fun _ _ _ _ _ _ _ => rfl) rfl) S1 ?_
  simp only [Act.put, List.setIfInBounds_toArray, List.set_cons_zero, List.set_cons_succ]
  refine tk 20 (some 53) (.pointer (some ⟨g, 0, none⟩)) rfl rfl (by kernel_rfl) (by kernel_rfl) (by kernel_rfl) (fun _ _ _ h => h) (.inl ⟨by rfl, fun _ _ => by go_simp⟩) S1 ?_
  simp only [Act.put, List.setIfInBounds_toArray, List.set_cons_zero, List.set_cons_succ]
  refine tk 21 (some 54) (.pointer (some ⟨g, 0, none⟩)) rfl rfl (by kernel_rfl) (by kernel_rfl) (by kernel_rfl) (fun _ _ _ h => h) (.inl ⟨by rfl, fun _ _ => by go_simp⟩) S1 ?_
  simp only [Act.put, List.setIfInBounds_toArray, List.set_cons_zero, List.set_cons_succ]
  refine tk 22 (some 55) (.pointer (some ⟨g, 0, none⟩)) rfl rfl (by kernel_rfl) (by kernel_rfl) (by kernel_rfl) (fun _ _ _ h => h) (.inl ⟨by rfl, fun _ _ => by go_simp⟩) S1 ?_
  simp only [Act.put, List.setIfInBounds_toArray, List.set_cons_zero, List.set_cons_succ]
  refine tk 23 (some 56) (.pointer (some ⟨g, 13, none⟩)) rfl rfl (by kernel_rfl) (by kernel_rfl) (by kernel_rfl) (fun _ _ _ h => h) (.inl ⟨by rfl, fun _ _ => by go_simp⟩) S1 ?_
  simp only [Act.put, List.setIfInBounds_toArray, List.set_cons_zero, List.set_cons_succ]
  refine tk 24 (some 57) (.int .i64 x.vd) rfl rfl (by kernel_rfl) (by kernel_rfl) (by kernel_rfl) (fun _ _ _ h => h) (yl1 3 (p := ⟨g, 13, none⟩) (v := .int .i64 x.vd) rfl rfl Tryz.isAgg3 (fun w h => h.cell (j := 13) fun _ _ _ _ _ _ _ => rfl) rfl) S1 ?_
  simp only [Act.put, List.setIfInBounds_toArray, List.set_cons_zero, List.set_cons_succ]
  refine rd_l1 14 (some 47) (.int .u16 (x.mb : Int)) 27 (p := ⟨g, 8, none⟩) (by kernel_rfl) rfl rfl rfl rfl Tryz.isAgg27 (Q1.out.cell fun _ _ _ _ _ _ => rfl) rfl S1 ?_
  simp only [Act.put, List.setIfInBounds_toArray, List.set_cons_zero, List.set_cons_succ]
  refine rd_cl 25 (some 58) 125 #[mv m, .int .i64 x.id, .int .u16 (x.mb : Int), .int .u64 x.sl, .int .i64 x.vd] _ (by kernel_rfl) rfl rfl (by unfold execOp; simp [go_sem]; done) (HA.out _) rfl ?_
  intro w2 b2
  have Q2 := hid (Q1.out.below b2)
  have K2 := hid (Q1.out.keptb b2)
  have S2 : SM K base g x m l w2 := ⟨_, Q2.out⟩
  refine ⟨S2, ?_⟩
  simp only [Act.put, List.setIfInBounds_toArray, List.set_cons_zero, List.set_cons_succ]
  refine tk 26 (some 32) (.tuple #[.int .u16 (B : Int), .int .i64 0]) rfl rfl (by kernel_rfl) (by kernel_rfl) (by kernel_rfl) (fun _ _ _ h => h) (.inl ⟨by rfl, fun _ _ => by go_simp⟩) S2 ?_
  simp only [Act.put, List.setIfInBounds_toArray, List.set_cons_zero, List.set_cons_succ]
  refine tk 27 (some 59) (.int .u16 (B : Int)) rfl rfl (by kernel_rfl) (by kernel_rfl) (by kernel_rfl) (fun _ _ _ h => h) (.inl ⟨by rfl, fun _ _ => by go_simp⟩) S2 ?_
  simp only [Act.put, List.setIfInBounds_toArray, List.set_cons_zero, List.set_cons_succ]
  refine tk 28 (some 60) (.int .i64 0) rfl rfl (by kernel_rfl) (by kernel_rfl) (by kernel_rfl) (fun _ _ _ h => h) (.inl ⟨by rfl, fun _ _ => by go_simp⟩) S2 ?_
  simp only [Act.put, List.setIfInBounds_toArray, List.set_cons_zero, List.set_cons_succ]
  refine tk 29 (some 61) (.pointer (some ⟨g, 0, none⟩)) rfl rfl (by kernel_rfl) (by kernel_rfl) (by kernel_rfl) (fun _ _ _ h => h) (.inl ⟨by rfl, fun _ _ => by go_simp⟩) S2 ?_
  simp only [Act.put, List.setIfInBounds_toArray, List.set_cons_zero, List.set_cons_succ]
  refine tk 30 (some 62) (.pointer (some ⟨g, 0, none⟩)) rfl rfl (by kernel_rfl) (by kernel_rfl) (by kernel_rfl) (fun _ _ _ h => h) (.inl ⟨by rfl, fun _ _ => by go_simp⟩) S2 ?_
  simp only [Act.put, List.setIfInBounds_toArray, List.set_cons_zero, List.set_cons_succ]
  refine tk 31 (some 63) (.pointer (some ⟨g, 8, none⟩)) rfl rfl (by kernel_rfl) (by kernel_rfl) (by kernel_rfl) (fun _ _ _ h => h) (.inl ⟨by rfl, fun _ _ => by go_simp⟩) S2 ?_
  simp only [Act.put, List.setIfInBounds_toArray, List.set_cons_zero, List.set_cons_succ]
  refine rd_ws1 { x with mb := B } 32 8 (.int .u16 (B : Int)) 27 (by kernel_rfl) rfl rfl rfl rfl rfl Q2.out (by kernel_rfl) rfl rfl rfl (fun _ _ _ _ _ _ => rfl) (by omega) rfl ?_
  intro w3 Q3 k3
  refine ⟨⟨_, Q3⟩, ?_⟩
  refine wpAnyH_done (by kernel_rfl) ?_ _
  have Q3 := hid Q3
  have K3 := hid (KK.out.trans (K2.out.trans k3))
  have d0 : w3.cell? ⟨g, 0, none⟩ = some (.int .i64 x.id) := Q3.out.cell fun _ _ _ _ _ _ => rfl
  clear k3
  go_wp2_with fail
  first | go_end0 | refine bodyPost_ret (results_none rfl _ _ _) rfl ?_
  exact ⟨rfl, Q3.out, K3.out⟩
set_option maxRecDepth 100000 in
set_option maxHeartbeats 2000000 in
theorem leave_null (K : Nat → Prop) (base g : Nat) (x : Nd) (m : Md) (l : List Ac) (w : World) (h : Wk w K base g x m l) (hl : l.length ≤ 1000) (k : NdOk m x) (hO : ¬ x.sl % m.n = x.id) (hh : M10.hs x.mb (x.sl % m.n).toNat = true) (hv : x.vd = 0) :
    Calls Tryz.prog 80 #[.pointer (some ⟨g, 0, none⟩)] w (RetW K base g { x with mb := aftM m x } m (l ++ [note 4 (x.sl % m.n)]) (.tuple #[]) w) := by
  have H := hid h
  have HO := hid (owner_w K base g x m l w h k.hm k.s0 k.s1)
  have o0 := Int.emod_nonneg x.sl (show m.n ≠ 0 by have := k.hm.1; omega)
  have o1 := Int.emod_lt_of_pos x.sl (show 0 < m.n by have := k.hm.1; omega)
  have o2 : x.sl % m.n ≤ 15 := by have := k.hm.2.1; omega
  have HH := hid (fun w => has_id x.mb (x.sl % m.n) w k.mb o0 o2)
  have HA := hid (fun w => after_ok m x w k)
  have e1 : (x.sl % m.n != x.id) = true := by simp [hO]
  have e2 : (x.sl % m.n == x.id) = false := by simp [hO]
  rw [hh] at HH
  have e3 : (x.vd == 0) = true := by simp [hv]
  have HN := hid (fun w h => note_any K base g x m l 4 (x.sl % m.n) w h hl)
  clear h hl k o0 o1 o2 hO hh hv
  generalize x.sl % m.n = O at *
  generalize aftM m x = B at *
  go_enter Tryz.func80, Tryz.ntmps80
  go_wp2_with (first
    | (go_at_call 39; (with_reducible refine HO.out.mono ?_); rintro e w1 ⟨rfl, b1⟩; have W1 := hid (H.out.below b1); have k1 := hid (H.out.keptb b1); have c0 : w1.cell? ⟨g, 0, none⟩ = some (.int .i64 x.id) := W1.out.cell fun _ _ _ _ _ _ => rfl; have c8 : w1.cell? ⟨g, 8, none⟩ = some (.int .u16 (x.mb : Int)) := W1.out.cell fun _ _ _ _ _ _ => rfl; have c13 : w1.cell? ⟨g, 13, none⟩ = some (.int .i64 x.vd) := W1.out.cell fun _ _ _ _ _ _ => rfl)
    | (go_at_call 26; (with_reducible refine (HH.out w1).mono ?_); rintro e w1 ⟨rfl, rfl⟩)
    | (go_at_call 72; (with_reducible refine (HN.out w1 W1.out).mono ?_); rintro e w1b ⟨rfl, W1b, k1b⟩; have W1b := hid W1b; have k1b := hid k1b))
  have KK := hid ((k1.out.trans k1b.out).trans (W1b.out.keptb (Below.refl _ _).drew))
  have Q1 := hid W1b.out.drew
  have S1 : SM K base g x m (l ++ [note 4 (O)]) w1b.drew := ⟨_, Q1.out⟩
  refine wp_region_held_drew (S := SM K base g x m (l ++ [note 4 (O)])) (by kernel_rfl) S1 (fun _ => ?_)
  refine tk 0 (some 33) (.pointer (some ⟨g, 0, none⟩)) rfl rfl (by kernel_rfl) (by kernel_rfl) (by kernel_rfl) (fun _ _ _ h => h) (.inl ⟨by rfl, fun _ _ => by go_simp⟩) S1 ?_
  simp only [Act.put, List.setIfInBounds_toArray, List.set_cons_zero, List.set_cons_succ]
  refine tk 1 (some 34) (.pointer (some ⟨g, 0, none⟩)) rfl rfl (by kernel_rfl) (by kernel_rfl) (by kernel_rfl) (fun _ _ _ h => h) (.inl ⟨by rfl, fun _ _ => by go_simp⟩) S1 ?_
  simp only [Act.put, List.setIfInBounds_toArray, List.set_cons_zero, List.set_cons_succ]
  refine tk 2 (some 35) (.pointer (some ⟨g, 0, none⟩)) rfl rfl (by kernel_rfl) (by kernel_rfl) (by kernel_rfl) (fun _ _ _ h => h) (.inl ⟨by rfl, fun _ _ => by go_simp⟩) S1 ?_
  simp only [Act.put, List.setIfInBounds_toArray, List.set_cons_zero, List.set_cons_succ]
  refine tk 3 (some 36) (.pointer (some ⟨g, 14, none⟩)) rfl rfl (by kernel_rfl) (by kernel_rfl) (by kernel_rfl) (fun _ _ _ h => h) (.inl ⟨by rfl, fun _ _ => by go_simp⟩) S1 ?_
  simp only [Act.put, List.setIfInBounds_toArray, List.set_cons_zero, List.set_cons_succ]
  refine tk 4 (some 37) (mv m) rfl rfl (by kernel_rfl) (by kernel_rfl) (by kernel_rfl) (fun _ _ _ h => h) (ylm rfl rfl (fun w h => h.md) rfl) S1 ?_
  simp only [Act.put, List.setIfInBounds_toArray, List.set_cons_zero, List.set_cons_succ]
  refine tk 5 (some 38) (.pointer (some ⟨g, 0, none⟩)) rfl rfl (by kernel_rfl) (by kernel_rfl) (by kernel_rfl) (fun _ _ _ h => h) (.inl ⟨by rfl, fun _ _ => by go_simp⟩) S1 ?_
  simp only [Act.put, List.setIfInBounds_toArray, List.set_cons_zero, List.set_cons_succ]
  refine tk 6 (some 39) (.pointer (some ⟨g, 0, none⟩)) rfl rfl (by kernel_rfl) (by kernel_rfl) (by kernel_rfl) (fun _ _ _ h => h) (.inl ⟨by rfl, fun _ _ => by go_simp⟩) S1 ?_
  simp only [Act.put, List.setIfInBounds_toArray, List.set_cons_zero, List.set_cons_succ]
  refine tk 7 (some 40) (.pointer (some ⟨g, 0, none⟩)) rfl rfl (by kernel_rfl) (by kernel_rfl) (by kernel_rfl) (fun _ _ _ h => h) (.inl ⟨by rfl, fun _ _ => by go_simp⟩) S1 ?_
  simp only [Act.put, List.setIfInBounds_toArray, List.set_cons_zero, List.set_cons_succ]
  refine tk 8 (some 41) (.pointer (some ⟨g, 0, none⟩)) rfl rfl (by kernel_rfl) (by kernel_rfl) (by kernel_rfl) (fun _ _ _ h => h) (.inl ⟨by rfl, fun _ _ => by go_simp⟩) S1 ?_
  simp only [Act.put, List.setIfInBounds_toArray, List.set_cons_zero, List.set_cons_succ]
  refine tk 9 (some 42) (.int .i64 x.id) rfl rfl (by kernel_rfl) (by kernel_rfl) (by kernel_rfl) (fun _ _ _ h => h) (yl1 3 (p := ⟨g, 0, none⟩) (v := .int .i64 x.id) rfl rfl Tryz.isAgg3 (fun w h => h.cell (j := 0) fun _ _ _ _ _ _ _ => rfl) rfl) S1 ?_
  simp only [Act.put, List.setIfInBounds_toArray, List.set_cons_zero, List.set_cons_succ]
  refine tk 10 (some 43) (.pointer (some ⟨g, 0, none⟩)) rfl rfl (by kernel_rfl) (by kernel_rfl) (by kernel_rfl) (fun _ _ _ h => h) (.inl ⟨by rfl, fun _ _ => by go_simp⟩) S1 ?_
  simp only [Act.put, List.setIfInBounds_toArray, List.set_cons_zero, List.set_cons_succ]
  refine tk 11 (some 44) (.pointer (some ⟨g, 0, none⟩)) rfl rfl (by kernel_rfl) (by kernel_rfl) (by kernel_rfl) (fun _ _ _ h => h) (.inl ⟨by rfl, fun _ _ => by go_simp⟩) S1 ?_
  simp only [Act.put, List.setIfInBounds_toArray, List.set_cons_zero, List.set_cons_succ]
  refine tk 12 (some 45) (.pointer (some ⟨g, 0, none⟩)) rfl rfl (by kernel_rfl) (by kernel_rfl) (by kernel_rfl) (fun _ _ _ h => h) (.inl ⟨by rfl, fun _ _ => by go_simp⟩) S1 ?_
  simp only [Act.put, List.setIfInBounds_toArray, List.set_cons_zero, List.set_cons_succ]
  refine tk 13 (some 46) (.pointer (some ⟨g, 8, none⟩)) rfl rfl (by kernel_rfl) (by kernel_rfl) (by kernel_rfl) (fun _ _ _ h => h) (.inl ⟨by rfl, fun _ _ => by go_simp⟩) S1 ?_
  simp only [Act.put, List.setIfInBounds_toArray, List.set_cons_zero, List.set_cons_succ]
  refine tk 15 (some 48) (.pointer (some ⟨g, 0, none⟩)) rfl rfl (by kernel_rfl) (by kernel_rfl) (by kernel_rfl) (fun _ _ _ h => h) (.inl ⟨by rfl, fun _ _ => by go_simp⟩) S1 ?_
  simp only [Act.put, List.setIfInBounds_toArray, List.set_cons_zero, List.set_cons_succ]
  refine tk 16 (some 49) (.pointer (some ⟨g, 0, none⟩)) rfl rfl (by kernel_rfl) (by kernel_rfl) (by kernel_rfl) (fun _ _ _ h => h) (.inl ⟨by rfl, fun _ _ => by go_simp⟩) S1 ?_
  simp only [Act.put, List.setIfInBounds_toArray, List.set_cons_zero, List.set_cons_succ]
  refine tk 17 (some 50) (.pointer (some ⟨g, 0, none⟩)) rfl rfl (by kernel_rfl) (by kernel_rfl) (by kernel_rfl) (fun _ _ _ h => h) (.inl ⟨by rfl, fun _ _ => by go_simp⟩) S1 ?_
  simp only [Act.put, List.setIfInBounds_toArray, List.set_cons_zero, List.set_cons_succ]
  refine tk 18 (some 51) (.pointer (some ⟨g, 2, none⟩)) rfl rfl (by kernel_rfl) (by kernel_rfl) (by kernel_rfl) (fun _ _ _ h => h) (.inl ⟨by rfl, fun _ _ => by go_simp⟩) S1 ?_
  simp only [Act.put, List.setIfInBounds_toArray, List.set_cons_zero, List.set_cons_succ]
  refine tk 19 (some 52) (.int .u64 x.sl) rfl rfl (by kernel_rfl) (by kernel_rfl) (by kernel_rfl) (fun _ _ _ h => h) (yl1 24 (p := ⟨g, 2, none⟩) (v := .int .u64 x.sl) rfl rfl Tryz.isAgg24 (fun w h => h.cell (j := 2) fun _ _ _ _ _ _ _ => rfl) rfl) S1 ?_
  simp only [Act.put, List.setIfInBounds_toArray, List.set_cons_zero, List.set_cons_succ]
  refine tk 20 (some 53) (.pointer (some ⟨g, 0, none⟩)) rfl rfl (by kernel_rfl) (by kernel_rfl) (by kernel_rfl) (fun _ _ _ h => h) (.inl ⟨by rfl, fun _ _ => by go_simp⟩) S1 ?_
  simp only [Act.put, List.setIfInBounds_toArray, List.set_cons_zero, List.set_cons_succ]
  refine tk 21 (some 54) (.pointer (some ⟨g, 0, none⟩)) rfl rfl (by kernel_rfl) (by kernel_rfl) (by kernel_rfl) (fun _ _ _ h => h) (.inl ⟨by rfl, fun _ _ => by go_simp⟩) S1 ?_
  simp only [Act.put, List.setIfInBounds_toArray, List.set_cons_zero, List.set_cons_succ]
  refine tk 22 (some 55) (.pointer (some ⟨g, 0, none⟩)) rfl rfl (by kernel_rfl) (by kernel_rfl) (by kernel_rfl) (fun _ _ _ h => h) (.inl ⟨by rfl, fun _ _ => by go_simp⟩) S1 ?_
  simp only [Act.put, List.setIfInBounds_toArray, List.set_cons_zero, List.set_cons_succ]
  refine tk 23 (some 56) (.pointer (some ⟨g, 13, none⟩)) rfl rfl (by kernel_rfl) (by kernel_rfl) (by kernel_rfl) (fun _ _ _ h => h) (.inl ⟨by rfl, fun _ _ => by go_simp⟩) S1 ?_
  simp only [Act.put, List.setIfInBounds_toArray, List.set_cons_zero, List.set_cons_succ]
  refine tk 24 (some 57) (.int .i64 x.vd) rfl rfl (by kernel_rfl) (by kernel_rfl) (by kernel_rfl) (fun _ _ _ h => h) (yl1 3 (p := ⟨g, 13, none⟩) (v := .int .i64 x.vd) rfl rfl Tryz.isAgg3 (fun w h => h.cell (j := 13) fun _ _ _ _ _ _ _ => rfl) rfl) S1 ?_
  simp only [Act.put, List.setIfInBounds_toArray, List.set_cons_zero, List.set_cons_succ]
  refine rd_l1 14 (some 47) (.int .u16 (x.mb : Int)) 27 (p := ⟨g, 8, none⟩) (by kernel_rfl) rfl rfl rfl rfl Tryz.isAgg27 (Q1.out.cell fun _ _ _ _ _ _ => rfl) rfl S1 ?_
  simp only [Act.put, List.setIfInBounds_toArray, List.set_cons_zero, List.set_cons_succ]
  refine rd_cl 25 (some 58) 125 #[mv m, .int .i64 x.id, .int .u16 (x.mb : Int), .int .u64 x.sl, .int .i64 x.vd] _ (by kernel_rfl) rfl rfl (by unfold execOp; simp [go_sem]; done) (HA.out _) rfl ?_
  intro w2 b2
  have Q2 := hid (Q1.out.below b2)
  have K2 := hid (Q1.out.keptb b2)
  have S2 : SM K base g x m (l ++ [note 4 (O)]) w2 := ⟨_, Q2.out⟩
  refine ⟨S2, ?_⟩
  simp only [Act.put, List.setIfInBounds_toArray, List.set_cons_zero, List.set_cons_succ]
  refine tk 26 (some 32) (.tuple #[.int .u16 (B : Int), .int .i64 0]) rfl rfl (by kernel_rfl) (by kernel_rfl) (by kernel_rfl) (fun _ _ _ h => h) (.inl ⟨by rfl, fun _ _ => by go_simp⟩) S2 ?_
  simp only [Act.put, List.setIfInBounds_toArray, List.set_cons_zero, List.set_cons_succ]
  refine tk 27 (some 59) (.int .u16 (B : Int)) rfl rfl (by kernel_rfl) (by kernel_rfl) (by kernel_rfl) (fun _ _ _ h => h) (.inl ⟨by rfl, fun _ _ => by go_simp⟩) S2 ?_
  simp only [Act.put, List.setIfInBounds_toArray, List.set_cons_zero, List.set_cons_succ]
  refine tk 28 (some 60) (.int .i64 0) rfl rfl (by kernel_rfl) (by kernel_rfl) (by kernel_rfl) (fun _ _ _ h => h) (.inl ⟨by rfl, fun _ _ => by go_simp⟩) S2 ?_
  simp only [Act.put, List.setIfInBounds_toArray, List.set_cons_zero, List.set_cons_succ]
  refine tk 29 (some 61) (.pointer (some ⟨g, 0, none⟩)) rfl rfl (by kernel_rfl) (by kernel_rfl) (by kernel_rfl) (fun _ _ _ h => h) (.inl ⟨by rfl, fun _ _ => by go_simp⟩) S2 ?_
  simp only [Act.put, List.setIfInBounds_toArray, List.set_cons_zero, List.set_cons_succ]
  refine tk 30 (some 62) (.pointer (some ⟨g, 0, none⟩)) rfl rfl (by kernel_rfl) (by kernel_rfl) (by kernel_rfl) (fun _ _ _ h => h) (.inl ⟨by rfl, fun _ _ => by go_simp⟩) S2 ?_
  simp only [Act.put, List.setIfInBounds_toArray, List.set_cons_zero, List.set_cons_succ]
  refine tk 31 (some 63) (.pointer (some ⟨g, 8, none⟩)) rfl rfl (by kernel_rfl) (by kernel_rfl) (by kernel_rfl) (fun _ _ _ h => h) (.inl ⟨by rfl, fun _ _ => by go_simp⟩) S2 ?_
  simp only [Act.put, List.setIfInBounds_toArray, List.set_cons_zero, List.set_cons_succ]
  refine rd_ws1 { x with mb := B } 32 8 (.int .u16 (B : Int)) 27 (by kernel_rfl) rfl rfl rfl rfl rfl Q2.out (by kernel_rfl) rfl rfl rfl (fun _ _ _ _ _ _ => rfl) (by omega) rfl ?_
  intro w3 Q3 k3
  refine ⟨⟨_, Q3⟩, ?_⟩
  refine wpAnyH_done (by kernel_rfl) ?_ _
  have Q3 := hid Q3
  have K3 := hid (KK.out.trans (K2.out.trans k3))
  have d0 : w3.cell? ⟨g, 0, none⟩ = some (.int .i64 x.id) := Q3.out.cell fun _ _ _ _ _ _ => rfl
  clear k3
  go_wp2_with fail
  first | go_end0 | refine bodyPost_ret (results_none rfl _ _ _) rfl ?_
  exact ⟨rfl, Q3.out, K3.out⟩
/-- What it leaves; the note that a frame is missed. -/
def leaveN (m : Md) (x : Nd) : Nd := { x with mb := aftM m x, dv := if x.sl % m.n = x.id then lateL m x.dv 0 else x.dv }
def leaveL (m : Md) (x : Nd) : List Ac := if ¬ x.sl % m.n = x.id ∧ M10.hs x.mb (x.sl % m.n).toNat = true ∧ x.vd = 0 then [note 4 (x.sl % m.n)] else []
theorem leave_any (K : Nat → Prop) (base g : Nat) (x : Nd) (m : Md) (l : List Ac) (w : World) (h : Wk w K base g x m l) (hl : l.length ≤ 1000) (k : NdOk m x) :
    Calls Tryz.prog 80 #[.pointer (some ⟨g, 0, none⟩)] w (RetW K base g (leaveN m x) m (l ++ leaveL m x) (.tuple #[]) w) := by
  by_cases hO : x.sl % m.n = x.id
  · rw [show leaveL m x = [] from if_neg (fun q => q.1 hO), List.append_nil, show leaveN m x = { x with mb := aftM m x, dv := lateL m x.dv 0 } by unfold leaveN; rw [if_pos hO]]
    exact leave_own K base g x m l w h hl k hO
  · rw [show leaveN m x = { x with mb := aftM m x } by unfold leaveN; rw [if_neg hO]]
    cases hh : M10.hs x.mb (x.sl % m.n).toNat with
    | false => rw [show leaveL m x = [] from if_neg (fun q => by simp [hh] at q), List.append_nil]; exact leave_none K base g x m l w h hl k hO hh
    | true =>
      by_cases hv : x.vd = 0
      · rw [show leaveL m x = [note 4 (x.sl % m.n)] from if_pos ⟨hO, hh, hv⟩]
        exact leave_null K base g x m l w h hl k hO hh hv
      · rw [show leaveL m x = [] from if_neg (fun q => hv q.2.2), List.append_nil]
        exact leave_heard K base g x m l w h hl k hO hh hv
end Go.Proofs.YtlgedfljmgedfaaGreat
namespace Go.Proofs.YtlgedfljmgedfaaGreat
open Go Go.RowKit
open M10 (hid Md encm mv mz Oth range_keep there_keep range_other there_other setCells_oth setCells_size there_set Ty enct tv tz Fr encf fv fz)
open O6 (Oc enco ov oz)
open T9 (sv)
section
variable {w w' : World} {K K' : Nat → Prop} {base g : Nat} {x : Nd} {m : Md} {l : List Ac}
theorem WkU.drew {A B : Option Addr} {n c k d : Nat} (h : WkU w K base g x m l A n c B k d) : WkU w.drew K base g x m l A n c B k d := h.below (Below.refl _ w).drew
theorem Wk.fz (h : Wk w K base g x m l) {j : Nat} (hj : j < 20) : w.frozen? ⟨g, j, none⟩ = false := by
  obtain ⟨A, n, c, B, k, d, h⟩ := h
  exact h.fz hj
theorem Wk.lt (h : Wk w K base g x m l) : g < w.heap.size := by
  obtain ⟨A, n, c, B, k, d, h⟩ := h
  exact h.var.lt (Nat.zero_lt_succ 19)
theorem Kept.mono (h : Kept K' w w') (hK : ∀ k, K k → K' k) : Kept K w w' := ⟨h.os, h.tape, h.output, h.size, fun k hk => h.block k (hK k hk)⟩
theorem Wk.mono (h : Wk w K' base g x m l) (hK : ∀ k, K k → K' k) : Wk w K base g x m l := by
  obtain ⟨A, n, c, B, k, d, h⟩ := h
  exact ⟨A, n, c, B, k, d, h.var, h.devs, h.acts, h.bg, fun q => h.kg (hK _ q), fun b hb => ⟨fun q => (h.sa b hb).1 (hK _ q), (h.sa b hb).2⟩, fun b hb => ⟨fun q => (h.sb b hb).1 (hK _ q), (h.sb b hb).2⟩, fun b hb => h.kl b (hK _ hb), h.bl⟩
/-- A block made since stays, too. -/
theorem Wk.add (h : Wk w K base g x m l) (hb : Below w.heap.size w w') {b : Nat} (h0 : w.heap.size ≤ b) (h1 : b < w'.heap.size) : Wk w' (fun k => K k ∨ k = b) base g x m l := by
  obtain ⟨A, n, c, B, k, d, h⟩ := h
  have h' := h.below hb
  refine ⟨A, n, c, B, k, d, h'.var, h'.devs, h'.acts, h'.bg, ?_, fun q hq => ⟨?_, (h'.sa q hq).2⟩, fun q hq => ⟨?_, (h'.sb q hq).2⟩, ?_, h'.bl⟩
  · rintro (q | q)
    · exact h.kg q
    · have := h.var.lt (Nat.zero_lt_succ 19); omega
  · rintro (p | p)
    · exact (h.sa q hq).1 p
    · have := (h.devs.lt hq).2; omega
  · rintro (p | p)
    · exact (h.sb q hq).1 p
    · have := (h.acts.lt hq).2; omega
  · rintro q (p | p)
    · have := h.kl q p; have := hb.size; omega
    · omega
end
/-! ### sync -/
/-- Its slot was the last one of a round. -/
def lastB (m : Md) (x : Nd) : Bool := x.sl % m.n == m.n - 1
def syncN (m : Md) (x : Nd) : Nd := if lastB m x = true then { x with co := T9.corr m.d x.dv, dv := [] } else { x with co := 0 }
def syncL (m : Md) (x : Nd) : List Ac := if lastB m x = true then [note 8 (T9.corr m.d x.dv)] else []
theorem last_okm {m : Md} {x : Nd} (k : NdOk m x) (w : World) : Calls Tryz.prog 126 #[mv m, .int .u64 x.sl] w fun r w' => r = .returned (.tuple #[.bool (lastB m x), .int .i64 0]) ∧ Below w.heap.size w w' := by
  obtain ⟨n, s, ll, f, d⟩ := m
  exact M10.last_ok n s ll f d x.sl _ _ w k.hm k.s0 k.s1 rfl rfl
theorem corr_okm {m : Md} {x : Nd} (k : NdOk m x) {A : Option Addr} {n c base : Nat} (w : World) (h : OwnR w base 2 1 A n c (sv x.dv)) :
    Calls Tryz.prog 127 #[.int .i64 m.d, .slice A n c] w fun e w' => e = .returned (.tuple #[.int .i64 (T9.corr m.d x.dv), .int .i64 0]) ∧ Below w.heap.size w w' := by
  have hm := k.hm
  obtain ⟨h1, h2, h3, h4, h5, h6, h7, h8, h9⟩ := hm
  have hl := k.dl
  have hn : x.dv.length = n := by have := h.len; simpa [sv] using this
  have e : T9.corrE m.d x.dv = 0 := by unfold T9.corrE; rw [if_neg (by omega), if_neg (by omega)]
  exact T9.correct_any m.d A n c w.heap.size x.dv w (T9.Own.row (e := 2) (base := base) (c := c) h) (Nat.le_refl _) (fun y hy => by have := k.dd y hy; omega) (by omega) (by omega) (by omega) _ 0 rfl e
section
variable {w : World} {K : Nat → Prop} {base g : Nat} {x : Nd} {m : Md} {l : List Ac}
/-- The list given up. -/
theorem Wk.setD (h : Wk w K base g x m l) : Wk (w.setCells g 11 [.slice none 0 0]) K base g { x with dv := [] } m l ∧ Kept K w (w.setCells g 11 [.slice none 0 0]) := by
  obtain ⟨A, n, c, B, k, d, h⟩ := h
  have ho := setCells_oth g [.slice none 0 0] 11 w
  have hs := setCells_size g [.slice none 0 0] 11 w
  refine ⟨⟨none, 0, 0, B, k, d, ?_, OwnR.nil _ _ _ _, h.acts.oth ho.2 (fun e => (h.sb g e).2 rfl), h.bg, h.kg, (fun b hb => by cases hb), h.sb, by rw [hs]; exact h.kl, by rw [hs]; exact h.bl⟩, Kept.oth ho.1 ho.2 h.kg⟩
  exact h.var.set 11 [.slice none 0 0] (by show 11 + 1 ≤ 20; omega)
theorem wpList_wd {ops : Array Oper} {Q : Exit → Act → World → Prop} {rest : List Oper} {o : Oper} {a : Act} (hg : o.guard = none) (p z : Operand) (ho : o.op = .store 30 p z) (hx : a.eval p = .pointer (some ⟨g, 11, none⟩)) (hy : a.eval z = .slice none 0 0) (hv : Wk w K base g x m l)
    (h : ∀ w', Wk w' K base g { x with dv := [] } m l → Kept K w w' → wpList Tryz.prog ops Q rest (a.put o.dst undef) w') : wpList Tryz.prog ops Q (o :: rest) a w := by
  refine wpList_plain hg fun K' hK => ?_
  have ht : w.there g 11 1 := by
    obtain ⟨A, n, c, B, k, d, h1, _⟩ := hv
    exact h1.there (by show 11 + 1 ≤ 20; omega)
  have := run_store1 30 g 11 (.slice none 0 0) w (by kernel_rfl) rfl rfl ht
  obtain ⟨r1, r2⟩ := hv.setD
  unfold Oper.wp execOp
  simp only [ho, hx, hy, Sem.run_bind, Sem.run_pure, Result.andThen_ok, this]
  exact hK _ _ (h _ r1 r2)
end
set_option maxRecDepth 100000 in
set_option maxHeartbeats 2000000 in
theorem sync_no (K : Nat → Prop) (base g : Nat) (x : Nd) (m : Md) (l : List Ac) (w : World) (h : Wk w K base g x m l) (k : NdOk m x) (hL : lastB m x = false) :
    Calls Tryz.prog 81 #[.pointer (some ⟨g, 0, none⟩)] w (RetW K base g { x with co := 0 } m l (.tuple #[]) w) := by
  have H := hid h
  have T0 := hid (fun (w1 : World) (d : Nat) (os : Array Obj) => Calls.regrown_of (d := d) (os := os) (last_okm k (Sort.grow (redrawn w1 d) os)))
  rw [hL] at T0
  clear h k hL
  go_enter Tryz.func81, Tryz.ntmps81
  go_wp2_with (first
    | (refine wpList_ws1 { x with co := 0 } 7 (.int .i64 0) 2 rfl _ _ rfl rfl rfl H.out (by kernel_rfl) rfl rfl rfl (fun _ _ _ _ _ _ => rfl) (by omega) ?_; intro w1 W1 k1; have W1 := hid W1; have k1 := hid k1))
  have c2 : Hid (w1.cell? ⟨g, 2, none⟩ = some (.int .u64 x.sl)) := hid (W1.out.cell fun _ _ _ _ _ _ => rfl)
  refine wp_region_quiet_below (by kernel_rfl) (by kernel_rfl) ?_
  repeat (first | refine wpQuiet_wm rfl rfl rfl W1.out ?_ | refine wpQuiet_gl1 24 rfl rfl rfl Tryz.isAgg24 c2.out ?_ | quiet_step (with_reducible exact T0.out _ _ _))
  refine wpQuiet_nil ?_
  intro _ hw'
  obtain ⟨⟨dq, osq⟩, hw''⟩ := hw'
  subst hw''
  go_wp2_with fail
  first | go_end0 | refine bodyPost_ret (results_none rfl _ _ _) rfl ?_
  exact ⟨rfl, W1.out.below (below_regrown w1 dq osq), k1.out.trans (W1.out.keptb (below_regrown w1 dq osq))⟩
set_option maxRecDepth 100000 in
set_option maxHeartbeats 2000000 in
theorem sync_last (K : Nat → Prop) (base g : Nat) (x : Nd) (m : Md) (l : List Ac) (w : World) (h : Wk w K base g x m l) (hl : l.length ≤ 1000) (k : NdOk m x) (hL : lastB m x = true) :
    Calls Tryz.prog 81 #[.pointer (some ⟨g, 0, none⟩)] w (RetW K base g { x with co := T9.corr m.d x.dv, dv := [] } m (l ++ [note 8 (T9.corr m.d x.dv)]) (.tuple #[]) w) := by
  have H := hid h
  have T0 := hid (fun (w1 : World) (d : Nat) (os : Array Obj) => Calls.regrown_of (d := d) (os := os) (last_okm k (Sort.grow (redrawn w1 d) os)))
  rw [hL] at T0
  have HC := hid (fun (A : Option Addr) (n c base : Nat) (w : World) (h : OwnR w base 2 1 A n c (sv x.dv)) => corr_okm k w h)
  have HN := hid (fun w h => note_any K base g { x with co := T9.corr m.d x.dv, dv := [] } m l 8 (T9.corr m.d x.dv) w h hl)
  clear h k hL hl
  generalize T9.corr m.d x.dv = C at *
  go_enter Tryz.func81, Tryz.ntmps81
  go_wp2_with (first
    | (refine wpList_ws1 { x with co := 0 } 7 (.int .i64 0) 2 rfl _ _ rfl rfl rfl H.out (by kernel_rfl) rfl rfl rfl (fun _ _ _ _ _ _ => rfl) (by omega) ?_; intro w1 W1 k1; have W1 := hid W1; have k1 := hid k1))
  have c2 : Hid (w1.cell? ⟨g, 2, none⟩ = some (.int .u64 x.sl)) := hid (W1.out.cell fun _ _ _ _ _ _ => rfl)
  refine wp_region_quiet_below (by kernel_rfl) (by kernel_rfl) ?_
  repeat (first | refine wpQuiet_wm rfl rfl rfl W1.out ?_ | refine wpQuiet_gl1 24 rfl rfl rfl Tryz.isAgg24 c2.out ?_ | quiet_step (with_reducible exact T0.out _ _ _))
  refine wpQuiet_nil ?_
  intro _ hw'
  obtain ⟨⟨dq, osq⟩, hw''⟩ := hw'
  subst hw''
  have W2 := hid (W1.out.below (below_regrown w1 dq osq))
  have K2 := hid (k1.out.trans (W1.out.keptb (below_regrown w1 dq osq)))
  generalize Sort.grow (redrawn w1 dq) osq = w2 at *
  clear c2 T0 W1 k1 H
  obtain ⟨A, n, c, B, kk, dd, U2⟩ := W2.out
  have U2 := hid U2
  have c18 : w2.cell? ⟨g, 18, none⟩ = some (.int .i64 m.d) := U2.out.var.cell rfl
  have c11 : w2.cell? ⟨g, 11, none⟩ = some (.slice A n c) := U2.out.var.cell rfl
  go_wp2_with fail
  go_region_held3 (fun w' => w'.cell? ⟨g, 18, none⟩ = some (.int .i64 m.d) ∧ w'.cell? ⟨g, 11, none⟩ = some (.slice A n c)) (first | (go_keep; done) | exact ⟨(U3.out.var.set 7 [.int .i64 C] (Nat.le_of_ble_eq_true rfl)).cell rfl, (U3.out.var.set 7 [.int .i64 C] (Nat.le_of_ble_eq_true rfl)).cell rfl⟩)
    (first | (go_at_call 127; (with_reducible refine (HC.out A n c base w2.drew U2.out.devs.drew).mono ?_); rintro e w3 ⟨rfl, b3⟩; have U3 := hid (U2.out.drew.below b3); have W3 := hid (W2.out.drew.below b3); have K3 := hid (K2.out.trans ((W2.out.keptb (Below.refl _ _).drew).trans (W2.out.drew.keptb b3))); have d18 : w3.cell? ⟨g, 18, none⟩ = some (.int .i64 m.d) := W3.out.cell fun _ _ _ _ _ _ => rfl; have d11 : w3.cell? ⟨g, 11, none⟩ = some (.slice A n c) := (U2.out.drew.below b3).var.cell rfl; have d5 : w3.cell? ⟨g, 7, none⟩ = some (.int .i64 0) := W3.out.cell fun _ _ _ _ _ _ => rfl; have f5 := W3.out.fz (j := 7) (by decide); clear b3))
  generalize hw3 : World.setCell _ ⟨g, 7, none⟩ _ = w4
  have hw4 : w3.setCells g 7 [.int .i64 C] = w4 := hw3
  obtain ⟨W4, k4⟩ := W3.out.set { x with co := C } 7 [.int .i64 C] rfl (fun _ _ _ _ _ _ => rfl) (by show 7 + 1 ≤ 20; omega)
  rw [hw4] at W4 k4
  have W4 := hid W4
  have K4 := hid (K3.out.trans k4)
  clear hw3 hw4 k4 K3 W3 U3 d18 d11 d5 f5 c18 c11 U2 W2 K2
  go_wp2_with (first
    | (go_at_call 72; (with_reducible refine (HN.out w5 W5.out).mono ?_); rintro e w6 ⟨rfl, W6, k6⟩)
    | (refine wpList_wd rfl _ _ rfl rfl rfl W4.out ?_; intro w5 W5 k5; have W5 := hid W5; have e5 : w5.cell? ⟨g, 7, none⟩ = some (.int .i64 C) := W5.out.cell fun _ _ _ _ _ _ => rfl))
  first | go_end0 | refine bodyPost_ret (results_none rfl _ _ _) rfl ?_
  exact ⟨rfl, W6, K4.out.trans (k5.trans k6)⟩
theorem sync_any (K : Nat → Prop) (base g : Nat) (x : Nd) (m : Md) (l : List Ac) (w : World) (h : Wk w K base g x m l) (hl : l.length ≤ 1000) (k : NdOk m x) :
    Calls Tryz.prog 81 #[.pointer (some ⟨g, 0, none⟩)] w (RetW K base g (syncN m x) m (l ++ syncL m x) (.tuple #[]) w) := by
  cases hL : lastB m x with
  | false =>
    rw [show syncN m x = { x with co := 0 } from if_neg (by rw [hL]; decide), show syncL m x = [] from if_neg (by rw [hL]; decide), List.append_nil]
    exact sync_no K base g x m l w h k hL
  | true =>
    rw [show syncN m x = _ from if_pos hL, show syncL m x = _ from if_pos hL]
    exact sync_last K base g x m l w h hl k hL
end Go.Proofs.YtlgedfljmgedfaaGreat
namespace Go.Proofs.YtlgedfljmgedfaaGreat
open Go Go.RowKit
open M10 (hid Md encm mv mz Oth range_keep there_keep range_other there_other setCells_oth setCells_size there_set Ty enct tv tz Fr encf fv fz)
open O6 (Oc enco ov oz)
open T9 (sv)
/-! ### begin -/
/-- What it is ahead of a slot. -/
def preN (x : Nd) : Nd := { x with se := false, vd := 0 }
def beginN (m : Md) (x : Nd) : Nd :=
  if ¬ x.sl % m.n = x.id then preN x
  else if 0 < x.t.b ∧ x.t.g ≤ x.t.b then { preN x with ph := 3 }
  else { preN x with t := ⟨1, 0⟩ }
def beginL (m : Md) (x : Nd) : List Ac :=
  if ¬ x.sl % m.n = x.id then [timr (timeT x (m.s + x.co))]
  else if 0 < x.t.b ∧ x.t.g ≤ x.t.b then [note 9 0]
  else [timr (timeT x m.l)]
def beginE (m : Md) (x : Nd) : Int :=
  if ¬ x.sl % m.n = x.id then timeE x (m.s + x.co)
  else if 0 < x.t.b ∧ x.t.g ≤ x.t.b then 0
  else timeE x m.l
theorem len_in {m : Md} {x : Nd} (k : NdOk m x) : 0 ≤ m.s + x.co ∧ m.s + x.co ≤ 67108864 := by
  obtain ⟨h1, h2, h3, h4, h5, h6, h7, h8, h9⟩ := k.hm
  have := k.c0
  have := k.c1
  omega
set_option maxRecDepth 100000 in
set_option maxHeartbeats 2000000 in
theorem begin_other (K : Nat → Prop) (base g : Nat) (x : Nd) (m : Md) (l : List Ac) (w : World) (h : Wk w K base g x m l) (hl : l.length ≤ 1000) (k : NdOk m x) (hO : ¬ x.sl % m.n = x.id) :
    Calls Tryz.prog 82 #[.pointer (some ⟨g, 0, none⟩)] w (RetW K base g (preN x) m (l ++ [timr (timeT x (m.s + x.co))]) (.int .i64 (timeE x (m.s + x.co))) w) := by
  have H := hid h
  obtain ⟨q0, q1⟩ := len_in k
  have T0 := hid (fun (w1 : World) (h : Wk w1 K base g (preN x) m l) (d : Nat) (os : Array Obj) => Calls.regrown_of (d := d) (os := os) (owner_w K base g (preN x) m l (Sort.grow (redrawn w1 d) os) (h.below (below_regrown w1 d os)) k.hm k.s0 k.s1))
  have HS := hid (fun (w1 : World) (h : Wk w1 K base g (preN x) m l) => length_w K base g (preN x) m l w1 h _ rfl (by show -9223372036854775808 ≤ m.s + x.co; omega) (by show m.s + x.co ≤ 9223372036854775807; omega))
  have HT := hid (fun (w1 : World) (h : Wk w1 K base g (preN x) m l) => timer_any K base g (preN x) m l (m.s + x.co) w1 h hl ⟨k.ho, k.t0, k.t1⟩ q0 q1)
  have e1 : (x.sl % m.n != x.id) = true := by simp [hO]
  rw [show (preN x).sl = x.sl from rfl] at T0
  rw [show m.s + (preN x).co = m.s + x.co from rfl] at HS
  rw [show timeT (preN x) (m.s + x.co) = timeT x (m.s + x.co) from rfl, show timeE (preN x) (m.s + x.co) = timeE x (m.s + x.co) from rfl] at HT
  clear h k hl hO q0 q1
  generalize timeT x (m.s + x.co) = T at *
  generalize timeE x (m.s + x.co) = E at *
  generalize m.s + x.co = L at *
  generalize x.sl % m.n = O at *
  go_enter Tryz.func82, Tryz.ntmps82
  go_wp2_with (first
    | (refine wpList_ws1 (preN x) 13 (.int .i64 0) 3 rfl _ _ rfl rfl rfl W1.out (by kernel_rfl) rfl rfl rfl (fun _ _ _ _ _ _ => rfl) (by omega) ?_; intro w2 W2 k2; have W2 := hid W2; have k2 := hid (k1.out.trans k2))
    | (refine wpList_ws1 { x with se := false } 12 (.bool false) 4 rfl _ _ rfl rfl rfl H.out (by kernel_rfl) rfl rfl rfl (fun _ _ _ _ _ _ => rfl) (by omega) ?_; intro w1 W1 k1; have W1 := hid W1; have k1 := hid k1))
  have c0 : Hid (w2.cell? ⟨g, 0, none⟩ = some (.int .i64 x.id)) := hid (W2.out.cell fun _ _ _ _ _ _ => rfl)
  refine wp_region_quiet_below (by kernel_rfl) (by kernel_rfl) ?_
  repeat (first | refine wpQuiet_gl1 3 rfl rfl rfl Tryz.isAgg3 c0.out ?_ | quiet_step (with_reducible exact T0.out w2 W2.out _ _))
  refine wpQuiet_nil ?_
  intro _ hw'
  obtain ⟨⟨dq, osq⟩, hw''⟩ := hw'
  subst hw''
  have W3 := hid (W2.out.below (below_regrown w2 dq osq))
  have K3 := hid (k2.out.trans (W2.out.keptb (below_regrown w2 dq osq)))
  generalize Sort.grow (redrawn w2 dq) osq = w3 at *
  clear c0 T0 W1 k1 H W2 k2
  go_wp2_with (first
    | (go_at_call 73; (with_reducible refine (HT.out w4 W4.out).mono ?_); rintro e w5 ⟨rfl, W5, k5⟩)
    | (go_at_call 78; (with_reducible refine (HS.out w3 W3.out).mono ?_); rintro e w4 ⟨rfl, b4⟩; have W4 := hid (W3.out.below b4); have K4 := hid (K3.out.trans (W3.out.keptb b4))))
  go_ret
  exact ⟨rfl, W5, K4.out.trans k5⟩
set_option maxRecDepth 100000 in
set_option maxHeartbeats 2000000 in
theorem begin_froze (K : Nat → Prop) (base g : Nat) (x : Nd) (m : Md) (l : List Ac) (w : World) (h : Wk w K base g x m l) (hl : l.length ≤ 1000) (k : NdOk m x) (hO : x.sl % m.n = x.id) (hC : 0 < x.t.b ∧ x.t.g ≤ x.t.b) :
    Calls Tryz.prog 82 #[.pointer (some ⟨g, 0, none⟩)] w (RetW K base g { preN x with ph := 3 } m (l ++ [note 9 0]) (.int .i64 0) w) := by
  have H := hid h
  have T0 := hid (fun (w1 : World) (h : Wk w1 K base g (preN x) m l) (d : Nat) (os : Array Obj) => Calls.regrown_of (d := d) (os := os) (owner_w K base g (preN x) m l (Sort.grow (redrawn w1 d) os) (h.below (below_regrown w1 d os)) k.hm k.s0 k.s1))
  have HC := hid (fun w => M10.clique_any (preN x).t true (decide_eq_true hC) w)
  have HN := hid (fun (w1 : World) (h : Wk w1 K base g { preN x with ph := 3 } m l) => note_any K base g { preN x with ph := 3 } m l 9 0 w1 h hl)
  have e1 : (x.sl % m.n != x.id) = false := by simp [hO]
  rw [show (preN x).sl = x.sl from rfl] at T0
  clear h k hl hO hC
  generalize x.sl % m.n = O at *
  go_enter Tryz.func82, Tryz.ntmps82
  go_wp2_with (first
    | (refine wpList_ws1 (preN x) 13 (.int .i64 0) 3 rfl _ _ rfl rfl rfl W1.out (by kernel_rfl) rfl rfl rfl (fun _ _ _ _ _ _ => rfl) (by omega) ?_; intro w2 W2 k2; have W2 := hid W2; have k2 := hid (k1.out.trans k2))
    | (refine wpList_ws1 { x with se := false } 12 (.bool false) 4 rfl _ _ rfl rfl rfl H.out (by kernel_rfl) rfl rfl rfl (fun _ _ _ _ _ _ => rfl) (by omega) ?_; intro w1 W1 k1; have W1 := hid W1; have k1 := hid k1))
  have c0 : Hid (w2.cell? ⟨g, 0, none⟩ = some (.int .i64 x.id)) := hid (W2.out.cell fun _ _ _ _ _ _ => rfl)
  refine wp_region_quiet_below (by kernel_rfl) (by kernel_rfl) ?_
  repeat (first | refine wpQuiet_gl1 3 rfl rfl rfl Tryz.isAgg3 c0.out ?_ | quiet_step (with_reducible exact T0.out w2 W2.out _ _))
  refine wpQuiet_nil ?_
  intro _ hw'
  obtain ⟨⟨dq, osq⟩, hw''⟩ := hw'
  subst hw''
  have W3 := hid (W2.out.below (below_regrown w2 dq osq))
  have K3 := hid (k2.out.trans (W2.out.keptb (below_regrown w2 dq osq)))
  generalize Sort.grow (redrawn w2 dq) osq = w3 at *
  clear c0 T0 W1 k1 H W2 k2
  go_wp2_with (first
    | (go_at_call 72; (with_reducible refine (HN.out w5 W5.out).mono ?_); rintro e w6 ⟨rfl, W6, k6⟩)
    | (refine wpList_ws1 { preN x with ph := 3 } 1 (.int .i64 3) 3 rfl _ _ rfl rfl rfl W4.out (by kernel_rfl) rfl rfl rfl (fun _ _ _ _ _ _ => rfl) (by omega) ?_; intro w5 W5 k5; have W5 := hid W5; have k5 := hid (K4.out.trans k5))
    | (go_at_call 128; (with_reducible refine (HC.out w3).mono ?_); rintro e w4 ⟨rfl, b4⟩; have W4 := hid (W3.out.below b4); have K4 := hid (K3.out.trans (W3.out.keptb b4)))
    | (refine wpList_lt _ rfl rfl W3.out.ty rfl ?_))
  go_ret
  exact ⟨rfl, W6, k5.out.trans k6⟩
set_option maxRecDepth 100000 in
set_option maxHeartbeats 2000000 in
theorem begin_own (K : Nat → Prop) (base g : Nat) (x : Nd) (m : Md) (l : List Ac) (w : World) (h : Wk w K base g x m l) (hl : l.length ≤ 1000) (k : NdOk m x) (hO : x.sl % m.n = x.id) (hC : ¬ (0 < x.t.b ∧ x.t.g ≤ x.t.b)) :
    Calls Tryz.prog 82 #[.pointer (some ⟨g, 0, none⟩)] w (RetW K base g { preN x with t := ⟨1, 0⟩ } m (l ++ [timr (timeT x m.l)]) (.int .i64 (timeE x m.l)) w) := by
  have H := hid h
  have q0 : 0 ≤ m.l ∧ m.l ≤ 67108864 := by obtain ⟨h1, h2, h3, h4, h5, h6, h7, h8, h9⟩ := k.hm; omega
  have T0 := hid (fun (w1 : World) (h : Wk w1 K base g (preN x) m l) (d : Nat) (os : Array Obj) => Calls.regrown_of (d := d) (os := os) (owner_w K base g (preN x) m l (Sort.grow (redrawn w1 d) os) (h.below (below_regrown w1 d os)) k.hm k.s0 k.s1))
  have HC := hid (fun w => M10.clique_any (preN x).t false (decide_eq_false hC) w)
  have HT := hid (fun (w1 : World) (h : Wk w1 K base g { preN x with t := ⟨1, 0⟩ } m l) => timer_any K base g { preN x with t := ⟨1, 0⟩ } m l m.l w1 h hl ⟨k.ho, k.t0, k.t1⟩ q0.1 q0.2)
  have e1 : (x.sl % m.n != x.id) = false := by simp [hO]
  rw [show (preN x).sl = x.sl from rfl] at T0
  rw [show timeT { preN x with t := ⟨1, 0⟩ } m.l = timeT x m.l from rfl, show timeE { preN x with t := ⟨1, 0⟩ } m.l = timeE x m.l from rfl] at HT
  clear h k hl hO hC q0
  generalize timeT x m.l = T at *
  generalize timeE x m.l = E at *
  generalize x.sl % m.n = O at *
  go_enter Tryz.func82, Tryz.ntmps82
  go_wp2_with (first
    | (refine wpList_ws1 (preN x) 13 (.int .i64 0) 3 rfl _ _ rfl rfl rfl W1.out (by kernel_rfl) rfl rfl rfl (fun _ _ _ _ _ _ => rfl) (by omega) ?_; intro w2 W2 k2; have W2 := hid W2; have k2 := hid (k1.out.trans k2))
    | (refine wpList_ws1 { x with se := false } 12 (.bool false) 4 rfl _ _ rfl rfl rfl H.out (by kernel_rfl) rfl rfl rfl (fun _ _ _ _ _ _ => rfl) (by omega) ?_; intro w1 W1 k1; have W1 := hid W1; have k1 := hid k1))
  have c0 : Hid (w2.cell? ⟨g, 0, none⟩ = some (.int .i64 x.id)) := hid (W2.out.cell fun _ _ _ _ _ _ => rfl)
  refine wp_region_quiet_below (by kernel_rfl) (by kernel_rfl) ?_
  repeat (first | refine wpQuiet_gl1 3 rfl rfl rfl Tryz.isAgg3 c0.out ?_ | quiet_step (with_reducible exact T0.out w2 W2.out _ _))
  refine wpQuiet_nil ?_
  intro _ hw'
  obtain ⟨⟨dq, osq⟩, hw''⟩ := hw'
  subst hw''
  have W3 := hid (W2.out.below (below_regrown w2 dq osq))
  have K3 := hid (k2.out.trans (W2.out.keptb (below_regrown w2 dq osq)))
  generalize Sort.grow (redrawn w2 dq) osq = w3 at *
  clear c0 T0 W1 k1 H W2 k2
  go_wp2_with (first
    | (go_at_call 73; (with_reducible refine (HT.out w6 W6.out).mono ?_); rintro e w7 ⟨rfl, W7, k7⟩)
    | (refine wpList_wsn { preN x with t := ⟨1, 0⟩ } 9 (enct ⟨1, 0⟩) 29 rfl _ _ rfl rfl rfl W5.out size29 (M10.enct_one _) rfl (fun _ _ _ _ _ _ => rfl) (by decide) ?_; intro w6 W6 k6; have W6 := hid W6; have k6 := hid (K5.out.trans k6); have c16 : w6.cell? ⟨g, 16, none⟩ = some (.int .i64 m.l) := W6.out.cell fun _ _ _ _ _ _ => rfl)
    | (go_at_call 76; (with_reducible refine (one_any w4).mono ?_); rintro e w5 ⟨rfl, b5⟩; have W5 := hid (W4.out.below b5); have K5 := hid (K4.out.trans (W4.out.keptb b5)))
    | (go_at_call 128; (with_reducible refine (HC.out w3).mono ?_); rintro e w4 ⟨rfl, b4⟩; have W4 := hid (W3.out.below b4); have K4 := hid (K3.out.trans (W3.out.keptb b4)))
    | (refine wpList_lt _ rfl rfl W3.out.ty rfl ?_))
  go_ret
  exact ⟨rfl, W7, k6.out.trans k7⟩
theorem begin_any (K : Nat → Prop) (base g : Nat) (x : Nd) (m : Md) (l : List Ac) (w : World) (h : Wk w K base g x m l) (hl : l.length ≤ 1000) (k : NdOk m x) :
    Calls Tryz.prog 82 #[.pointer (some ⟨g, 0, none⟩)] w (RetW K base g (beginN m x) m (l ++ beginL m x) (.int .i64 (beginE m x)) w) := by
  unfold beginN beginL beginE
  by_cases hO : x.sl % m.n = x.id
  · rw [if_neg (not_not_intro hO), if_neg (not_not_intro hO), if_neg (not_not_intro hO)]
    by_cases hC : 0 < x.t.b ∧ x.t.g ≤ x.t.b
    · rw [if_pos hC, if_pos hC, if_pos hC]
      exact begin_froze K base g x m l w h hl k hO hC
    · rw [if_neg hC, if_neg hC, if_neg hC]
      exact begin_own K base g x m l w h hl k hO hC
  · rw [if_pos hO, if_pos hO, if_pos hO]
    exact begin_other K base g x m l w h hl k hO
end Go.Proofs.YtlgedfljmgedfaaGreat
namespace Go.Proofs.YtlgedfljmgedfaaGreat
open Go Go.RowKit
open M10 (hid Md encm mv mz Oth range_keep there_keep range_other there_other setCells_oth setCells_size there_set Ty enct tv tz Fr encf fv fz)
open O6 (Oc enco ov oz)
open T9 (sv)
/-! ### Bounds -/
theorem sl_sync (m : Md) (x : Nd) : (syncN m x).sl = x.sl := by unfold syncN; split <;> rfl
theorem sl_leave (m : Md) (x : Nd) : (leaveN m x).sl = x.sl := rfl
theorem leaveL_len (m : Md) (x : Nd) : (leaveL m x).length ≤ 1 := by unfold leaveL; split <;> simp
theorem syncL_len (m : Md) (x : Nd) : (syncL m x).length ≤ 1 := by unfold syncL; split <;> simp
theorem NdOk.dpos {m : Md} {x : Nd} (k : NdOk m x) : 1 ≤ m.d := by obtain ⟨h1, h2, h3, h4, h5, h6, h7, h8, h9⟩ := k.hm; exact h7
theorem late_ok {m : Md} {dv : List Int} {t : Int} (dl : (dv.length : Int) ≤ m.n) (dd : ∀ y ∈ dv, -m.d ≤ y ∧ y ≤ m.d) (h0 : -m.d ≤ t) (h1 : t ≤ m.d) : ((lateL m dv t).length : Int) ≤ m.n ∧ ∀ y ∈ lateL m dv t, -m.d ≤ y ∧ y ≤ m.d := by
  unfold lateL
  split
  · refine ⟨by simp; omega, fun y hy => ?_⟩
    simp at hy
    rcases hy with hy | rfl
    · exact dd y hy
    · exact ⟨h0, h1⟩
  · exact ⟨dl, dd⟩
theorem aftM_lt (m : Md) (x : Nd) (k : NdOk m x) : aftM m x < 65536 := by
  have hy : M10.May m x.id x.sl := ⟨k.hm, k.s1, k.i0, k.i1⟩
  unfold aftM M10.aftM
  rw [if_pos ⟨hy, k.v0, k.v1⟩]
  obtain ⟨_, h2, _, _, h5⟩ := M10.slO_cast m x.id x.sl hy
  exact M10.aft_lt _ _ _ _ k.mb h2 h5
theorem NdOk.leave {m : Md} {x : Nd} (k : NdOk m x) : NdOk m (leaveN m x) := by
  have hd := k.dpos
  obtain ⟨l1, l2⟩ := late_ok k.dl k.dd (t := 0) (by omega) (by omega)
  refine ⟨k.hm, k.ho, k.i0, k.i1, k.p0, k.p1, k.s0, k.s1, k.t0, k.t1, k.c0, k.c1, aftM_lt m x k, k.ty, ?_, ?_, k.v0, k.v1⟩
  · show (((if x.sl % m.n = x.id then lateL m x.dv 0 else x.dv).length : Nat) : Int) ≤ m.n
    split
    · exact l1
    · exact k.dl
  · show ∀ y ∈ (if x.sl % m.n = x.id then lateL m x.dv 0 else x.dv), -m.d ≤ y ∧ y ≤ m.d
    split
    · exact l2
    · exact k.dd
theorem corr_in {d : Int} (hd : 0 ≤ d) (l : List Int) : -d ≤ T9.corr d l ∧ T9.corr d l ≤ d := by
  unfold T9.corr
  rw [if_neg (by omega)]
  split
  · omega
  · split
    · omega
    · omega
theorem NdOk.sync {m : Md} {x : Nd} (k : NdOk m x) : NdOk m (syncN m x) := by
  have hd := k.dpos
  unfold syncN
  split
  · obtain ⟨c0, c1⟩ := corr_in (d := m.d) (by omega) x.dv
    exact ⟨k.hm, k.ho, k.i0, k.i1, k.p0, k.p1, k.s0, k.s1, k.t0, k.t1, c0, c1, k.mb, k.ty, (by have := k.hm.1; show ((0 : Nat) : Int) ≤ m.n; omega), (fun y hy => by cases hy), k.v0, k.v1⟩
  · exact ⟨k.hm, k.ho, k.i0, k.i1, k.p0, k.p1, k.s0, k.s1, k.t0, k.t1, (by show -m.d ≤ 0; omega), (by show 0 ≤ m.d; omega), k.mb, k.ty, k.dl, k.dd, k.v0, k.v1⟩
theorem time_in {x : Nd} (r : Run x) {n : Int} (n0 : 0 ≤ n) (n1 : n ≤ 67108864) : 0 ≤ timeT x n ∧ timeT x n ≤ 1152921504606846976 := by
  have p := ps_in r.1 n0 n1
  have := r.2.1
  unfold timeT
  split <;> omega
theorem timeE_or (x : Nd) (n : Int) : timeE x n = 0 ∨ timeE x n = 2 := by unfold timeE; split <;> simp
theorem NdOk.run {m : Md} {x : Nd} (k : NdOk m x) : Run x := ⟨k.ho, k.t0, k.t1⟩
/-- What it is when the next slot begins. -/
def midN (m : Md) (x : Nd) : Nd := { syncN m (leaveN m x) with sl := x.sl + 1, st := timeT x (m.s + x.co), o := O6.aft x.o (m.s + x.co) }
theorem NdOk.mid {m : Md} {x : Nd} (k : NdOk m x) (hs : ¬ x.sl = 4294967296) (_hE : timeE x (m.s + x.co) = 0) : NdOk m (midN m x) := by
  have k2 := k.leave.sync
  obtain ⟨q0, q1⟩ := len_in k
  obtain ⟨t0, t1⟩ := time_in k.run q0 q1
  have := k.s0
  have := k.s1
  exact ⟨k.hm, O6.aft_ok _ _ k.ho, k2.i0, k2.i1, k2.p0, k2.p1, (by show 0 ≤ x.sl + 1; omega), (by show x.sl + 1 ≤ 4294967296; omega), t0, t1, k2.c0, k2.c1, k2.mb, k2.ty, k2.dl, k2.dd, k2.v0, k2.v1⟩
theorem NdOk.begin {m : Md} {x : Nd} (k : NdOk m x) : NdOk m (beginN m x) := by
  unfold beginN
  split
  · exact ⟨k.hm, k.ho, k.i0, k.i1, k.p0, k.p1, k.s0, k.s1, k.t0, k.t1, k.c0, k.c1, k.mb, k.ty, k.dl, k.dd, (show (0 : Int) ≤ 0 by decide), (show (0 : Int) ≤ 3 by decide)⟩
  · split
    · exact ⟨k.hm, k.ho, k.i0, k.i1, (show (0 : Int) ≤ 3 by decide), (show (3 : Int) ≤ 3 by decide), k.s0, k.s1, k.t0, k.t1, k.c0, k.c1, k.mb, k.ty, k.dl, k.dd, (show (0 : Int) ≤ 0 by decide), (show (0 : Int) ≤ 3 by decide)⟩
    · exact ⟨k.hm, k.ho, k.i0, k.i1, k.p0, k.p1, k.s0, k.s1, k.t0, k.t1, k.c0, k.c1, k.mb, ⟨⟨(show (0 : Int) ≤ 1 by decide), (show (1 : Int) ≤ 1073741824 by decide)⟩, (show (0 : Int) ≤ 0 by decide), (show (0 : Int) ≤ 1073741824 by decide)⟩, k.dl, k.dd, (show (0 : Int) ≤ 0 by decide), (show (0 : Int) ≤ 3 by decide)⟩
/-- A node at work as one slot's end leaves it; a clock's variable beside it. -/
def SE (K : Nat → Prop) (base g : Nat) (x : Nd) (m : Md) (l : List Ac) (b : Nat) (lf : Oc) (w : World) : Prop := (∃ (q s : Int) (o : Oc), Wk w K base g { x with sl := q, st := s, o := o } m l) ∧ w.rangeAt b 0 (enco lf)
set_option maxRecDepth 100000 in
set_option maxHeartbeats 2000000 in
theorem end_ok (K : Nat → Prop) (base g : Nat) (x : Nd) (m : Md) (l : List Ac) (w : World) (h : Wk w K base g x m l) (hl : l.length ≤ 900) (k : NdOk m x) (hs : ¬ x.sl = 4294967296) (hE : timeE x (m.s + x.co) = 0) :
    Calls Tryz.prog 41 #[.pointer (some ⟨g, 0, none⟩)] w (RetW K base g (beginN m (midN m x)) m (l ++ leaveL m x ++ syncL m (leaveN m x) ++ beginL m (midN m x)) (.int .i64 (beginE m (midN m x))) w) := by
  have H := hid h
  obtain ⟨q0, q1⟩ := len_in k
  have HS := hid (fun (w1 : World) (h : Wk w1 K base g x m l) => length_w K base g x m l w1 h _ rfl (by omega) (by omega))
  have HT := hid (fun (w1 : World) (h : Wk w1 K base g x m l) => time_any K base g x m l (m.s + x.co) w1 h ⟨k.ho, k.t0, k.t1⟩ q0 q1)
  rw [hE] at HT
  have HL := hid (fun (K : Nat → Prop) (w1 : World) (h : Wk w1 K base g x m l) => leave_any K base g x m l w1 h (by omega) k)
  have HY := hid (fun (K : Nat → Prop) (w1 : World) (h : Wk w1 K base g (leaveN m x) m (l ++ leaveL m x)) => sync_any K base g (leaveN m x) m (l ++ leaveL m x) w1 h (by have := leaveL_len m x; simp; omega) k.leave)
  have HB := hid (fun (K : Nat → Prop) (w1 : World) (h : Wk w1 K base g (midN m x) m (l ++ leaveL m x ++ syncL m (leaveN m x))) => begin_any K base g (midN m x) m (l ++ leaveL m x ++ syncL m (leaveN m x)) w1 h (by have := leaveL_len m x; have := syncL_len m (leaveN m x); simp; omega) (k.mid hs hE))
  have e1 : (x.sl == 4294967296) = false := by simp [hs]
  have eS : IntKind.u64.wrap ((syncN m (leaveN m x)).sl + 1) = x.sl + 1 := by rw [sl_sync, sl_leave, IntKind.wrap_u64]; have := k.s0; have := k.s1; omega
  have eM : midN m x = { syncN m (leaveN m x) with sl := x.sl + 1, st := timeT x (m.s + x.co), o := O6.aft x.o (m.s + x.co) } := rfl
  generalize beginN m (midN m x) = zN at *
  generalize beginL m (midN m x) = zL at *
  generalize beginE m (midN m x) = zE at *
  rw [eM] at HB
  clear h hl k hs hE q0 q1 eM
  generalize timeT x (m.s + x.co) = T at *
  generalize O6.aft x.o (m.s + x.co) = lf at *
  generalize m.s + x.co = L at *
  generalize syncN m (leaveN m x) = y at *
  generalize l ++ leaveL m x ++ syncL m (leaveN m x) = l1 at *
  have c2 : w.cell? ⟨g, 2, none⟩ = some (.int .u64 x.sl) := H.out.cell fun _ _ _ _ _ _ => rfl
  generalize x.sl = s0 at *
  generalize s0 + 1 = S1v at *
  go_enter Tryz.func41, Tryz.ntmps41
  go_wp2_with (first
    | (go_at_call 81; (with_reducible refine (HY.out _ w5 W5.out).mono ?_); rintro e w6 ⟨rfl, W6, k6⟩; have W6 := hid W6; have K6 := hid (K5.out.trans k6))
    | (go_at_call 80; (with_reducible refine (HL.out _ w4 W4.out).mono ?_); rintro e w5 ⟨rfl, W5, k5⟩; have W5 := hid W5; have K5 := hid k5)
    | (refine wpList_gst 26 (enco lf) rfl _ _ rfl rfl rfl v3 (by show 0 + 3 ≤ 3; omega) (by rw [size26]; rfl) (O6.enco_one _) ?_; intro w4 v4 b4 o4 s4; have B4 : Hid (Below w.heap.size w w4) := hid (B3.out.trans (b4.mono B2.out.size)); have W4 := hid (H.out.add B4.out B2.out.size (v4.lt (by show 0 < 3; omega))); have V4 : Hid (Var w4 w2.heap.size (enco lf)) := hid v4; clear b4 o4 s4 v4)
    | (refine wpList_galloc 26 (enco oz) zero26 rfl rfl ?_; intro w3 v3 b3 s3; have B3 : Hid (Below w.heap.size w w3) := hid (B2.out.trans (b3.mono B2.out.size)))
    | (go_at_call 79; (with_reducible refine (HT.out w1 W1.out).mono ?_); rintro e w2 ⟨rfl, b2⟩; have B2 : Hid (Below w.heap.size w w2) := hid (B1.out.trans (b2.mono B1.out.size)))
    | (go_at_call 78; (with_reducible refine (HS.out w H.out).mono ?_); rintro e w1 ⟨rfl, b1⟩; have W1 := hid (H.out.below b1); have B1 := hid b1))
  have hb2 : K w2.heap.size ∨ w2.heap.size = w2.heap.size := .inr rfl
  have V6 : Hid (Var w6 w2.heap.size (enco lf)) := hid (V4.out.same (K6.out.block _ hb2))
  have KB := hid ((H.out.keptb B4.out).trans (K6.out.mono fun _ h => .inl h))
  clear K6 K5 V4 W5 W4 B4 B3 B2 B1 HY HL HS HT
  generalize w2.heap.size = b at *
  obtain ⟨K', hK'⟩ : ∃ K' : Nat → Prop, K' = (fun k => K k ∨ k = b) := ⟨_, rfl⟩
  have hj : ∀ i, K i → K' i := by rw [hK']; exact fun _ h => .inl h
  have hb : K' b := by rw [hK']; exact .inr rfl
  rw [← hK'] at W6
  clear hK' hb2 k5 k6
  have KB6 := hid (KB.out.trans ((W6.out.keptb (Below.refl _ _).drew).mono hj))
  have Q1 := hid W6.out.drew
  have L1 := hid V6.out.drew
  clear W6 V6 KB
  have S1 : SE K' base g y m l1 b lf w6.drew := ⟨⟨_, _, _, Q1.out⟩, L1.out.1⟩
  refine wp_region_held_drew (S := SE K' base g y m l1 b lf) (by kernel_rfl) S1 (fun _ => ?_)
  refine tk 0 (some 27) (.pointer (some ⟨g, 0, none⟩)) rfl rfl (by kernel_rfl) (by kernel_rfl) (by kernel_rfl) (fun _ _ _ h => h) (.inl ⟨by rfl, fun _ _ => by go_simp⟩) S1 ?_
  simp only [Act.put, List.setIfInBounds_toArray, List.set_cons_zero, List.set_cons_succ]
  refine tk 1 (some 28) (.pointer (some ⟨g, 0, none⟩)) rfl rfl (by kernel_rfl) (by kernel_rfl) (by kernel_rfl) (fun _ _ _ h => h) (.inl ⟨by rfl, fun _ _ => by go_simp⟩) S1 ?_
  simp only [Act.put, List.setIfInBounds_toArray, List.set_cons_zero, List.set_cons_succ]
  refine tk 2 (some 29) (.pointer (some ⟨g, 0, none⟩)) rfl rfl (by kernel_rfl) (by kernel_rfl) (by kernel_rfl) (fun _ _ _ h => h) (.inl ⟨by rfl, fun _ _ => by go_simp⟩) S1 ?_
  simp only [Act.put, List.setIfInBounds_toArray, List.set_cons_zero, List.set_cons_succ]
  refine tk 3 (some 30) (.pointer (some ⟨g, 0, none⟩)) rfl rfl (by kernel_rfl) (by kernel_rfl) (by kernel_rfl) (fun _ _ _ h => h) (.inl ⟨by rfl, fun _ _ => by go_simp⟩) S1 ?_
  simp only [Act.put, List.setIfInBounds_toArray, List.set_cons_zero, List.set_cons_succ]
  refine tk 4 (some 31) (.pointer (some ⟨g, 0, none⟩)) rfl rfl (by kernel_rfl) (by kernel_rfl) (by kernel_rfl) (fun _ _ _ h => h) (.inl ⟨by rfl, fun _ _ => by go_simp⟩) S1 ?_
  simp only [Act.put, List.setIfInBounds_toArray, List.set_cons_zero, List.set_cons_succ]
  refine tk 5 (some 32) (.pointer (some ⟨g, 0, none⟩)) rfl rfl (by kernel_rfl) (by kernel_rfl) (by kernel_rfl) (fun _ _ _ h => h) (.inl ⟨by rfl, fun _ _ => by go_simp⟩) S1 ?_
  simp only [Act.put, List.setIfInBounds_toArray, List.set_cons_zero, List.set_cons_succ]
  refine tk 6 (some 33) (.pointer (some ⟨g, 2, none⟩)) rfl rfl (by kernel_rfl) (by kernel_rfl) (by kernel_rfl) (fun _ _ _ h => h) (.inl ⟨by rfl, fun _ _ => by go_simp⟩) S1 ?_
  simp only [Act.put, List.setIfInBounds_toArray, List.set_cons_zero, List.set_cons_succ]
  refine tk 9 (some 36) (.int .i64 T) rfl rfl (by kernel_rfl) (by kernel_rfl) (by kernel_rfl) (fun _ _ _ h => h) (.inl ⟨by rfl, fun _ _ => by go_simp⟩) S1 ?_
  simp only [Act.put, List.setIfInBounds_toArray, List.set_cons_zero, List.set_cons_succ]
  refine tk 10 (some 37) (ov lf) rfl rfl (by kernel_rfl) (by kernel_rfl) (by kernel_rfl) (fun _ _ _ h => h) (ylo rfl rfl (fun w h => h.2) rfl) S1 ?_
  simp only [Act.put, List.setIfInBounds_toArray, List.set_cons_zero, List.set_cons_succ]
  refine rd_l1 7 (some 34) (.int .u64 y.sl) 24 (p := ⟨g, 2, none⟩) (by kernel_rfl) rfl rfl rfl rfl Tryz.isAgg24 (Q1.out.cell fun _ _ _ _ _ _ => rfl) rfl S1 ?_
  simp only [Act.put, List.setIfInBounds_toArray, List.set_cons_zero, List.set_cons_succ]
  refine tk 8 (some 35) (.int .u64 S1v) rfl rfl (by kernel_rfl) (by kernel_rfl) (by kernel_rfl) (fun _ _ _ h => h) (.inl ⟨by rfl, fun _ _ => by go_simp; try rw [eS]⟩) S1 ?_
  simp only [Act.put, List.setIfInBounds_toArray, List.set_cons_zero, List.set_cons_succ]
  refine tk 11 (some 38) (.pointer (some ⟨g, 0, none⟩)) rfl rfl (by kernel_rfl) (by kernel_rfl) (by kernel_rfl) (fun _ _ _ h => h) (.inl ⟨by rfl, fun _ _ => by go_simp⟩) S1 ?_
  simp only [Act.put, List.setIfInBounds_toArray, List.set_cons_zero, List.set_cons_succ]
  refine tk 12 (some 39) (.pointer (some ⟨g, 0, none⟩)) rfl rfl (by kernel_rfl) (by kernel_rfl) (by kernel_rfl) (fun _ _ _ h => h) (.inl ⟨by rfl, fun _ _ => by go_simp⟩) S1 ?_
  simp only [Act.put, List.setIfInBounds_toArray, List.set_cons_zero, List.set_cons_succ]
  refine tk 13 (some 40) (.pointer (some ⟨g, 2, none⟩)) rfl rfl (by kernel_rfl) (by kernel_rfl) (by kernel_rfl) (fun _ _ _ h => h) (.inl ⟨by rfl, fun _ _ => by go_simp⟩) S1 ?_
  simp only [Act.put, List.setIfInBounds_toArray, List.set_cons_zero, List.set_cons_succ]
  refine rd_ws1 { y with sl := S1v } 14 2 (.int .u64 S1v) 24 (by kernel_rfl) rfl rfl rfl rfl rfl Q1.out (by kernel_rfl) rfl rfl rfl (fun _ _ _ _ _ _ => rfl) (by omega) rfl ?_
  intro w2 Q2 k2
  have Q2 := hid Q2
  have L2 : Hid (Var w2 b (enco lf)) := hid (L1.out.same (k2.block b hb))
  have S2 : SE K' base g y m l1 b lf w2 := ⟨⟨_, _, _, Q2.out⟩, L2.out.1⟩
  refine ⟨S2, ?_⟩
  refine tk 15 (some 41) (.pointer (some ⟨g, 0, none⟩)) rfl rfl (by kernel_rfl) (by kernel_rfl) (by kernel_rfl) (fun _ _ _ h => h) (.inl ⟨by rfl, fun _ _ => by go_simp⟩) S2 ?_
  simp only [Act.put, List.setIfInBounds_toArray, List.set_cons_zero, List.set_cons_succ]
  refine tk 16 (some 42) (.pointer (some ⟨g, 0, none⟩)) rfl rfl (by kernel_rfl) (by kernel_rfl) (by kernel_rfl) (fun _ _ _ h => h) (.inl ⟨by rfl, fun _ _ => by go_simp⟩) S2 ?_
  simp only [Act.put, List.setIfInBounds_toArray, List.set_cons_zero, List.set_cons_succ]
  refine tk 17 (some 43) (.pointer (some ⟨g, 3, none⟩)) rfl rfl (by kernel_rfl) (by kernel_rfl) (by kernel_rfl) (fun _ _ _ h => h) (.inl ⟨by rfl, fun _ _ => by go_simp⟩) S2 ?_
  simp only [Act.put, List.setIfInBounds_toArray, List.set_cons_zero, List.set_cons_succ]
  refine rd_ws1 { y with sl := S1v, st := T } 18 3 (.int .i64 T) 2 (by kernel_rfl) rfl rfl rfl rfl rfl Q2.out (by kernel_rfl) rfl rfl rfl (fun _ _ _ _ _ _ => rfl) (by omega) rfl ?_
  intro w3 Q3 k3
  have Q3 := hid Q3
  have L3 : Hid (Var w3 b (enco lf)) := hid (L2.out.same (k3.block b hb))
  have S3 : SE K' base g y m l1 b lf w3 := ⟨⟨_, _, _, Q3.out⟩, L3.out.1⟩
  refine ⟨S3, ?_⟩
  refine tk 19 (some 44) (.pointer (some ⟨g, 0, none⟩)) rfl rfl (by kernel_rfl) (by kernel_rfl) (by kernel_rfl) (fun _ _ _ h => h) (.inl ⟨by rfl, fun _ _ => by go_simp⟩) S3 ?_
  simp only [Act.put, List.setIfInBounds_toArray, List.set_cons_zero, List.set_cons_succ]
  refine tk 20 (some 45) (.pointer (some ⟨g, 0, none⟩)) rfl rfl (by kernel_rfl) (by kernel_rfl) (by kernel_rfl) (fun _ _ _ h => h) (.inl ⟨by rfl, fun _ _ => by go_simp⟩) S3 ?_
  simp only [Act.put, List.setIfInBounds_toArray, List.set_cons_zero, List.set_cons_succ]
  refine tk 21 (some 46) (.pointer (some ⟨g, 4, none⟩)) rfl rfl (by kernel_rfl) (by kernel_rfl) (by kernel_rfl) (fun _ _ _ h => h) (.inl ⟨by rfl, fun _ _ => by go_simp⟩) S3 ?_
  simp only [Act.put, List.setIfInBounds_toArray, List.set_cons_zero, List.set_cons_succ]
  refine rd_wsn { y with sl := S1v, st := T, o := lf } 22 4 (enco lf) 26 (by kernel_rfl) rfl rfl rfl rfl rfl Q3.out (by rw [size26]; rfl) (O6.enco_one _) rfl (fun _ _ _ _ _ _ => rfl) (by show 4 + 3 ≤ 20; omega) rfl ?_
  intro w4 Q4 k4
  have L4 : Hid (Var w4 b (enco lf)) := hid (L3.out.same (k4.block b hb))
  refine ⟨⟨⟨_, _, _, Q4⟩, L4.out.1⟩, ?_⟩
  refine wpAnyH_done (by kernel_rfl) ?_ _
  have Q4 := hid Q4
  have K4 := hid (KB6.out.trans ((k2.trans (k3.trans k4)).mono hj))
  go_wp2_with (first
    | (go_at_call 82; (with_reducible refine (HB.out _ w4 Q4.out).mono ?_); rintro e w5 ⟨rfl, W5, k5⟩))
  go_ret
  exact ⟨rfl, W5.mono hj, K4.out.trans (k5.mono hj)⟩
set_option maxRecDepth 100000 in
theorem end_max (K : Nat → Prop) (base g : Nat) (x : Nd) (m : Md) (l : List Ac) (w : World) (h : Wk w K base g x m l) (hs : x.sl = 4294967296) :
    Calls Tryz.prog 41 #[.pointer (some ⟨g, 0, none⟩)] w (RetW K base g x m l (.int .i64 2) w) := by
  have H := hid h
  have c2 : w.cell? ⟨g, 2, none⟩ = some (.int .u64 4294967296) := by have := h.cell (j := 2) (v := .int .u64 x.sl) fun _ _ _ _ _ _ => rfl; rwa [hs] at this
  clear h hs
  go_enter Tryz.func41, Tryz.ntmps41
  go_wp2_with fail
  go_ret
  exact ⟨rfl, H.out, Kept.refl _ _⟩
set_option maxRecDepth 100000 in
set_option maxHeartbeats 1000000 in
theorem end_time (K : Nat → Prop) (base g : Nat) (x : Nd) (m : Md) (l : List Ac) (w : World) (h : Wk w K base g x m l) (k : NdOk m x) (hs : ¬ x.sl = 4294967296) (hE : timeE x (m.s + x.co) = 2) :
    Calls Tryz.prog 41 #[.pointer (some ⟨g, 0, none⟩)] w (RetW K base g x m l (.int .i64 2) w) := by
  have H := hid h
  obtain ⟨q0, q1⟩ := len_in k
  have HS := hid (fun (w1 : World) (h : Wk w1 K base g x m l) => length_w K base g x m l w1 h _ rfl (by omega) (by omega))
  have HT := hid (fun (w1 : World) (h : Wk w1 K base g x m l) => time_any K base g x m l (m.s + x.co) w1 h ⟨k.ho, k.t0, k.t1⟩ q0 q1)
  rw [hE] at HT
  have e1 : (x.sl == 4294967296) = false := by simp [hs]
  clear h k hs hE q0 q1
  generalize timeT x (m.s + x.co) = T at *
  generalize O6.aft x.o (m.s + x.co) = lf at *
  generalize m.s + x.co = L at *
  have c2 : w.cell? ⟨g, 2, none⟩ = some (.int .u64 x.sl) := H.out.cell fun _ _ _ _ _ _ => rfl
  generalize x.sl = s0 at *
  go_enter Tryz.func41, Tryz.ntmps41
  go_wp2_with (first
    | (refine wpList_gst 26 (enco lf) rfl _ _ rfl rfl rfl v3 (by show 0 + 3 ≤ 3; omega) (by rw [size26]; rfl) (O6.enco_one _) ?_; intro w4 v4 b4 o4 s4; have B4 : Hid (Below w.heap.size w w4) := hid (B3.out.trans (b4.mono B2.out.size)))
    | (refine wpList_galloc 26 (enco oz) zero26 rfl rfl ?_; intro w3 v3 b3 s3; have B3 : Hid (Below w.heap.size w w3) := hid (B2.out.trans (b3.mono B2.out.size)))
    | (go_at_call 79; (with_reducible refine (HT.out w1 W1.out).mono ?_); rintro e w2 ⟨rfl, b2⟩; have B2 : Hid (Below w.heap.size w w2) := hid (B1.out.trans (b2.mono B1.out.size)))
    | (go_at_call 78; (with_reducible refine (HS.out w H.out).mono ?_); rintro e w1 ⟨rfl, b1⟩; have W1 := hid (H.out.below b1); have B1 := hid b1))
  go_ret
  exact ⟨rfl, H.out.below B4.out, H.out.keptb B4.out⟩
/-- Its slot does not end: there is no slot more, or the time goes over. -/
def stuck (m : Md) (x : Nd) : Prop := x.sl = 4294967296 ∨ timeE x (m.s + x.co) = 2
instance (m : Md) (x : Nd) : Decidable (stuck m x) := by unfold stuck; infer_instance
def endN (m : Md) (x : Nd) : Nd := if stuck m x then x else beginN m (midN m x)
def endL (m : Md) (x : Nd) : List Ac := if stuck m x then [] else leaveL m x ++ syncL m (leaveN m x) ++ beginL m (midN m x)
def endE (m : Md) (x : Nd) : Int := if stuck m x then 2 else beginE m (midN m x)
theorem end_any (K : Nat → Prop) (base g : Nat) (x : Nd) (m : Md) (l : List Ac) (w : World) (h : Wk w K base g x m l) (hl : l.length ≤ 900) (k : NdOk m x) :
    Calls Tryz.prog 41 #[.pointer (some ⟨g, 0, none⟩)] w (RetW K base g (endN m x) m (l ++ endL m x) (.int .i64 (endE m x)) w) := by
  by_cases hs : stuck m x
  · rw [show endN m x = x from if_pos hs, show endL m x = [] from if_pos hs, show endE m x = 2 from if_pos hs, List.append_nil]
    by_cases h2 : x.sl = 4294967296
    · exact end_max K base g x m l w h h2
    · exact end_time K base g x m l w h k h2 (hs.resolve_left h2)
  · rw [show endN m x = _ from if_neg hs, show endL m x = _ from if_neg hs, show endE m x = _ from if_neg hs, ← List.append_assoc, ← List.append_assoc]
    have h2 : ¬ x.sl = 4294967296 := fun e => hs (.inl e)
    exact end_ok K base g x m l w h hl k h2 ((timeE_or x _).resolve_right fun e => hs (.inr e))
theorem NdOk.end {m : Md} {x : Nd} (k : NdOk m x) : NdOk m (endN m x) := by
  unfold endN
  split
  · exact k
  · next hs => exact (k.mid (fun e => hs (.inl e)) ((timeE_or x _).resolve_right fun e => hs (.inr e))).begin
end Go.Proofs.YtlgedfljmgedfaaGreat
