/-
  Texts NF of this seat, as far as they are used.
-/
import Derived.Test.YtlgedfljmgedfaaGreatJ21
namespace Go.Proofs.YtlgedfljmgedfaaGreat
open Go Go.RowKit
open M10 (hid Md encm mv mz Oth range_keep there_keep range_other there_other setCells_oth setCells_size there_set Ty enct tv tz Fr encf fv fz)
open O6 (Oc enco ov oz)
open T9 (sv)
/-- A node's numbers within their bounds, of a schedule that may be. -/
structure NdOk (m : Md) (x : Nd) : Prop where
  hm : M10.Ok m
  ho : O6.Ok x.o
  i0 : 0 ≤ x.id
  i1 : x.id < m.n
  p0 : 0 ≤ x.ph
  p1 : x.ph ≤ 3
  s0 : 0 ≤ x.sl
  s1 : x.sl ≤ 4294967296
  t0 : 0 ≤ x.st
  t1 : x.st ≤ 1152921504606846976
  c0 : -m.d ≤ x.co
  c1 : x.co ≤ m.d
  mb : x.mb < 65536
  ty : M10.OkT x.t
  dl : (x.dv.length : Int) ≤ m.n
  dd : ∀ y ∈ x.dv, -m.d ≤ y ∧ y ≤ m.d
  v0 : 0 ≤ x.vd
  v1 : x.vd ≤ 3
/-- Who is there behind its slot. -/
def aftM (m : Md) (x : Nd) : Nat := M10.aftM m x.id x.sl x.mb x.vd
theorem after_ok (m : Md) (x : Nd) (w : World) (k : NdOk m x) :
    Calls Tryz.prog 125 #[mv m, .int .i64 x.id, .int .u16 (x.mb : Int), .int .u64 x.sl, .int .i64 x.vd] w fun e w' => e = .returned (.tuple #[.int .u16 (aftM m x : Nat), .int .i64 0]) ∧ Below w.heap.size w w' := by
  have := M10.after_any m x.id x.sl x.vd x.mb w k.s0 k.mb ⟨by have := k.v0; omega, by have := k.v1; omega⟩
  have e : M10.aftE m x.id x.sl x.vd = 0 := if_pos ⟨⟨k.hm, k.s1, k.i0, k.i1⟩, k.v0, k.v1⟩
  rw [e] at this
  exact this
/-- A node at work, its members whatever they are. -/
def SM (K : Nat → Prop) (base g : Nat) (x : Nd) (m : Md) (l : List Ac) (w : World) : Prop := ∃ q : Nat, Wk w K base g { x with mb := q } m l
section
variable {w : World} {K : Nat → Prop} {base g : Nat} {x : Nd} {m : Md} {l : List Ac}
theorem SM.cell (h : SM K base g x m l w) {j : Nat} {v : Value} (hc : ∀ q A n c B k d, (encw { x with mb := q } A n c m B k d)[j]? = some v) : w.cell? ⟨g, j, none⟩ = some v := by
  obtain ⟨q, h⟩ := h
  exact h.cell (hc q)
theorem SM.md (h : SM K base g x m l w) : w.rangeAt g 14 (encm m) := by
  obtain ⟨q, h⟩ := h
  exact h.md
end
set_option maxRecDepth 100000 in
set_option maxHeartbeats 2000000 in
theorem leave_own (K : Nat → Prop) (base g : Nat) (x : Nd) (m : Md) (l : List Ac) (w : World) (h : Wk w K base g x m l) (_hl : l.length ≤ 1000) (k : NdOk m x) (hO : x.sl % m.n = x.id) :
    Calls Tryz.prog 80 #[.pointer (some ⟨g, 0, none⟩)] w (RetW K base g { x with mb := aftM m x, dv := lateL m x.dv 0 } m l (.tuple #[]) w) := by
  have H := hid h
  have HO := hid (owner_w K base g x m l w h k.hm k.s0 k.s1)
  have o0 := Int.emod_nonneg x.sl (show m.n ≠ 0 by have := k.hm.1; omega)
  have o1 := Int.emod_lt_of_pos x.sl (show 0 < m.n by have := k.hm.1; omega)
  have o2 : x.sl % m.n ≤ 15 := by have := k.hm.2.1; omega
  have HH := hid (fun w => has_id x.mb (x.sl % m.n) w k.mb o0 o2)
  have HA := hid (fun w => after_ok m x w k)
  have HL := hid (fun w h => late_w K base g { x with mb := aftM m x } m l 0 w h k.hm.2.1)
  have e1 : (x.sl % m.n != x.id) = false := by simp [hO]
  have e2 : (x.sl % m.n == x.id) = true := by simp [hO]
  clear h _hl k o0 o1 o2 hO
  generalize x.sl % m.n = O at *
  generalize aftM m x = B at *
  go_enter Tryz.func80, Tryz.ntmps80
  go_wp2_with (first
    | (go_at_call 39; (with_reducible refine HO.out.mono ?_); rintro e w1 ⟨rfl, b1⟩; have W1 := hid (H.out.below b1); have k1 := hid (H.out.keptb b1); have c0 : w1.cell? ⟨g, 0, none⟩ = some (.int .i64 x.id) := W1.out.cell fun _ _ _ _ _ _ => rfl; have c8 : w1.cell? ⟨g, 8, none⟩ = some (.int .u16 (x.mb : Int)) := W1.out.cell fun _ _ _ _ _ _ => rfl; have c13 : w1.cell? ⟨g, 13, none⟩ = some (.int .i64 x.vd) := W1.out.cell fun _ _ _ _ _ _ => rfl))
  have KK := hid (k1.out.trans (W1.out.keptb (Below.refl _ _).drew))
  have Q1 := hid W1.out.drew
  have S1 : SM K base g x m l w1.drew := ⟨_, Q1.out⟩
  refine wp_region_held_drew (S := SM K base g x m l) (by kernel_rfl) S1 (fun _ => ?_)
  refine tk 0 (some 33) (.pointer (some ⟨g, 0, none⟩)) rfl rfl (by kernel_rfl) (by kernel_rfl) (by kernel_rfl) (fun _ _ _ h => h) (.inl ⟨by rfl, fun _ _ => by go_simp⟩) S1 ?_
  simp only [Act.put, List.setIfInBounds_toArray, List.set_cons_zero, List.set_cons_succ]
  refine tk 1 (some 34) (.pointer (some ⟨g, 0, none⟩)) rfl rfl (by kernel_rfl) (by kernel_rfl) (by kernel_rfl) (fun _ _ _ h => h) (.inl ⟨by rfl, fun _ _ => by go_simp⟩) S1 ?_
  simp only [Act.put, List.setIfInBounds_toArray, List.set_cons_zero, List.set_cons_succ]
  refine tk 2 (some 35) (.pointer (some ⟨g, 0, none⟩)) rfl rfl (by kernel_rfl) (by kernel_rfl) (by kernel_rfl) (fun _ _ _ h => h) (.inl ⟨by rfl, fun _ _ => by go_simp⟩) S1 ?_
  simp only [Act.put, List.setIfInBounds_toArray, List.set_cons_zero, List.set_cons_succ]
  refine tk 3 (some 36) (.pointer (some ⟨g, 14, none⟩)) rfl rfl (by kernel_rfl) (by kernel_rfl) (by kernel_rfl) (fun _ _ _ h => h) (.inl ⟨by rfl, fun _ _ => by go_simp⟩) S1 ?_
  simp only [Act.put, List.setIfInBounds_toArray, List.set_cons_zero, List.set_cons_succ]
  refine tk 4 (some 37) (mv m) rfl rfl (by kernel_rfl) (by kernel_rfl) (by kernel_rfl) (fun _ _ _ h => h) (ylm rfl rfl (fun w h => h.md) rfl) S1 ?_
  simp only [Act.put, List.setIfInBounds_toArray, List.set_cons_zero, List.set_cons_succ]
  refine tk 5 (some 38) (.pointer (some ⟨g, 0, none⟩)) rfl rfl (by kernel_rfl) (by kernel_rfl) (by kernel_rfl) (fun _ _ _ h => h) (.inl ⟨by rfl, fun _ _ => by go_simp⟩) S1 ?_
  simp only [Act.put, List.setIfInBounds_toArray, List.set_cons_zero, List.set_cons_succ]
  refine tk 6 (some 39) (.pointer (some ⟨g, 0, none⟩)) rfl rfl (by kernel_rfl) (by kernel_rfl) (by kernel_rfl) (fun _ _ _ h => h) (.inl ⟨by rfl, fun _ _ => by go_simp⟩) S1 ?_
  simp only [Act.put, List.setIfInBounds_toArray, List.set_cons_zero, List.set_cons_succ]
  refine tk 7 (some 40) (.pointer (some ⟨g, 0, none⟩)) rfl rfl (by kernel_rfl) (by kernel_rfl) (by kernel_rfl) (fun _ _ _ h => h) (.inl ⟨by rfl, fun _ _ => by go_simp⟩) S1 ?_
  simp only [Act.put, List.setIfInBounds_toArray, List.set_cons_zero, List.set_cons_succ]
  refine tk 8 (some 41) (.pointer (some ⟨g, 0, none⟩)) rfl rfl (by kernel_rfl) (by kernel_rfl) (by kernel_rfl) (fun _ _ _ h => h) (.inl ⟨by rfl, fun _ _ => by go_simp⟩) S1 ?_
  simp only [Act.put, List.setIfInBounds_toArray, List.set_cons_zero, List.set_cons_succ]
  refine tk 9 (some 42) (.int .i64 x.id) rfl rfl (by kernel_rfl) (by kernel_rfl) (by kernel_rfl) (fun _ _ _ h => h) (yl1 3 (p := ⟨g, 0, none⟩) (v := .int .i64 x.id) rfl rfl Tryz.isAgg3 (fun w h => h.cell (j := 0) fun _ _ _ _ _ _ _ => rfl) rfl) S1 ?_
  simp only [Act.put, List.setIfInBounds_toArray, List.set_cons_zero, List.set_cons_succ]
  refine tk 10 (some 43) (.pointer (some ⟨g, 0, none⟩)) rfl rfl (by kernel_rfl) (by kernel_rfl) (by kernel_rfl) (fun _ _ _ h => h) (.inl ⟨by rfl, fun _ _ => by go_simp⟩) S1 ?_
  simp only [Act.put, List.setIfInBounds_toArray, List.set_cons_zero, List.set_cons_succ]
  refine tk 11 (some 44) (.pointer (some ⟨g, 0, none⟩)) rfl rfl (by kernel_rfl) (by kernel_rfl) (by kernel_rfl) (fun _ _ _ h => h) (.inl ⟨by rfl, fun _ _ => by go_simp⟩) S1 ?_
  simp only [Act.put, List.setIfInBounds_toArray, List.set_cons_zero, List.set_cons_succ]
  refine tk 12 (some 45) (.pointer (some ⟨g, 0, none⟩)) rfl rfl (by kernel_rfl) (by kernel_rfl) (by kernel_rfl) (fun _ _ _ h => h) (.inl ⟨by rfl, fun _ _ => by go_simp⟩) S1 ?_
  simp only [Act.put, List.setIfInBounds_toArray, List.set_cons_zero, List.set_cons_succ]
  refine tk 13 (some 46) (.pointer (some ⟨g, 8, none⟩)) rfl rfl (by kernel_rfl) (by kernel_rfl) (by kernel_rfl) (fun _ _ _ h => h) (.inl ⟨by rfl, fun _ _ => by go_simp⟩) S1 ?_
  simp only [Act.put, List.setIfInBounds_toArray, List.set_cons_zero, List.set_cons_succ]
  refine tk 15 (some 48) (.pointer (some ⟨g, 0, none⟩)) rfl rfl (by kernel_rfl) (by kernel_rfl) (by kernel_rfl) (fun _ _ _ h => h) (.inl ⟨by rfl, fun _ _ => by go_simp⟩) S1 ?_
  simp only [Act.put, List.setIfInBounds_toArray, List.set_cons_zero, List.set_cons_succ]
  refine tk 16 (some 49) (.pointer (some ⟨g, 0, none⟩)) rfl rfl (by kernel_rfl) (by kernel_rfl) (by kernel_rfl) (fun _ _ _ h => h) (.inl ⟨by rfl, fun _ _ => by go_simp⟩) S1 ?_
  simp only [Act.put, List.setIfInBounds_toArray, List.set_cons_zero, List.set_cons_succ]
  refine tk 17 (some 50) (.pointer (some ⟨g, 0, none⟩)) rfl rfl (by kernel_rfl) (by kernel_rfl) (by kernel_rfl) (fun _ _ _ h => h) (.inl ⟨by rfl, fun _ _ => by go_simp⟩) S1 ?_
  simp only [Act.put, List.setIfInBounds_toArray, List.set_cons_zero, List.set_cons_succ]
  refine tk 18 (some 51) (.pointer (some ⟨g, 2, none⟩)) rfl rfl (by kernel_rfl) (by kernel_rfl) (by kernel_rfl) (fun _ _ _ h => h) (.inl ⟨by rfl, fun _ _ => by go_simp⟩) S1 ?_
  simp only [Act.put, List.setIfInBounds_toArray, List.set_cons_zero, List.set_cons_succ]
  refine tk 19 (some 52) (.int .u64 x.sl) rfl rfl (by kernel_rfl) (by kernel_rfl) (by kernel_rfl) (fun _ _ _ h => h) (yl1 24 (p := ⟨g, 2, none⟩) (v := .int .u64 x.sl) rfl rfl Tryz.isAgg24 (fun w h => h.cell (j := 2) fun _ _ _ _ _ _ _ => rfl) rfl) S1 ?_
  simp only [Act.put, List.setIfInBounds_toArray, List.set_cons_zero, List.set_cons_succ]
  refine tk 20 (some 53) (.pointer (some ⟨g, 0, none⟩)) rfl rfl (by kernel_rfl) (by kernel_rfl) (by kernel_rfl) (fun _ _ _ h => h) (.inl ⟨by rfl, fun _ _ => by go_simp⟩) S1 ?_
  simp only [Act.put, List.setIfInBounds_toArray, List.set_cons_zero, List.set_cons_succ]
  refine tk 21 (some 54) (.pointer (some ⟨g, 0, none⟩)) rfl rfl (by kernel_rfl) (by kernel_rfl) (by kernel_rfl) (fun _ _ _ h => h) (.inl ⟨by rfl, fun _ _ => by go_simp⟩) S1 ?_
  simp only [Act.put, List.setIfInBounds_toArray, List.set_cons_zero, List.set_cons_succ]
  refine tk 22 (some 55) (.pointer (some ⟨g, 0, none⟩)) rfl rfl (by kernel_rfl) (by kernel_rfl) (by kernel_rfl) (fun _ _ _ h => h) (.inl ⟨by rfl, fun _ _ => by go_simp⟩) S1 ?_
  simp only [Act.put, List.setIfInBounds_toArray, List.set_cons_zero, List.set_cons_succ]
  refine tk 23 (some 56) (.pointer (some ⟨g, 13, none⟩)) rfl rfl (by kernel_rfl) (by kernel_rfl) (by kernel_rfl) (fun _ _ _ h => h) (.inl ⟨by rfl, fun _ _ => by go_simp⟩) S1 ?_
  simp only [Act.put, List.setIfInBounds_toArray, List.set_cons_zero, List.set_cons_succ]
  refine tk 24 (some 57) (.int .i64 x.vd) rfl rfl (by kernel_rfl) (by kernel_rfl) (by kernel_rfl) (fun _ _ _ h => h) (yl1 3 (p := ⟨g, 13, none⟩) (v := .int .i64 x.vd) rfl rfl Tryz.isAgg3 (fun w h => h.cell (j := 13) fun _ _ _ _ _ _ _ => rfl) rfl) S1 ?_
  simp only [Act.put, List.setIfInBounds_toArray, List.set_cons_zero, List.set_cons_succ]
  refine rd_l1 14 (some 47) (.int .u16 (x.mb : Int)) 27 (p := ⟨g, 8, none⟩) (by kernel_rfl) rfl rfl rfl rfl Tryz.isAgg27 (Q1.out.cell fun _ _ _ _ _ _ => rfl) rfl S1 ?_
  simp only [Act.put, List.setIfInBounds_toArray, List.set_cons_zero, List.set_cons_succ]
  refine rd_cl 25 (some 58) 125 #[mv m, .int .i64 x.id, .int .u16 (x.mb : Int), .int .u64 x.sl, .int .i64 x.vd] _ (by kernel_rfl) rfl rfl (by unfold execOp; simp [go_sem]; done) (HA.out _) rfl ?_
  intro w2 b2
  have Q2 := hid (Q1.out.below b2)
  have K2 := hid (Q1.out.keptb b2)
  have S2 : SM K base g x m l w2 := ⟨_, Q2.out⟩
  refine ⟨S2, ?_⟩
  simp only [Act.put, List.setIfInBounds_toArray, List.set_cons_zero, List.set_cons_succ]
  refine tk 26 (some 32) (.tuple #[.int .u16 (B : Int), .int .i64 0]) rfl rfl (by kernel_rfl) (by kernel_rfl) (by kernel_rfl) (fun _ _ _ h => h) (.inl ⟨by rfl, fun _ _ => by go_simp⟩) S2 ?_
  simp only [Act.put, List.setIfInBounds_toArray, List.set_cons_zero, List.set_cons_succ]
  refine tk 27 (some 59) (.int .u16 (B : Int)) rfl rfl (by kernel_rfl) (by kernel_rfl) (by kernel_rfl) (fun _ _ _ h => h) (.inl ⟨by rfl, fun _ _ => by go_simp⟩) S2 ?_
  simp only [Act.put, List.setIfInBounds_toArray, List.set_cons_zero, List.set_cons_succ]
  refine tk 28 (some 60) (.int .i64 0) rfl rfl (by kernel_rfl) (by kernel_rfl) (by kernel_rfl) (fun _ _ _ h => h) (.inl ⟨by rfl, fun _ _ => by go_simp⟩) S2 ?_
  simp only [Act.put, List.setIfInBounds_toArray, List.set_cons_zero, List.set_cons_succ]
  refine tk 29 (some 61) (.pointer (some ⟨g, 0, none⟩)) rfl rfl (by kernel_rfl) (by kernel_rfl) (by kernel_rfl) (fun _ _ _ h => h) (.inl ⟨by rfl, fun _ _ => by go_simp⟩) S2 ?_
  simp only [Act.put, List.setIfInBounds_toArray, List.set_cons_zero, List.set_cons_succ]
  refine tk 30 (some 62) (.pointer (some ⟨g, 0, none⟩)) rfl rfl (by kernel_rfl) (by kernel_rfl) (by kernel_rfl) (fun _ _ _ h => h) (.inl ⟨by rfl, fun _ _ => by go_simp⟩) S2 ?_
  simp only [Act.put, List.setIfInBounds_toArray, List.set_cons_zero, List.set_cons_succ]
  refine tk 31 (some 63) (.pointer (some ⟨g, 8, none⟩)) rfl rfl (by kernel_rfl) (by kernel_rfl) (by kernel_rfl) (fun _ _ _ h => h) (.inl ⟨by rfl, fun _ _ => by go_simp⟩) S2 ?_
  simp only [Act.put, List.setIfInBounds_toArray, List.set_cons_zero, List.set_cons_succ]
  refine rd_ws1 { x with mb := B } 32 8 (.int .u16 (B : Int)) 27 (by kernel_rfl) rfl rfl rfl rfl rfl Q2.out (by kernel_rfl) rfl rfl rfl (fun _ _ _ _ _ _ => rfl) (by omega) rfl ?_
  intro w3 Q3 k3
  refine ⟨⟨_, Q3⟩, ?_⟩
  refine wpAnyH_done (by kernel_rfl) ?_ _
  have Q3 := hid Q3
  have K3 := hid (KK.out.trans (K2.out.trans k3))
  have d0 : w3.cell? ⟨g, 0, none⟩ = some (.int .i64 x.id) := Q3.out.cell fun _ _ _ _ _ _ => rfl
  clear k3
  go_wp2_with (first
    | (go_at_call 97; (with_reducible refine (HL.out w3 Q3.out).mono ?_); rintro e w4 ⟨rfl, W4, k4⟩))
  first | go_end0 | refine bodyPost_ret (results_none rfl _ _ _) rfl ?_
  exact ⟨rfl, W4, K3.out.trans k4⟩
set_option maxRecDepth 100000 in
set_option maxHeartbeats 2000000 in
theorem leave_none (K : Nat → Prop) (base g : Nat) (x : Nd) (m : Md) (l : List Ac) (w : World) (h : Wk w K base g x m l) (_hl : l.length ≤ 1000) (k : NdOk m x) (hO : ¬ x.sl % m.n = x.id) (hh : M10.hs x.mb (x.sl % m.n).toNat = false) :
    Calls Tryz.prog 80 #[.pointer (some ⟨g, 0, none⟩)] w (RetW K base g { x with mb := aftM m x } m l (.tuple #[]) w) := by
  have H := hid h
  have HO := hid (owner_w K base g x m l w h k.hm k.s0 k.s1)
  have o0 := Int.emod_nonneg x.sl (show m.n ≠ 0 by have := k.hm.1; omega)
  have o1 := Int.emod_lt_of_pos x.sl (show 0 < m.n by have := k.hm.1; omega)
  have o2 : x.sl % m.n ≤ 15 := by have := k.hm.2.1; omega
  have HH := hid (fun w => has_id x.mb (x.sl % m.n) w k.mb o0 o2)
  have HA := hid (fun w => after_ok m x w k)
  have e1 : (x.sl % m.n != x.id) = true := by simp [hO]
  have e2 : (x.sl % m.n == x.id) = false := by simp [hO]
  rw [hh] at HH
  clear h _hl k o0 o1 o2 hO hh
  generalize x.sl % m.n = O at *
  generalize aftM m x = B at *
  go_enter Tryz.func80, Tryz.ntmps80
  go_wp2_with (first
    | (go_at_call 39; (with_reducible refine HO.out.mono ?_); rintro e w1 ⟨rfl, b1⟩; have W1 := hid (H.out.below b1); have k1 := hid (H.out.keptb b1); have c0 : w1.cell? ⟨g, 0, none⟩ = some (.int .i64 x.id) := W1.out.cell fun _ _ _ _ _ _ => rfl; have c8 : w1.cell? ⟨g, 8, none⟩ = some (.int .u16 (x.mb : Int)) := W1.out.cell fun _ _ _ _ _ _ => rfl; have c13 : w1.cell? ⟨g, 13, none⟩ = some (.int .i64 x.vd) := W1.out.cell fun _ _ _ _ _ _ => rfl)
    | (go_at_call 26; (with_reducible refine (HH.out w1).mono ?_); rintro e w1 ⟨rfl, rfl⟩))
  have KK := hid (k1.out.trans (W1.out.keptb (Below.refl _ _).drew))
  have Q1 := hid W1.out.drew
  have S1 : SM K base g x m l w1.drew := ⟨_, Q1.out⟩
  refine wp_region_held_drew (S := SM K base g x m l) (by kernel_rfl) S1 (fun _ => ?_)
  refine tk 0 (some 33) (.pointer (some ⟨g, 0, none⟩)) rfl rfl (by kernel_rfl) (by kernel_rfl) (by kernel_rfl) (fun _ _ _ h => h) (.inl ⟨by rfl, fun _ _ => by go_simp⟩) S1 ?_
  simp only [Act.put, List.setIfInBounds_toArray, List.set_cons_zero, List.set_cons_succ]
  refine tk 1 (some 34) (.pointer (some ⟨g, 0, none⟩)) rfl rfl (by kernel_rfl) (by kernel_rfl) (by kernel_rfl) (fun _ _ _ h => h) (.inl ⟨by rfl, fun _ _ => by go_simp⟩) S1 ?_
  simp only [Act.put, List.setIfInBounds_toArray, List.set_cons_zero, List.set_cons_succ]
  refine tk 2 (some 35) (.pointer (some ⟨g, 0, none⟩)) rfl rfl (by kernel_rfl) (by kernel_rfl) (by kernel_rfl) (fun _ _ _ h => h) (.inl ⟨by rfl, fun _ _ => by go_simp⟩) S1 ?_
  simp only [Act.put, List.setIfInBounds_toArray, List.set_cons_zero, List.set_cons_succ]
  refine tk 3 (some 36) (.pointer (some ⟨g, 14, none⟩)) rfl rfl (by kernel_rfl) (by kernel_rfl) (by kernel_rfl) (fun _ _ _ h => h) (.inl ⟨by rfl, fun _ _ => by go_simp⟩) S1 ?_
  simp only [Act.put, List.setIfInBounds_toArray, List.set_cons_zero, List.set_cons_succ]
  refine tk 4 (some 37) (mv m) rfl rfl (by kernel_rfl) (by kernel_rfl) (by kernel_rfl) (fun _ _ _ h => h) (ylm rfl rfl (fun w h => h.md) rfl) S1 ?_
  simp only [Act.put, List.setIfInBounds_toArray, List.set_cons_zero, List.set_cons_succ]
  refine tk 5 (some 38) (.pointer (some ⟨g, 0, none⟩)) rfl rfl (by kernel_rfl) (by kernel_rfl) (by kernel_rfl) (fun _ _ _ h => h) (.inl ⟨by rfl, fun _ _ => by go_simp⟩) S1 ?_
  simp only [Act.put, List.setIfInBounds_toArray, List.set_cons_zero, List.set_cons_succ]
  refine tk 6 (some 39) (.pointer (some ⟨g, 0, none⟩)) rfl rfl (by kernel_rfl) (by kernel_rfl) (by kernel_rfl) (fun _ _ _ h => h) (.inl ⟨by rfl, fun _ _ => by go_simp⟩) S1 ?_
  simp only [Act.put, List.setIfInBounds_toArray, List.set_cons_zero, List.set_cons_succ]
  refine tk 7 (some 40) (.pointer (some ⟨g, 0, none⟩)) rfl rfl (by kernel_rfl) (by kernel_rfl) (by kernel_rfl) (fun _ _ _ h => h) (.inl ⟨by rfl, fun _ _ => by go_simp⟩) S1 ?_
  simp only [Act.put, List.setIfInBounds_toArray, List.set_cons_zero, List.set_cons_succ]
  refine tk 8 (some 41) (.pointer (some ⟨g, 0, none⟩)) rfl rfl (by kernel_rfl) (by kernel_rfl) (by kernel_rfl) (fun _ _ _ h => h) (.inl ⟨by rfl, fun _ _ => by go_simp⟩) S1 ?_
  simp only [Act.put, List.setIfInBounds_toArray, List.set_cons_zero, List.set_cons_succ]
  refine tk 9 (some 42) (.int .i64 x.id) rfl rfl (by kernel_rfl) (by kernel_rfl) (by kernel_rfl) (fun _ _ _ h => h) (yl1 3 (p := ⟨g, 0, none⟩) (v := .int .i64 x.id) rfl rfl Tryz.isAgg3 (fun w h => h.cell (j := 0) fun _ _ _ _ _ _ _ => rfl) rfl) S1 ?_
  simp only [Act.put, List.setIfInBounds_toArray, List.set_cons_zero, List.set_cons_succ]
  refine tk 10 (some 43) (.pointer (some ⟨g, 0, none⟩)) rfl rfl (by kernel_rfl) (by kernel_rfl) (by kernel_rfl) (fun _ _ _ h => h) (.inl ⟨by rfl, fun _ _ => by go_simp⟩) S1 ?_
  simp only [Act.put, List.setIfInBounds_toArray, List.set_cons_zero, List.set_cons_succ]
  refine tk 11 (some 44) (.pointer (some ⟨g, 0, none⟩)) rfl rfl (by kernel_rfl) (by kernel_rfl) (by kernel_rfl) (fun _ _ _ h => h) (.inl ⟨by rfl, fun _ _ => by go_simp⟩) S1 ?_
  simp only [Act.put, List.setIfInBounds_toArray, List.set_cons_zero, List.set_cons_succ]
  refine tk 12 (some 45) (.pointer (some ⟨g, 0, none⟩)) rfl rfl (by kernel_rfl) (by kernel_rfl) (by kernel_rfl) (fun _ _ _ h => h) (.inl ⟨by rfl, fun _ _ => by go_simp⟩) S1 ?_
  simp only [Act.put, List.setIfInBounds_toArray, List.set_cons_zero, List.set_cons_succ]
  refine tk 13 (some 46) (.pointer (some ⟨g, 8, none⟩)) rfl rfl (by kernel_rfl) (by kernel_rfl) (by kernel_rfl) (fun _ _ _ h => h) (.inl ⟨by rfl, fun _ _ => by go_simp⟩) S1 ?_
  simp only [Act.put, List.setIfInBounds_toArray, List.set_cons_zero, List.set_cons_succ]
  refine tk 15 (some 48) (.pointer (some ⟨g, 0, none⟩)) rfl rfl (by kernel_rfl) (by kernel_rfl) (by kernel_rfl) (fun _ _ _ h => h) (.inl ⟨by rfl, fun _ _ => by go_simp⟩) S1 ?_
  simp only [Act.put, List.setIfInBounds_toArray, List.set_cons_zero, List.set_cons_succ]
  refine tk 16 (some 49) (.pointer (some ⟨g, 0, none⟩)) rfl rfl (by kernel_rfl) (by kernel_rfl) (by kernel_rfl) (fun _ _ _ h => h) (.inl ⟨by rfl, fun _ _ => by go_simp⟩) S1 ?_
  simp only [Act.put, List.setIfInBounds_toArray, List.set_cons_zero, List.set_cons_succ]
  refine tk 17 (some 50) (.pointer (some ⟨g, 0, none⟩)) rfl rfl (by kernel_rfl) (by kernel_rfl) (by kernel_rfl) (fun _ _ _ h => h) (.inl ⟨by rfl, fun _ _ => by go_simp⟩) S1 ?_
  simp only [Act.put, List.setIfInBounds_toArray, List.set_cons_zero, List.set_cons_succ]
  refine tk 18 (some 51) (.pointer (some ⟨g, 2, none⟩)) rfl rfl (by kernel_rfl) (by kernel_rfl) (by kernel_rfl) (fun _ _ _ h => h) (.inl ⟨by rfl, fun _ _ => by go_simp⟩) S1 ?_
  simp only [Act.put, List.setIfInBounds_toArray, List.set_cons_zero, List.set_cons_succ]
  refine tk 19 (some 52) (.int .u64 x.sl) rfl rfl (by kernel_rfl) (by kernel_rfl) (by kernel_rfl) (fun _ _ _ h => h) (yl1 24 (p := ⟨g, 2, none⟩) (v := .int .u64 x.sl) rfl rfl Tryz.isAgg24 (fun w h => h.cell (j := 2) fun _ _ _ _ _ _ _ => rfl) rfl) S1 ?_
  simp only [Act.put, List.setIfInBounds_toArray, List.set_cons_zero, List.set_cons_succ]
  refine tk 20 (some 53) (.pointer (some ⟨g, 0, none⟩)) rfl rfl (by kernel_rfl) (by kernel_rfl) (by kernel_rfl) (fun _ _ _ h => h) (.inl ⟨by rfl, fun _ _ => by go_simp⟩) S1 ?_
  simp only [Act.put, List.setIfInBounds_toArray, List.set_cons_zero, List.set_cons_succ]
  refine tk 21 (some 54) (.pointer (some ⟨g, 0, none⟩)) rfl rfl (by kernel_rfl) (by kernel_rfl) (by kernel_rfl) (fun _ _ _ h => h) (.inl ⟨by rfl, fun _ _ => by go_simp⟩) S1 ?_
  simp only [Act.put, List.setIfInBounds_toArray, List.set_cons_zero, List.set_cons_succ]
  refine tk 22 (some 55) (.pointer (some ⟨g, 0, none⟩)) rfl rfl (by kernel_rfl) (by kernel_rfl) (by kernel_rfl) (fun _ _ _ h => h) (.inl ⟨by rfl, fun _ _ => by go_simp⟩) S1 ?_
  simp only [Act.put, List.setIfInBounds_toArray, List.set_cons_zero, List.set_cons_succ]
  refine tk 23 (some 56) (.pointer (some ⟨g, 13, none⟩)) rfl rfl (by kernel_rfl) (by kernel_rfl) (by kernel_rfl) (fun _ _ _ h => h) (.inl ⟨by rfl, fun _ _ => by go_simp⟩) S1 ?_
  simp only [Act.put, List.setIfInBounds_toArray, List.set_cons_zero, List.set_cons_succ]
  refine tk 24 (some 57) (.int .i64 x.vd) rfl rfl (by kernel_rfl) (by kernel_rfl) (by kernel_rfl) (fun _ _ _ h => h) (yl1 3 (p := ⟨g, 13, none⟩) (v := .int .i64 x.vd) rfl rfl Tryz.isAgg3 (fun w h => h.cell (j := 13) fun _ _ _ _ _ _ _ => rfl) rfl) S1 ?_
  simp only [Act.put, List.setIfInBounds_toArray, List.set_cons_zero, List.set_cons_succ]
  refine rd_l1 14 (some 47) (.int .u16 (x.mb : Int)) 27 (p := ⟨g, 8, none⟩) (by kernel_rfl) rfl rfl rfl rfl Tryz.isAgg27 (Q1.out.cell fun _ _ _ _ _ _ => rfl) rfl S1 ?_
  simp only [Act.put, List.setIfInBounds_toArray, List.set_cons_zero, List.set_cons_succ]
  refine rd_cl 25 (some 58) 125 #[mv m, .int .i64 x.id, .int .u16 (x.mb : Int), .int .u64 x.sl, .int .i64 x.vd] _ (by kernel_rfl) rfl rfl (by unfold execOp; simp [go_sem]; done) (HA.out _) rfl ?_
  intro w2 b2
  have Q2 := hid (Q1.out.below b2)
  have K2 := hid (Q1.out.keptb b2)
  have S2 : SM K base g x m l w2 := ⟨_, Q2.out⟩
  refine ⟨S2, ?_⟩
  simp only [Act.put, List.setIfInBounds_toArray, List.set_cons_zero, List.set_cons_succ]
  refine tk 26 (some 32) (.tuple #[.int .u16 (B : Int), .int .i64 0]) rfl rfl (by kernel_rfl) (by kernel_rfl) (by kernel_rfl) (fun _ _ _ h => h) (.inl ⟨by rfl, fun _ _ => by go_simp⟩) S2 ?_
  simp only [Act.put, List.setIfInBounds_toArray, List.set_cons_zero, List.set_cons_succ]
  refine tk 27 (some 59) (.int .u16 (B : Int)) rfl rfl (by kernel_rfl) (by kernel_rfl) (by kernel_rfl) (fun _ _ _ h => h) (.inl ⟨by rfl, fun _ _ => by go_simp⟩) S2 ?_
  simp only [Act.put, List.setIfInBounds_toArray, List.set_cons_zero, List.set_cons_succ]
  refine tk 28 (some 60) (.int .i64 0) rfl rfl (by kernel_rfl) (by kernel_rfl) (by kernel_rfl) (fun _ _ _ h => h) (.inl ⟨by rfl, fun _ _ => by go_simp⟩) S2 ?_
  simp only [Act.put, List.setIfInBounds_toArray, List.set_cons_zero, List.set_cons_succ]
  refine tk 29 (some 61) (.pointer (some ⟨g, 0, none⟩)) rfl rfl (by kernel_rfl) (by kernel_rfl) (by kernel_rfl) (fun _ _ _ h => h) (.inl ⟨by rfl, fun _ _ => by go_simp⟩) S2 ?_
  simp only [Act.put, List.setIfInBounds_toArray, List.set_cons_zero, List.set_cons_succ]
  refine tk 30 (some 62) (.pointer (some ⟨g, 0, none⟩)) rfl rfl (by kernel_rfl) (by kernel_rfl) (by kernel_rfl) (fun _ _ _ h => h) (.inl ⟨by rfl, fun _ _ => by go_simp⟩) S2 ?_
  simp only [Act.put, List.setIfInBounds_toArray, List.set_cons_zero, List.set_cons_succ]
  refine tk 31 (some 63) (.pointer (some ⟨g, 8, none⟩)) rfl rfl (by kernel_rfl) (by kernel_rfl) (by kernel_rfl) (fun _ _ _ h => h) (.inl ⟨by rfl, fun _ _ => by go_simp⟩) S2 ?_
  simp only [Act.put, List.setIfInBounds_toArray, List.set_cons_zero, List.set_cons_succ]
  refine rd_ws1 { x with mb := B } 32 8 (.int .u16 (B : Int)) 27 (by kernel_rfl) rfl rfl rfl rfl rfl Q2.out (by kernel_rfl) rfl rfl rfl (fun _ _ _ _ _ _ => rfl) (by omega) rfl ?_
  intro w3 Q3 k3
  refine ⟨⟨_, Q3⟩, ?_⟩
  refine wpAnyH_done (by kernel_rfl) ?_ _
  have Q3 := hid Q3
  have K3 := hid (KK.out.trans (K2.out.trans k3))
  have d0 : w3.cell? ⟨g, 0, none⟩ = some (.int .i64 x.id) := Q3.out.cell fun _ _ _ _ _ _ => rfl
  clear k3
  go_wp2_with fail
  first | go_end0 | refine bodyPost_ret (results_none rfl _ _ _) rfl ?_
  exact ⟨rfl, Q3.out, K3.out⟩
set_option maxRecDepth 100000 in
set_option maxHeartbeats 2000000 in
theorem leave_heard (K : Nat → Prop) (base g : Nat) (x : Nd) (m : Md) (l : List Ac) (w : World) (h : Wk w K base g x m l) (_hl : l.length ≤ 1000) (k : NdOk m x) (hO : ¬ x.sl % m.n = x.id) (hh : M10.hs x.mb (x.sl % m.n).toNat = true) (hv : ¬ x.vd = 0) :
    Calls Tryz.prog 80 #[.pointer (some ⟨g, 0, none⟩)] w (RetW K base g { x with mb := aftM m x } m l (.tuple #[]) w) := by
  have H := hid h
  have HO := hid (owner_w K base g x m l w h k.hm k.s0 k.s1)
  have o0 := Int.emod_nonneg x.sl (show m.n ≠ 0 by have := k.hm.1; omega)
  have o1 := Int.emod_lt_of_pos x.sl (show 0 < m.n by have := k.hm.1; omega)
  have o2 : x.sl % m.n ≤ 15 := by have := k.hm.2.1; omega
  have HH := hid (fun w => has_id x.mb (x.sl % m.n) w k.mb o0 o2)
  have HA := hid (fun w => after_ok m x w k)
  have e1 : (x.sl % m.n != x.id) = true := by simp [hO]
  have e2 : (x.sl % m.n == x.id) = false := by simp [hO]
  rw [hh] at HH
  have e3 : (x.vd == 0) = false := by simp [hv]
  clear h _hl k o0 o1 o2 hO hh hv
  generalize x.sl % m.n = O at *
  generalize aftM m x = B at *
  go_enter Tryz.func80, Tryz.ntmps80
  go_wp2_with (first
    | (go_at_call 39; (with_reducible refine HO.out.mono ?_); rintro e w1 ⟨rfl, b1⟩; have W1 := hid (H.out.below b1); have k1 := hid (H.out.keptb b1); have c0 : w1.cell? ⟨g, 0, none⟩ = some (.int .i64 x.id) := W1.out.cell fun _ _ _ _ _ _ => rfl; have c8 : w1.cell? ⟨g, 8, none⟩ = some (.int .u16 (x.mb : Int)) := W1.out.cell fun _ _ _ _ _ _ => rfl; have c13 : w1.cell? ⟨g, 13, none⟩ = some (.int .i64 x.vd) := W1.out.cell fun _ _ _ _ _ _ => rfl)
    | (go_at_call 26; (with_reducible refine (HH.out w1).mono ?_); rintro e w1 ⟨rfl, rfl⟩))
  have KK := hid (k1.out.trans (W1.out.keptb (Below.refl _ _).drew))
  have Q1 := hid W1.out.drew
  have S1 : SM K base g x m l w1.drew := ⟨_, Q1.out⟩
  refine wp_region_held_drew (S := SM K base g x m l) (by kernel_rfl) S1 (fun _ => ?_)
  refine tk 0 (some 33) (.pointer (some ⟨g, 0, none⟩)) rfl rfl (by kernel_rfl) (by kernel_rfl) (by kernel_rfl) (fun _ _ _ h => h) (.inl ⟨by rfl, fun _ _ => by go_simp⟩) S1 ?_
  simp only [Act.put, List.setIfInBounds_toArray, List.set_cons_zero, List.set_cons_succ]
  refine tk 1 (some 34) (.pointer (some ⟨g, 0, none⟩)) rfl rfl (by kernel_rfl) (by kernel_rfl) (by kernel_rfl) (fun _ _ _ h => h) (.inl ⟨by rfl, fun _ _ => by go_simp⟩) S1 ?_
  simp only [Act.put, List.setIfInBounds_toArray, List.set_cons_zero, List.set_cons_succ]
  refine tk 2 (some 35) (.pointer (some ⟨g, 0, none⟩)) rfl rfl (by kernel_rfl) (by kernel_rfl) (by kernel_rfl) (fun _ _ _ h => h) (.inl ⟨by rfl, fun _ _ => by go_simp⟩) S1 ?_
  simp only [Act.put, List.setIfInBounds_toArray, List.set_cons_zero, List.set_cons_succ]
  refine tk 3 (some 36) (.pointer (some ⟨g, 14, none⟩)) rfl rfl (by kernel_rfl) (by kernel_rfl) (by kernel_rfl) (fun _ _ _ h => h) (.inl ⟨by rfl, fun _ _ => by go_simp⟩) S1 ?_
  simp only [Act.put, List.setIfInBounds_toArray, List.set_cons_zero, List.set_cons_succ]
  refine tk 4 (some 37) (mv m) rfl rfl (by kernel_rfl) (by kernel_rfl) (by kernel_rfl) (fun _ _ _ h => h) (ylm rfl rfl (fun w h => h.md) rfl) S1 ?_
  simp only [Act.put, List.setIfInBounds_toArray, List.set_cons_zero, List.set_cons_succ]
  refine tk 5 (some 38) (.pointer (some ⟨g, 0, none⟩)) rfl rfl (by kernel_rfl) (by kernel_rfl) (by kernel_rfl) (fun _ _ _ h => h) (.inl ⟨by rfl, fun _ _ => by go_simp⟩) S1 ?_
  simp only [Act.put, List.setIfInBounds_toArray, List.set_cons_zero, List.set_cons_succ]
  refine tk 6 (some 39) (.pointer (some ⟨g, 0, none⟩)) rfl rfl (by kernel_rfl) (by kernel_rfl) (by kernel_rfl) (fun _ _ _ h => h) (.inl ⟨by rfl, fun _ _ => by go_simp⟩) S1 ?_
  simp only [Act.put, List.setIfInBounds_toArray, List.set_cons_zero, List.set_cons_succ]
  refine tk 7 (some 40) (.pointer (some ⟨g, 0, none⟩)) rfl rfl (by kernel_rfl) (by kernel_rfl) (by kernel_rfl) (fun _ _ _ h => h) (.inl ⟨by rfl, fun _ _ => by go_simp⟩) S1 ?_
  simp only [Act.put, List.setIfInBounds_toArray, List.set_cons_zero, List.set_cons_succ]
  refine tk 8 (some 41) (.pointer (some ⟨g, 0, none⟩)) rfl rfl (by kernel_rfl) (by kernel_rfl) (by kernel_rfl) (fun _ _ _ h => h) (.inl ⟨by rfl, fun _ _ => by go_simp⟩) S1 ?_
  simp only [Act.put, List.setIfInBounds_toArray, List.set_cons_zero, List.set_cons_succ]
  refine tk 9 (some 42) (.int .i64 x.id) rfl rfl (by kernel_rfl) (by kernel_rfl) (by kernel_rfl) (fun _ _ _ h => h) (yl1 3 (p := ⟨g, 0, none⟩) (v := .int .i64 x.id) rfl rfl Tryz.isAgg3 (fun w h => h.cell (j := 0) fun _ _ _ _ _ _ _ => rfl) rfl) S1 ?_
  simp only [Act.put, List.setIfInBounds_toArray, List.set_cons_zero, List.set_cons_succ]
  refine tk 10 (some 43) (.pointer (some ⟨g, 0, none⟩)) rfl rfl (by kernel_rfl) (by kernel_rfl) (by kernel_rfl) (fun _ _ _ h => h) (.inl ⟨by rfl, fun _ _ => by go_simp⟩) S1 ?_
  simp only [Act.put, List.setIfInBounds_toArray, List.set_cons_zero, List.set_cons_succ]
  refine tk 11 (some 44) (.pointer (some ⟨g, 0, none⟩)) rfl rfl (by kernel_rfl) (by kernel_rfl) (by kernel_rfl) (fun _ _ _ h => h) (.inl ⟨by rfl, fun _ _ => by go_simp⟩) S1 ?_
  simp only [Act.put, List.setIfInBounds_toArray, List.set_cons_zero, List.set_cons_succ]
  refine tk 12 (some 45) (.pointer (some ⟨g, 0, none⟩)) rfl rfl (by kernel_rfl) (by kernel_rfl) (by kernel_rfl) (fun _ _ _ h => h) (.inl ⟨by rfl, fun _ _ => by go_simp⟩) S1 ?_
  simp only [Act.put, List.setIfInBounds_toArray, List.set_cons_zero, List.set_cons_succ]
  refine tk 13 (some 46) (.pointer (some ⟨g, 8, none⟩)) rfl rfl (by kernel_rfl) (by kernel_rfl) (by kernel_rfl) (fun _ _ _ h => h) (.inl ⟨by rfl, fun _ _ => by go_simp⟩) S1 ?_
  simp only [Act.put, List.setIfInBounds_toArray, List.set_cons_zero, List.set_cons_succ]
  refine tk 15 (some 48) (.pointer (some ⟨g, 0, none⟩)) rfl rfl (by kernel_rfl) (by kernel_rfl) (by kernel_rfl) (fun _ _ _ h => h) (.inl ⟨by rfl, fun _ _ => by go_simp⟩) S1 ?_
  simp only [Act.put, List.setIfInBounds_toArray, List.set_cons_zero, List.set_cons_succ]
  refine tk 16 (some 49) (.pointer (some ⟨g, 0, none⟩)) rfl rfl (by kernel_rfl) (by kernel_rfl) (by kernel_rfl) (fun _ _ _ h => h) (.inl ⟨by rfl, fun _ _ => by go_simp⟩) S1 ?_
  simp only [Act.put, List.setIfInBounds_toArray, List.set_cons_zero, List.set_cons_succ]
  refine tk 17 (some 50) (.pointer (some ⟨g, 0, none⟩)) rfl rfl (by kernel_rfl) (by kernel_rfl) (by kernel_rfl) (fun _ _ _ h => h) (.inl ⟨by rfl, fun _ _ => by go_simp⟩) S1 ?_
  simp only [Act.put, List.setIfInBounds_toArray, List.set_cons_zero, List.set_cons_succ]
  refine tk 18 (some 51) (.pointer (some ⟨g, 2, none⟩)) rfl rfl (by kernel_rfl) (by kernel_rfl) (by kernel_rfl) (fun _ _ _ h => h) (.inl ⟨by rfl, fun _ _ => by go_simp⟩) S1 ?_
  simp only [Act.put, List.setIfInBounds_toArray, List.set_cons_zero, List.set_cons_succ]
  refine tk 19 (some 52) (.int .u64 x.sl) rfl rfl (by kernel_rfl) (by kernel_rfl) (by kernel_rfl) (fun _ _ _ h => h) (yl1 24 (p := ⟨g, 2, none⟩) (v := .int .u64 x.sl) rfl rfl Tryz.isAgg24 (fun w h => h.cell (j := 2) fun _ _ _ _ _ _ _ => rfl) rfl) S1 ?_
  simp only [Act.put, List.setIfInBounds_toArray, List.set_cons_zero, List.set_cons_succ]
  refine tk 20 (some 53) (.pointer (some ⟨g, 0, none⟩)) rfl rfl (by kernel_rfl) (by kernel_rfl) (by kernel_rfl) (fun _ _ _ h => h) (.inl ⟨by rfl, fun _ _ => by go_simp⟩) S1 ?_
  simp only [Act.put, List.setIfInBounds_toArray, List.set_cons_zero, List.set_cons_succ]
  refine tk 21 (some 54) (.pointer (some ⟨g, 0, none⟩)) rfl rfl (by kernel_rfl) (by kernel_rfl) (by kernel_rfl) (fun _ _ _ h => h) (.inl ⟨by rfl, fun _ _ => by go_simp⟩) S1 ?_
  simp only [Act.put, List.setIfInBounds_toArray, List.set_cons_zero, List.set_cons_succ]
  refine tk 22 (some 55) (.pointer (some ⟨g, 0, none⟩)) rfl rfl (by kernel_rfl) (by kernel_rfl) (by kernel_rfl) (fun _ _ _ h => h) (.inl ⟨by rfl, fun _ _ => by go_simp⟩) S1 ?_
  simp only [Act.put, List.setIfInBounds_toArray, List.set_cons_zero, List.set_cons_succ]
  refine tk 23 (some 56) (.pointer (some ⟨g, 13, none⟩)) rfl rfl (by kernel_rfl) (by kernel_rfl) (by kernel_rfl) (fun _ _ _ h => h) (.inl ⟨by rfl, fun _ _ => by go_simp⟩) S1 ?_
  simp only [Act.put, List.setIfInBounds_toArray, List.set_cons_zero, List.set_cons_succ]
  refine tk 24 (some 57) (.int .i64 x.vd) rfl rfl (by kernel_rfl) (by kernel_rfl) (by kernel_rfl) (fun _ _ _ h => h) (yl1 3 (p := ⟨g, 13, none⟩) (v := .int .i64 x.vd) rfl rfl Tryz.isAgg3 (fun w h => h.cell (j := 13) fun _ _ _ _ _ _ _ => rfl) rfl) S1 ?_
  simp only [Act.put, List.setIfInBounds_toArray, List.set_cons_zero, List.set_cons_succ]
  refine rd_l1 14 (some 47) (.int .u16 (x.mb : Int)) 27 (p := ⟨g, 8, none⟩) (by kernel_rfl) rfl rfl rfl rfl Tryz.isAgg27 (Q1.out.cell fun _ _ _ _ _ _ => rfl) rfl S1 ?_
  simp only [Act.put, List.setIfInBounds_toArray, List.set_cons_zero, List.set_cons_succ]
  refine rd_cl 25 (some 58) 125 #[mv m, .int .i64 x.id, .int .u16 (x.mb : Int), .int .u64 x.sl, .int .i64 x.vd] _ (by kernel_rfl) rfl rfl (by unfold execOp; simp [go_sem]; done) (HA.out _) rfl ?_
  intro w2 b2
  have Q2 := hid (Q1.out.below b2)
  have K2 := hid (Q1.out.keptb b2)
  have S2 : SM K base g x m l w2 := ⟨_, Q2.out⟩
  refine ⟨S2, ?_⟩
  simp only [Act.put, List.setIfInBounds_toArray, List.set_cons_zero, List.set_cons_succ]
  refine tk 26 (some 32) (.tuple #[.int .u16 (B : Int), .int .i64 0]) rfl rfl (by kernel_rfl) (by kernel_rfl) (by kernel_rfl) (fun _ _ _ h => h) (.inl ⟨by rfl, fun _ _ => by go_simp⟩) S2 ?_
  simp only [Act.put, List.setIfInBounds_toArray, List.set_cons_zero, List.set_cons_succ]
  refine tk 27 (some 59) (.int .u16 (B : Int)) rfl rfl (by kernel_rfl) (by kernel_rfl) (by kernel_rfl) (fun _ _ _ h => h) (.inl ⟨by rfl, fun _ _ => by go_simp⟩) S2 ?_
  simp only [Act.put, List.setIfInBounds_toArray, List.set_cons_zero, List.set_cons_succ]
  refine tk 28 (some 60) (.int .i64 0) rfl rfl (by kernel_rfl) (by kernel_rfl) (by kernel_rfl) (fun _ _ _ h => h) (.inl ⟨by rfl, fun _ _ => by go_simp⟩) S2 ?_
  simp only [Act.put, List.setIfInBounds_toArray, List.set_cons_zero, List.set_cons_succ]
  refine tk 29 (some 61) (.pointer (some ⟨g, 0, none⟩)) rfl rfl (by kernel_rfl) (by kernel_rfl) (by kernel_rfl) (fun _ _ _ h => h) (.inl ⟨by rfl, fun _ _ => by go_simp⟩) S2 ?_
  simp only [Act.put, List.setIfInBounds_toArray, List.set_cons_zero, List.set_cons_succ]
  refine tk 30 (some 62) (.pointer (some ⟨g, 0, none⟩)) rfl rfl (by kernel_rfl) (by kernel_rfl) (by kernel_rfl) (fun _ _ _ h => h) (.inl ⟨by rfl, fun _ _ => by go_simp⟩) S2 ?_
  simp only [Act.put, List.setIfInBounds_toArray, List.set_cons_zero, List.set_cons_succ]
  refine tk 31 (some 63) (.pointer (some ⟨g, 8, none⟩)) rfl rfl (by kernel_rfl) (by kernel_rfl) (by kernel_rfl) (fun _ _ _ h => h) (.inl ⟨by rfl, fun _ _ => by go_simp⟩) S2 ?_
  simp only [Act.put, List.setIfInBounds_toArray, List.set_cons_zero, List.set_cons_succ]
  refine rd_ws1 { x with mb := B } 32 8 (.int .u16 (B : Int)) 27 (by kernel_rfl) rfl rfl rfl rfl rfl Q2.out (by kernel_rfl) rfl rfl rfl (fun _ _ _ _ _ _ => rfl) (by omega) rfl ?_
  intro w3 Q3 k3
  refine ⟨⟨_, Q3⟩, ?_⟩
  refine wpAnyH_done (by kernel_rfl) ?_ _
  have Q3 := hid Q3
  have K3 := hid (KK.out.trans (K2.out.trans k3))
  have d0 : w3.cell? ⟨g, 0, none⟩ = some (.int .i64 x.id) := Q3.out.cell fun _ _ _ _ _ _ => rfl
  clear k3
  go_wp2_with fail
  first | go_end0 | refine bodyPost_ret (results_none rfl _ _ _) rfl ?_
  exact ⟨rfl, Q3.out, K3.out⟩
set_option maxRecDepth 100000 in
set_option maxHeartbeats 2000000 in
theorem leave_null (K : Nat → Prop) (base g : Nat) (x : Nd) (m : Md) (l : List Ac) (w : World) (h : Wk w K base g x m l) (hl : l.length ≤ 1000) (k : NdOk m x) (hO : ¬ x.sl % m.n = x.id) (hh : M10.hs x.mb (x.sl % m.n).toNat = true) (hv : x.vd = 0) :
    Calls Tryz.prog 80 #[.pointer (some ⟨g, 0, none⟩)] w (RetW K base g { x with mb := aftM m x } m (l ++ [note 4 (x.sl % m.n)]) (.tuple #[]) w) := by
  have H := hid h
  have HO := hid (owner_w K base g x m l w h k.hm k.s0 k.s1)
  have o0 := Int.emod_nonneg x.sl (show m.n ≠ 0 by have := k.hm.1; omega)
  have o1 := Int.emod_lt_of_pos x.sl (show 0 < m.n by have := k.hm.1; omega)
  have o2 : x.sl % m.n ≤ 15 := by have := k.hm.2.1; omega
  have HH := hid (fun w => has_id x.mb (x.sl % m.n) w k.mb o0 o2)
  have HA := hid (fun w => after_ok m x w k)
  have e1 : (x.sl % m.n != x.id) = true := by simp [hO]
  have e2 : (x.sl % m.n == x.id) = false := by simp [hO]
  rw [hh] at HH
  have e3 : (x.vd == 0) = true := by simp [hv]
  have HN := hid (fun w h => note_any K base g x m l 4 (x.sl % m.n) w h hl)
  clear h hl k o0 o1 o2 hO hh hv
  generalize x.sl % m.n = O at *
  generalize aftM m x = B at *
  go_enter Tryz.func80, Tryz.ntmps80
  go_wp2_with (first
    | (go_at_call 39; (with_reducible refine HO.out.mono ?_); rintro e w1 ⟨rfl, b1⟩; have W1 := hid (H.out.below b1); have k1 := hid (H.out.keptb b1); have c0 : w1.cell? ⟨g, 0, none⟩ = some (.int .i64 x.id) := W1.out.cell fun _ _ _ _ _ _ => rfl; have c8 : w1.cell? ⟨g, 8, none⟩ = some (.int .u16 (x.mb : Int)) := W1.out.cell fun _ _ _ _ _ _ => rfl; have c13 : w1.cell? ⟨g, 13, none⟩ = some (.int .i64 x.vd) := W1.out.cell fun _ _ _ _ _ _ => rfl)
    | (go_at_call 26; (with_reducible refine (HH.out w1).mono ?_); rintro e w1 ⟨rfl, rfl⟩)
    | (go_at_call 72; (with_reducible refine (HN.out w1 W1.out).mono ?_); rintro e w1b ⟨rfl, W1b, k1b⟩; have W1b := hid W1b; have k1b := hid k1b))
  have KK := hid ((k1.out.trans k1b.out).trans (W1b.out.keptb (Below.refl _ _).drew))
  have Q1 := hid W1b.out.drew
  have S1 : SM K base g x m (l ++ [note 4 (O)]) w1b.drew := ⟨_, Q1.out⟩
  refine wp_region_held_drew (S := SM K base g x m (l ++ [note 4 (O)])) (by kernel_rfl) S1 (fun _ => ?_)
  refine tk 0 (some 33) (.pointer (some ⟨g, 0, none⟩)) rfl rfl (by kernel_rfl) (by kernel_rfl) (by kernel_rfl) (fun _ _ _ h => h) (.inl ⟨by rfl, fun _ _ => by go_simp⟩) S1 ?_
  simp only [Act.put, List.setIfInBounds_toArray, List.set_cons_zero, List.set_cons_succ]
  refine tk 1 (some 34) (.pointer (some ⟨g, 0, none⟩)) rfl rfl (by kernel_rfl) (by kernel_rfl) (by kernel_rfl) (fun _ _ _ h => h) (.inl ⟨by rfl, fun _ _ => by go_simp⟩) S1 ?_
  simp only [Act.put, List.setIfInBounds_toArray, List.set_cons_zero, List.set_cons_succ]
  refine tk 2 (some 35) (.pointer (some ⟨g, 0, none⟩)) rfl rfl (by kernel_rfl) (by kernel_rfl) (by kernel_rfl) (fun _ _ _ h => h) (.inl ⟨by rfl, fun _ _ => by go_simp⟩) S1 ?_
  simp only [Act.put, List.setIfInBounds_toArray, List.set_cons_zero, List.set_cons_succ]
  refine tk 3 (some 36) (.pointer (some ⟨g, 14, none⟩)) rfl rfl (by kernel_rfl) (by kernel_rfl) (by kernel_rfl) (fun _ _ _ h => h) (.inl ⟨by rfl, fun _ _ => by go_simp⟩) S1 ?_
  simp only [Act.put, List.setIfInBounds_toArray, List.set_cons_zero, List.set_cons_succ]
  refine tk 4 (some 37) (mv m) rfl rfl (by kernel_rfl) (by kernel_rfl) (by kernel_rfl) (fun _ _ _ h => h) (ylm rfl rfl (fun w h => h.md) rfl) S1 ?_
  simp only [Act.put, List.setIfInBounds_toArray, List.set_cons_zero, List.set_cons_succ]
  refine tk 5 (some 38) (.pointer (some ⟨g, 0, none⟩)) rfl rfl (by kernel_rfl) (by kernel_rfl) (by kernel_rfl) (fun _ _ _ h => h) (.inl ⟨by rfl, fun _ _ => by go_simp⟩) S1 ?_
  simp only [Act.put, List.setIfInBounds_toArray, List.set_cons_zero, List.set_cons_succ]
  refine tk 6 (some 39) (.pointer (some ⟨g, 0, none⟩)) rfl rfl (by kernel_rfl) (by kernel_rfl) (by kernel_rfl) (fun _ _ _ h => h) (.inl ⟨by rfl, fun _ _ => by go_simp⟩) S1 ?_
  simp only [Act.put, List.setIfInBounds_toArray, List.set_cons_zero, List.set_cons_succ]
  refine tk 7 (some 40) (.pointer (some ⟨g, 0, none⟩)) rfl rfl (by kernel_rfl) (by kernel_rfl) (by kernel_rfl) (fun _ _ _ h => h) (.inl ⟨by rfl, fun _ _ => by go_simp⟩) S1 ?_
  simp only [Act.put, List.setIfInBounds_toArray, List.set_cons_zero, List.set_cons_succ]
  refine tk 8 (some 41) (.pointer (some ⟨g, 0, none⟩)) rfl rfl (by kernel_rfl) (by kernel_rfl) (by kernel_rfl) (fun _ _ _ h => h) (.inl ⟨by rfl, fun _ _ => by go_simp⟩) S1 ?_
  simp only [Act.put, List.setIfInBounds_toArray, List.set_cons_zero, List.set_cons_succ]
  refine tk 9 (some 42) (.int .i64 x.id) rfl rfl (by kernel_rfl) (by kernel_rfl) (by kernel_rfl) (fun _ _ _ h => h) (yl1 3 (p := ⟨g, 0, none⟩) (v := .int .i64 x.id) rfl rfl Tryz.isAgg3 (fun w h => h.cell (j := 0) fun _ _ _ _ _ _ _ => rfl) rfl) S1 ?_
  simp only [Act.put, List.setIfInBounds_toArray, List.set_cons_zero, List.set_cons_succ]
  refine tk 10 (some 43) (.pointer (some ⟨g, 0, none⟩)) rfl rfl (by kernel_rfl) (by kernel_rfl) (by kernel_rfl) (fun _ _ _ h => h) (.inl ⟨by rfl, fun _ _ => by go_simp⟩) S1 ?_
  simp only [Act.put, List.setIfInBounds_toArray, List.set_cons_zero, List.set_cons_succ]
  refine tk 11 (some 44) (.pointer (some ⟨g, 0, none⟩)) rfl rfl (by kernel_rfl) (by kernel_rfl) (by kernel_rfl) (fun _ _ _ h => h) (.inl ⟨by rfl, fun _ _ => by go_simp⟩) S1 ?_
  simp only [Act.put, List.setIfInBounds_toArray, List.set_cons_zero, List.set_cons_succ]
  refine tk 12 (some 45) (.pointer (some ⟨g, 0, none⟩)) rfl rfl (by kernel_rfl) (by kernel_rfl) (by kernel_rfl) (fun _ _ _ h => h) (.inl ⟨by rfl, fun _ _ => by go_simp⟩) S1 ?_
  simp only [Act.put, List.setIfInBounds_toArray, List.set_cons_zero, List.set_cons_succ]
  refine tk 13 (some 46) (.pointer (some ⟨g, 8, none⟩)) rfl rfl (by kernel_rfl) (by kernel_rfl) (by kernel_rfl) (fun _ _ _ h => h) (.inl ⟨by rfl, fun _ _ => by go_simp⟩) S1 ?_
  simp only [Act.put, List.setIfInBounds_toArray, List.set_cons_zero, List.set_cons_succ]
  refine tk 15 (some 48) (.pointer (some ⟨g, 0, none⟩)) rfl rfl (by kernel_rfl) (by kernel_rfl) (by kernel_rfl) (fun _ _ _ h => h) (.inl ⟨by rfl, fun _ _ => by go_simp⟩) S1 ?_
  simp only [Act.put, List.setIfInBounds_toArray, List.set_cons_zero, List.set_cons_succ]
  refine tk 16 (some 49) (.pointer (some ⟨g, 0, none⟩)) rfl rfl (by kernel_rfl) (by kernel_rfl) (by kernel_rfl) (fun _ _ _ h => h) (.inl ⟨by rfl, fun _ _ => by go_simp⟩) S1 ?_
  simp only [Act.put, List.setIfInBounds_toArray, List.set_cons_zero, List.set_cons_succ]
  refine tk 17 (some 50) (.pointer (some ⟨g, 0, none⟩)) rfl rfl (by kernel_rfl) (by kernel_rfl) (by kernel_rfl) (fun _ _ _ h => h) (.inl ⟨by rfl, fun _ _ => by go_simp⟩) S1 ?_
  simp only [Act.put, List.setIfInBounds_toArray, List.set_cons_zero, List.set_cons_succ]
  refine tk 18 (some 51) (.pointer (some ⟨g, 2, none⟩)) rfl rfl (by kernel_rfl) (by kernel_rfl) (by kernel_rfl) (fun _ _ _ h => h) (.inl ⟨by rfl, fun _ _ => by go_simp⟩) S1 ?_
  simp only [Act.put, List.setIfInBounds_toArray, List.set_cons_zero, List.set_cons_succ]
  refine tk 19 (some 52) (.int .u64 x.sl) rfl rfl (by kernel_rfl) (by kernel_rfl) (by kernel_rfl) (fun _ _ _ h => h) (yl1 24 (p := ⟨g, 2, none⟩) (v := .int .u64 x.sl) rfl rfl Tryz.isAgg24 (fun w h => h.cell (j := 2) fun _ _ _ _ _ _ _ => rfl) rfl) S1 ?_
  simp only [Act.put, List.setIfInBounds_toArray, List.set_cons_zero, List.set_cons_succ]
  refine tk 20 (some 53) (.pointer (some ⟨g, 0, none⟩)) rfl rfl (by kernel_rfl) (by kernel_rfl) (by kernel_rfl) (fun _ _ _ h => h) (.inl ⟨by rfl, fun _ _ => by go_simp⟩) S1 ?_
  simp only [Act.put, List.setIfInBounds_toArray, List.set_cons_zero, List.set_cons_succ]
  refine tk 21 (some 54) (.pointer (some ⟨g, 0, none⟩)) rfl rfl (by kernel_rfl) (by kernel_rfl) (by kernel_rfl) (fun _ _ _ h => h) (.inl ⟨by rfl, fun _ _ => by go_simp⟩) S1 ?_
  simp only [Act.put, List.setIfInBounds_toArray, List.set_cons_zero, List.set_cons_succ]
  refine tk 22 (some 55) (.pointer (some ⟨g, 0, none⟩)) rfl rfl (by kernel_rfl) (by kernel_rfl) (by kernel_rfl) (fun _ _ _ h => h) (.inl ⟨by rfl, fun _ _ => by go_simp⟩) S1 ?_
  simp only [Act.put, List.setIfInBounds_toArray, List.set_cons_zero, List.set_cons_succ]
  refine tk 23 (some 56) (.pointer (some ⟨g, 13, none⟩)) rfl rfl (by kernel_rfl) (by kernel_rfl) (by kernel_rfl) (fun _ _ _ h => h) (.inl ⟨by rfl, fun _ _ => by go_simp⟩) S1 ?_
  simp only [Act.put, List.setIfInBounds_toArray, List.set_cons_zero, List.set_cons_succ]
  refine tk 24 (some 57) (.int .i64 x.vd) rfl rfl (by kernel_rfl) (by kernel_rfl) (by kernel_rfl) (fun _ _ _ h => h) (yl1 3 (p := ⟨g, 13, none⟩) (v := .int .i64 x.vd) rfl rfl Tryz.isAgg3 (fun w h => h.cell (j := 13) fun _ _ _ _ _ _ _ => rfl) rfl) S1 ?_
  simp only [Act.put, List.setIfInBounds_toArray, List.set_cons_zero, List.set_cons_succ]
  refine rd_l1 14 (some 47) (.int .u16 (x.mb : Int)) 27 (p := ⟨g, 8, none⟩) (by kernel_rfl) rfl rfl rfl rfl Tryz.isAgg27 (Q1.out.cell fun _ _ _ _ _ _ => rfl) rfl S1 ?_
  simp only [Act.put, List.setIfInBounds_toArray, List.set_cons_zero, List.set_cons_succ]
  refine rd_cl 25 (some 58) 125 #[mv m, .int .i64 x.id, .int .u16 (x.mb : Int), .int .u64 x.sl, .int .i64 x.vd] _ (by kernel_rfl) rfl rfl (by unfold execOp; simp [go_sem]; done) (HA.out _) rfl ?_
  intro w2 b2
  have Q2 := hid (Q1.out.below b2)
  have K2 := hid (Q1.out.keptb b2)
  have S2 : SM K base g x m (l ++ [note 4 (O)]) w2 := ⟨_, Q2.out⟩
  refine ⟨S2, ?_⟩
  simp only [Act.put, List.setIfInBounds_toArray, List.set_cons_zero, List.set_cons_succ]
  refine tk 26 (some 32) (.tuple #[.int .u16 (B : Int), .int .i64 0]) rfl rfl (by kernel_rfl) (by kernel_rfl) (by kernel_rfl) (fun _ _ _ h => h) (.inl ⟨by rfl, fun _ _ => by go_simp⟩) S2 ?_
  simp only [Act.put, List.setIfInBounds_toArray, List.set_cons_zero, List.set_cons_succ]
  refine tk 27 (some 59) (.int .u16 (B : Int)) rfl rfl (by kernel_rfl) (by kernel_rfl) (by kernel_rfl) (fun _ _ _ h => h) (.inl ⟨by rfl, fun _ _ => by go_simp⟩) S2 ?_
  simp only [Act.put, List.setIfInBounds_toArray, List.set_cons_zero, List.set_cons_succ]
  refine tk 28 (some 60) (.int .i64 0) rfl rfl (by kernel_rfl) (by kernel_rfl) (by kernel_rfl) (fun _ _ _ h => h) (.inl ⟨by rfl, fun _ _ => by go_simp⟩) S2 ?_
  simp only [Act.put, List.setIfInBounds_toArray, List.set_cons_zero, List.set_cons_succ]
  refine tk 29 (some 61) (.pointer (some ⟨g, 0, none⟩)) rfl rfl (by kernel_rfl) (by kernel_rfl) (by kernel_rfl) (fun _ _ _ h => h) (.inl ⟨by rfl, fun _ _ => by go_simp⟩) S2 ?_
  simp only [Act.put, List.setIfInBounds_toArray, List.set_cons_zero, List.set_cons_succ]
  refine tk 30 (some 62) (.pointer (some ⟨g, 0, none⟩)) rfl rfl (by kernel_rfl) (by kernel_rfl) (by kernel_rfl) (fun _ _ _ h => h) (.inl ⟨by rfl, fun _ _ => by go_simp⟩) S2 ?_
  simp only [Act.put, List.setIfInBounds_toArray, List.set_cons_zero, List.set_cons_succ]
  refine tk 31 (some 63) (.pointer (some ⟨g, 8, none⟩)) rfl rfl (by kernel_rfl) (by kernel_rfl) (by kernel_rfl) (fun _ _ _ h => h) (.inl ⟨by rfl, fun _ _ => by go_simp⟩) S2 ?_
  simp only [Act.put, List.setIfInBounds_toArray, List.set_cons_zero, List.set_cons_succ]
  refine rd_ws1 { x with mb := B } 32 8 (.int .u16 (B : Int)) 27 (by kernel_rfl) rfl rfl rfl rfl rfl Q2.out (by kernel_rfl) rfl rfl rfl (fun _ _ _ _ _ _ => rfl) (by omega) rfl ?_
  intro w3 Q3 k3
  refine ⟨⟨_, Q3⟩, ?_⟩
  refine wpAnyH_done (by kernel_rfl) ?_ _
  have Q3 := hid Q3
  have K3 := hid (KK.out.trans (K2.out.trans k3))
  have d0 : w3.cell? ⟨g, 0, none⟩ = some (.int .i64 x.id) := Q3.out.cell fun _ _ _ _ _ _ => rfl
  clear k3
  go_wp2_with fail
  first | go_end0 | refine bodyPost_ret (results_none rfl _ _ _) rfl ?_
  exact ⟨rfl, Q3.out, K3.out⟩
/-- What it leaves; the note that a frame is missed. -/
def leaveN (m : Md) (x : Nd) : Nd := { x with mb := aftM m x, dv := if x.sl % m.n = x.id then lateL m x.dv 0 else x.dv }
def leaveL (m : Md) (x : Nd) : List Ac := if ¬ x.sl % m.n = x.id ∧ M10.hs x.mb (x.sl % m.n).toNat = true ∧ x.vd = 0 then [note 4 (x.sl % m.n)] else []
theorem leave_any (K : Nat → Prop) (base g : Nat) (x : Nd) (m : Md) (l : List Ac) (w : World) (h : Wk w K base g x m l) (hl : l.length ≤ 1000) (k : NdOk m x) :
    Calls Tryz.prog 80 #[.pointer (some ⟨g, 0, none⟩)] w (RetW K base g (leaveN m x) m (l ++ leaveL m x) (.tuple #[]) w) := by
  by_cases hO : x.sl % m.n = x.id
  · rw [show leaveL m x = [] from if_neg (fun q => q.1 hO), List.append_nil, show leaveN m x = { x with mb := aftM m x, dv := lateL m x.dv 0 } by unfold leaveN; rw [if_pos hO]]
    exact leave_own K base g x m l w h hl k hO
  · rw [show leaveN m x = { x with mb := aftM m x } by unfold leaveN; rw [if_neg hO]]
    cases hh : M10.hs x.mb (x.sl % m.n).toNat with
    | false => rw [show leaveL m x = [] from if_neg (fun q => by simp [hh] at q), List.append_nil]; exact leave_none K base g x m l w h hl k hO hh
    | true =>
      by_cases hv : x.vd = 0
      · rw [show leaveL m x = [note 4 (x.sl % m.n)] from if_pos ⟨hO, hh, hv⟩]
        exact leave_null K base g x m l w h hl k hO hh hv
      · rw [show leaveL m x = [] from if_neg (fun q => hv q.2.2), List.append_nil]
        exact leave_heard K base g x m l w h hl k hO hh hv
end Go.Proofs.YtlgedfljmgedfaaGreat
