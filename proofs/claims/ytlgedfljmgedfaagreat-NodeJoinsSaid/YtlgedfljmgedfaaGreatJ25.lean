/-
  Texts NK of this seat, as far as they are used.
-/
import Derived.Test.YtlgedfljmgedfaaGreatJ24
namespace Go.Proofs.YtlgedfljmgedfaaGreat
open Go Go.RowKit
open M10 (hid Md encm mv mz Oth range_keep there_keep range_other there_other setCells_oth setCells_size there_set Ty enct tv tz Fr encf fv fz)
open O6 (Oc enco ov oz)
open T9 (sv)
/-! ### send -/
def sendN (x : Nd) : Nd := { x with se := true, mb := M10.addb x.mb x.id.toNat }
theorem addb_in {m : Md} {x : Nd} (k : NdOk m x) : M10.addb x.mb x.id.toNat < 65536 := M10.addb_lt _ _ k.mb (by have := k.i1; have := k.hm.2.1; omega)
theorem WkU.lt {w : World} {K : Nat → Prop} {base g : Nat} {x : Nd} {m : Md} {l : List Ac} {A B : Option Addr} {n c k d : Nat} (h : WkU w K base g x m l A n c B k d) : g < w.heap.size := h.var.lt (Nat.zero_lt_succ 19)
/-- A node at work, its members and whether it sent whatever they are. -/
def SB (K : Nat → Prop) (base g : Nat) (x : Nd) (m : Md) (l : List Ac) (w : World) : Prop := ∃ (q : Nat) (s : Bool), Wk w K base g { x with mb := q, se := s } m l
theorem SB.cell {w : World} {K : Nat → Prop} {base g : Nat} {x : Nd} {m : Md} {l : List Ac} (h : SB K base g x m l w) {j : Nat} {v : Value} (hc : ∀ q s A n c B k d, (encw { x with mb := q, se := s } A n c m B k d)[j]? = some v) : w.cell? ⟨g, j, none⟩ = some v := by
  obtain ⟨q, s, h⟩ := h
  exact h.cell (hc q s)
set_option maxRecDepth 100000 in
set_option maxHeartbeats 2000000 in
theorem send_more (K : Nat → Prop) (base g : Nat) (x : Nd) (m : Md) (l : List Ac) (w : World) (h : Wk w K base g x m l) (hl : l.length ≤ 900) (k : NdOk m x) (hc : ¬ F8.cn (M10.addb x.mb x.id.toNat) 16 = 1) :
    Calls Tryz.prog 40 #[.pointer (some ⟨g, 0, none⟩)] w (RetW K base g (sendN x) m (l ++ [sent ⟨1, x.id, x.sl.toNat, M10.addb x.mb x.id.toNat⟩] ++ [note 10 x.sl] ++ [timr (timeT x (m.s + x.co))]) (.int .i64 (timeE x (m.s + x.co))) w) := by
  have H := hid h
  obtain ⟨q0, q1⟩ := len_in k
  have HW := hid (fun w => with_id x.mb x.id w k.mb k.i0 (by have := k.i1; have := k.hm.2.1; omega))
  have hB : M10.addb x.mb x.id.toNat < 65536 := addb_in k
  have HC := hid (fun w => F8.count_any (M10.addb x.mb x.id.toNat) w hB)
  obtain ⟨s, hs⟩ : ∃ s : Nat, x.sl = (s : Int) := ⟨x.sl.toNat, by have := k.s0; omega⟩
  have hs' : x.sl.toNat = s := by omega
  have eC : IntKind.i64.wrap (s : Int) = (s : Int) := by rw [IntKind.wrap_i64]; have := k.s1; omega
  have HN := hid (fun (K : Nat → Prop) (w1 : World) (l : List Ac) (hl : l.length ≤ 1000) (h : Wk w1 K base g (sendN x) m l) => note_any K base g (sendN x) m l 10 (s : Int) w1 h hl)
  have HS := hid (fun (K : Nat → Prop) (w1 : World) (l : List Ac) (h : Wk w1 K base g (sendN x) m l) => length_w K base g (sendN x) m l w1 h (m.s + x.co) rfl (by omega) (by omega))
  have HT := hid (fun (K : Nat → Prop) (w1 : World) (l : List Ac) (hl : l.length ≤ 1000) (h : Wk w1 K base g (sendN x) m l) => timer_any K base g (sendN x) m l (m.s + x.co) w1 h hl ⟨k.ho, k.t0, k.t1⟩ q0 q1)
  rw [show timeT (sendN x) (m.s + x.co) = timeT x (m.s + x.co) from rfl, show timeE (sendN x) (m.s + x.co) = timeE x (m.s + x.co) from rfl] at HT
  have e1 : (((F8.cn (M10.addb x.mb x.id.toNat) 16 : Nat) : Int) == 1) = false := by simp; omega
  rw [hs', hs]
  have hsl : ∀ (K : Nat → Prop) w l, Wk w K base g (sendN x) m l → w.cell? ⟨g, 2, none⟩ = some (.int .u64 (s : Int)) := fun K w l h => hs ▸ h.cell (j := 2) (v := .int .u64 x.sl) fun _ _ _ _ _ _ => rfl
  have HL := hid hl
  unfold sendN at HN HS HT hsl ⊢
  clear h hl k hc hs hs' q0 q1
  generalize timeT x (m.s + x.co) = T at *
  generalize timeE x (m.s + x.co) = E at *
  generalize m.s + x.co = L at *
  generalize hcn : ((F8.cn (M10.addb x.mb x.id.toNat) 16 : Nat) : Int) = cc at *
  generalize M10.addb x.mb x.id.toNat = B at *
  clear hcn
  go_enter Tryz.func40, Tryz.ntmps40
  go_wp2_with fail
  have Q1 := hid H.out.drew
  have K1 := hid (H.out.keptb (Below.refl _ _).drew)
  have S1 : SB K base g x m l w.drew := ⟨_, _, Q1.out⟩
  refine wp_region_held_drew (S := SB K base g x m l) (by kernel_rfl) S1 (fun _ => ?_)
  refine tk 0 (some 4) (.pointer (some ⟨g, 0, none⟩)) rfl rfl (by kernel_rfl) (by kernel_rfl) (by kernel_rfl) (fun _ _ _ h => h) (.inl ⟨by rfl, fun _ _ => by go_simp⟩) S1 ?_
  simp only [Act.put, List.setIfInBounds_toArray, List.set_cons_zero, List.set_cons_succ]
  refine tk 1 (some 5) (.pointer (some ⟨g, 0, none⟩)) rfl rfl (by kernel_rfl) (by kernel_rfl) (by kernel_rfl) (fun _ _ _ h => h) (.inl ⟨by rfl, fun _ _ => by go_simp⟩) S1 ?_
  simp only [Act.put, List.setIfInBounds_toArray, List.set_cons_zero, List.set_cons_succ]
  refine tk 2 (some 6) (.pointer (some ⟨g, 0, none⟩)) rfl rfl (by kernel_rfl) (by kernel_rfl) (by kernel_rfl) (fun _ _ _ h => h) (.inl ⟨by rfl, fun _ _ => by go_simp⟩) S1 ?_
  simp only [Act.put, List.setIfInBounds_toArray, List.set_cons_zero, List.set_cons_succ]
  refine tk 3 (some 7) (.pointer (some ⟨g, 0, none⟩)) rfl rfl (by kernel_rfl) (by kernel_rfl) (by kernel_rfl) (fun _ _ _ h => h) (.inl ⟨by rfl, fun _ _ => by go_simp⟩) S1 ?_
  simp only [Act.put, List.setIfInBounds_toArray, List.set_cons_zero, List.set_cons_succ]
  refine tk 4 (some 8) (.pointer (some ⟨g, 0, none⟩)) rfl rfl (by kernel_rfl) (by kernel_rfl) (by kernel_rfl) (fun _ _ _ h => h) (.inl ⟨by rfl, fun _ _ => by go_simp⟩) S1 ?_
  simp only [Act.put, List.setIfInBounds_toArray, List.set_cons_zero, List.set_cons_succ]
  refine tk 5 (some 9) (.pointer (some ⟨g, 8, none⟩)) rfl rfl (by kernel_rfl) (by kernel_rfl) (by kernel_rfl) (fun _ _ _ h => h) (.inl ⟨by rfl, fun _ _ => by go_simp⟩) S1 ?_
  simp only [Act.put, List.setIfInBounds_toArray, List.set_cons_zero, List.set_cons_succ]
  refine tk 7 (some 11) (.pointer (some ⟨g, 0, none⟩)) rfl rfl (by kernel_rfl) (by kernel_rfl) (by kernel_rfl) (fun _ _ _ h => h) (.inl ⟨by rfl, fun _ _ => by go_simp⟩) S1 ?_
  simp only [Act.put, List.setIfInBounds_toArray, List.set_cons_zero, List.set_cons_succ]
  refine tk 8 (some 12) (.pointer (some ⟨g, 0, none⟩)) rfl rfl (by kernel_rfl) (by kernel_rfl) (by kernel_rfl) (fun _ _ _ h => h) (.inl ⟨by rfl, fun _ _ => by go_simp⟩) S1 ?_
  simp only [Act.put, List.setIfInBounds_toArray, List.set_cons_zero, List.set_cons_succ]
  refine tk 9 (some 13) (.pointer (some ⟨g, 0, none⟩)) rfl rfl (by kernel_rfl) (by kernel_rfl) (by kernel_rfl) (fun _ _ _ h => h) (.inl ⟨by rfl, fun _ _ => by go_simp⟩) S1 ?_
  simp only [Act.put, List.setIfInBounds_toArray, List.set_cons_zero, List.set_cons_succ]
  refine tk 10 (some 14) (.pointer (some ⟨g, 0, none⟩)) rfl rfl (by kernel_rfl) (by kernel_rfl) (by kernel_rfl) (fun _ _ _ h => h) (.inl ⟨by rfl, fun _ _ => by go_simp⟩) S1 ?_
  simp only [Act.put, List.setIfInBounds_toArray, List.set_cons_zero, List.set_cons_succ]
  refine tk 11 (some 15) (.int .i64 x.id) rfl rfl (by kernel_rfl) (by kernel_rfl) (by kernel_rfl) (fun _ _ _ h => h) (yl1 3 (p := ⟨g, 0, none⟩) (v := .int .i64 x.id) rfl rfl Tryz.isAgg3 (fun w h => h.cell (j := 0) fun _ _ _ _ _ _ _ _ => rfl) rfl) S1 ?_
  simp only [Act.put, List.setIfInBounds_toArray, List.set_cons_zero, List.set_cons_succ]
  refine rd_l1 6 (some 10) (.int .u16 (x.mb : Int)) 27 (p := ⟨g, 8, none⟩) (by kernel_rfl) rfl rfl rfl rfl Tryz.isAgg27 (Q1.out.cell fun _ _ _ _ _ _ => rfl) rfl S1 ?_
  simp only [Act.put, List.setIfInBounds_toArray, List.set_cons_zero, List.set_cons_succ]
  refine rd_cl 12 (some 16) 75 #[.int .u16 (x.mb : Int), .int .i64 x.id] _ (by kernel_rfl) rfl rfl (by unfold execOp; simp [go_sem]; done) (HW.out _) rfl ?_
  intro w1 hw1
  subst hw1
  refine ⟨S1, ?_⟩
  simp only [Act.put, List.setIfInBounds_toArray, List.set_cons_zero, List.set_cons_succ]
  refine tk 13 (some 17) (.pointer (some ⟨g, 0, none⟩)) rfl rfl (by kernel_rfl) (by kernel_rfl) (by kernel_rfl) (fun _ _ _ h => h) (.inl ⟨by rfl, fun _ _ => by go_simp⟩) S1 ?_
  simp only [Act.put, List.setIfInBounds_toArray, List.set_cons_zero, List.set_cons_succ]
  refine tk 14 (some 18) (.pointer (some ⟨g, 0, none⟩)) rfl rfl (by kernel_rfl) (by kernel_rfl) (by kernel_rfl) (fun _ _ _ h => h) (.inl ⟨by rfl, fun _ _ => by go_simp⟩) S1 ?_
  simp only [Act.put, List.setIfInBounds_toArray, List.set_cons_zero, List.set_cons_succ]
  refine tk 15 (some 19) (.pointer (some ⟨g, 12, none⟩)) rfl rfl (by kernel_rfl) (by kernel_rfl) (by kernel_rfl) (fun _ _ _ h => h) (.inl ⟨by rfl, fun _ _ => by go_simp⟩) S1 ?_
  simp only [Act.put, List.setIfInBounds_toArray, List.set_cons_zero, List.set_cons_succ]
  refine rd_ws1 { x with se := true } 16 12 (.bool true) 4 (by kernel_rfl) rfl rfl rfl rfl rfl Q1.out (by kernel_rfl) rfl rfl rfl (fun _ _ _ _ _ _ => rfl) (by omega) rfl ?_
  intro w2 Q2 k2
  have Q2 := hid Q2
  have S2 : SB K base g x m l w2 := ⟨_, _, Q2.out⟩
  refine ⟨S2, ?_⟩
  refine tk 17 (some 20) (.pointer (some ⟨g, 0, none⟩)) rfl rfl (by kernel_rfl) (by kernel_rfl) (by kernel_rfl) (fun _ _ _ h => h) (.inl ⟨by rfl, fun _ _ => by go_simp⟩) S2 ?_
  simp only [Act.put, List.setIfInBounds_toArray, List.set_cons_zero, List.set_cons_succ]
  refine tk 18 (some 21) (.pointer (some ⟨g, 0, none⟩)) rfl rfl (by kernel_rfl) (by kernel_rfl) (by kernel_rfl) (fun _ _ _ h => h) (.inl ⟨by rfl, fun _ _ => by go_simp⟩) S2 ?_
  simp only [Act.put, List.setIfInBounds_toArray, List.set_cons_zero, List.set_cons_succ]
  refine tk 19 (some 22) (.pointer (some ⟨g, 8, none⟩)) rfl rfl (by kernel_rfl) (by kernel_rfl) (by kernel_rfl) (fun _ _ _ h => h) (.inl ⟨by rfl, fun _ _ => by go_simp⟩) S2 ?_
  simp only [Act.put, List.setIfInBounds_toArray, List.set_cons_zero, List.set_cons_succ]
  refine rd_ws1 { x with se := true, mb := B } 20 8 (.int .u16 (B : Int)) 27 (by kernel_rfl) rfl rfl rfl rfl rfl Q2.out (by kernel_rfl) rfl rfl rfl (fun _ _ _ _ _ _ => rfl) (by omega) rfl ?_
  intro w3 Q3 k3
  refine ⟨⟨_, _, Q3⟩, ?_⟩
  refine wpAnyH_done (by kernel_rfl) ?_ _
  have Q3 := hid Q3
  have K3 := hid (K1.out.trans (k2.trans k3))
  clear k2 k3 Q1 Q2 S1 S2 K1 HW
  go_wp2_with fail
  have Q4 := hid Q3.out.drew
  have K4 := hid (K3.out.trans (Q3.out.keptb (Below.refl _ _).drew))
  have S4 : Wk w3.drew K base g { x with se := true, mb := B } m l := Q4.out
  refine wp_region_held_drew (S := fun w' => Wk w' K base g { x with se := true, mb := B } m l) (by kernel_rfl) S4 (fun _ => ?_)
  refine tk 0 (some 23) (.pointer (some ⟨g, 0, none⟩)) rfl rfl (by kernel_rfl) (by kernel_rfl) (by kernel_rfl) (fun _ _ _ h => h) (.inl ⟨by rfl, fun _ _ => by go_simp⟩) S4 ?_
  simp only [Act.put, List.setIfInBounds_toArray, List.set_cons_zero, List.set_cons_succ]
  refine tk 1 (some 24) (.pointer (some ⟨g, 0, none⟩)) rfl rfl (by kernel_rfl) (by kernel_rfl) (by kernel_rfl) (fun _ _ _ h => h) (.inl ⟨by rfl, fun _ _ => by go_simp⟩) S4 ?_
  simp only [Act.put, List.setIfInBounds_toArray, List.set_cons_zero, List.set_cons_succ]
  refine tk 2 (some 25) (.pointer (some ⟨g, 0, none⟩)) rfl rfl (by kernel_rfl) (by kernel_rfl) (by kernel_rfl) (fun _ _ _ h => h) (.inl ⟨by rfl, fun _ _ => by go_simp⟩) S4 ?_
  simp only [Act.put, List.setIfInBounds_toArray, List.set_cons_zero, List.set_cons_succ]
  refine tk 3 (some 26) (.pointer (some ⟨g, 0, none⟩)) rfl rfl (by kernel_rfl) (by kernel_rfl) (by kernel_rfl) (fun _ _ _ h => h) (.inl ⟨by rfl, fun _ _ => by go_simp⟩) S4 ?_
  simp only [Act.put, List.setIfInBounds_toArray, List.set_cons_zero, List.set_cons_succ]
  refine tk 4 (some 27) (.int .i64 x.id) rfl rfl (by kernel_rfl) (by kernel_rfl) (by kernel_rfl) (fun _ _ _ h => h) (yl1 3 (p := ⟨g, 0, none⟩) (v := .int .i64 x.id) rfl rfl Tryz.isAgg3 (fun w h => h.cell (j := 0) fun _ _ _ _ _ _ => rfl) rfl) S4 ?_
  simp only [Act.put, List.setIfInBounds_toArray, List.set_cons_zero, List.set_cons_succ]
  refine tk 5 (some 28) (.pointer (some ⟨g, 0, none⟩)) rfl rfl (by kernel_rfl) (by kernel_rfl) (by kernel_rfl) (fun _ _ _ h => h) (.inl ⟨by rfl, fun _ _ => by go_simp⟩) S4 ?_
  simp only [Act.put, List.setIfInBounds_toArray, List.set_cons_zero, List.set_cons_succ]
  refine tk 6 (some 29) (.pointer (some ⟨g, 0, none⟩)) rfl rfl (by kernel_rfl) (by kernel_rfl) (by kernel_rfl) (fun _ _ _ h => h) (.inl ⟨by rfl, fun _ _ => by go_simp⟩) S4 ?_
  simp only [Act.put, List.setIfInBounds_toArray, List.set_cons_zero, List.set_cons_succ]
  refine tk 7 (some 30) (.pointer (some ⟨g, 0, none⟩)) rfl rfl (by kernel_rfl) (by kernel_rfl) (by kernel_rfl) (fun _ _ _ h => h) (.inl ⟨by rfl, fun _ _ => by go_simp⟩) S4 ?_
  simp only [Act.put, List.setIfInBounds_toArray, List.set_cons_zero, List.set_cons_succ]
  refine tk 8 (some 31) (.pointer (some ⟨g, 2, none⟩)) rfl rfl (by kernel_rfl) (by kernel_rfl) (by kernel_rfl) (fun _ _ _ h => h) (.inl ⟨by rfl, fun _ _ => by go_simp⟩) S4 ?_
  simp only [Act.put, List.setIfInBounds_toArray, List.set_cons_zero, List.set_cons_succ]
  refine tk 9 (some 32) (.int .u64 (s : Int)) rfl rfl (by kernel_rfl) (by kernel_rfl) (by kernel_rfl) (fun _ _ _ h => h) (yl1 24 (p := ⟨g, 2, none⟩) (v := .int .u64 (s : Int)) rfl rfl Tryz.isAgg24 (fun w h => hsl _ w _ h) rfl) S4 ?_
  simp only [Act.put, List.setIfInBounds_toArray, List.set_cons_zero, List.set_cons_succ]
  refine tk 10 (some 33) (.pointer (some ⟨g, 0, none⟩)) rfl rfl (by kernel_rfl) (by kernel_rfl) (by kernel_rfl) (fun _ _ _ h => h) (.inl ⟨by rfl, fun _ _ => by go_simp⟩) S4 ?_
  simp only [Act.put, List.setIfInBounds_toArray, List.set_cons_zero, List.set_cons_succ]
  refine tk 11 (some 34) (.pointer (some ⟨g, 0, none⟩)) rfl rfl (by kernel_rfl) (by kernel_rfl) (by kernel_rfl) (fun _ _ _ h => h) (.inl ⟨by rfl, fun _ _ => by go_simp⟩) S4 ?_
  simp only [Act.put, List.setIfInBounds_toArray, List.set_cons_zero, List.set_cons_succ]
  refine tk 12 (some 35) (.pointer (some ⟨g, 0, none⟩)) rfl rfl (by kernel_rfl) (by kernel_rfl) (by kernel_rfl) (fun _ _ _ h => h) (.inl ⟨by rfl, fun _ _ => by go_simp⟩) S4 ?_
  simp only [Act.put, List.setIfInBounds_toArray, List.set_cons_zero, List.set_cons_succ]
  refine tk 13 (some 36) (.pointer (some ⟨g, 8, none⟩)) rfl rfl (by kernel_rfl) (by kernel_rfl) (by kernel_rfl) (fun _ _ _ h => h) (.inl ⟨by rfl, fun _ _ => by go_simp⟩) S4 ?_
  simp only [Act.put, List.setIfInBounds_toArray, List.set_cons_zero, List.set_cons_succ]
  refine tk 14 (some 37) (.int .u16 (B : Int)) rfl rfl (by kernel_rfl) (by kernel_rfl) (by kernel_rfl) (fun _ _ _ h => h) (yl1 27 (p := ⟨g, 8, none⟩) (v := .int .u16 (B : Int)) rfl rfl Tryz.isAgg27 (fun w h => h.cell (j := 8) fun _ _ _ _ _ _ => rfl) rfl) S4 ?_
  simp only [Act.put, List.setIfInBounds_toArray, List.set_cons_zero, List.set_cons_succ]
  refine tk 15 (some 38) (.agg #[.int .i64 1, .int .i64 x.id, .int .u64 (s : Int), .int .u16 (B : Int)]) rfl rfl (by kernel_rfl) (by kernel_rfl) (by kernel_rfl) (fun _ _ _ h => h) (.inl ⟨by rfl, fun _ _ => by go_simp⟩) S4 ?_
  simp only [Act.put, List.setIfInBounds_toArray, List.set_cons_zero, List.set_cons_succ]
  refine rd_al 16 (some 3) 54 (encf fz) M10.zero25 (by kernel_rfl) rfl rfl rfl rfl ?_
  intro w5 v5 b5 s5
  have Q5 := hid (Q4.out.below b5)
  have B5 := hid b5
  refine ⟨Q5.out, ?_⟩
  simp only [Act.put, List.setIfInBounds_toArray, List.set_cons_zero, List.set_cons_succ]
  refine rd_gst 17 0 (encf ⟨1, x.id, s, B⟩) 54 (by kernel_rfl) rfl rfl rfl rfl rfl v5 (by show 0 + 4 ≤ 4; omega) (by rw [size54]; rfl) (M10.encf_one _) rfl ?_
  intro w6 v6 b6 o6 s6
  have B6 : Hid (Below w3.heap.size w3.drew w6) := hid (B5.out.trans (b6.mono (Nat.le_refl _)))
  refine ⟨Q4.out.below B6.out, ?_⟩
  refine wpAnyH_done (by kernel_rfl) ?_ _
  have V6 : Hid (Var w6 w3.heap.size (encf ⟨1, x.id, s, B⟩)) := hid v6
  have c8 : w6.cell? ⟨g, 8, none⟩ = some (.int .u16 (B : Int)) := (Q4.out.below B6.out).cell fun _ _ _ _ _ _ => rfl
  have hbg : w3.heap.size ≠ g := by have : g < w3.heap.size := Q4.out.lt; omega
  have P4 : Hid (w3.heap.size ≤ w6.heap.size) := hid B6.out.size
  clear v5 b5 s5 v6 b6 o6 s6 Q5 B5 S4 K3 Q3 H
  go_wp2_with (first
    | (go_at_call 77; (with_reducible refine (HC.out w6).mono ?_); rintro e w7 ⟨rfl, b7⟩; have B7 : Hid (Below w3.heap.size w3.drew w7) := hid (B6.out.trans (b7.mono P4.out)); have V7 : Hid (Var w7 w3.heap.size (encf ⟨1, x.id, s, B⟩)) := hid (V6.out.below b7 (V6.out.lt (by show 0 < 4; omega)))))
  have hbs : w3.heap.size < w7.heap.size := V7.out.lt (by show 0 < 4; omega)
  have W7c := hid (Q4.out.add (b := w3.heap.size) B7.out (Nat.le_refl _) hbs)
  have K7 := hid (K4.out.trans (Q4.out.keptb B7.out))
  obtain ⟨K', hK'⟩ : ∃ K' : Nat → Prop, K' = (fun k => K k ∨ k = w3.heap.size) := ⟨_, rfl⟩
  have hj : ∀ i, K i → K' i := by rw [hK']; exact fun _ h => .inl h
  have hb : K' w3.heap.size := by rw [hK']; exact .inr rfl
  rw [← hK'] at W7c
  have V7 := hid V7.out.drew
  have K7d := hid (K7.out.trans (((W7c.out.keptb (Below.refl _ _).drew)).mono hj))
  obtain ⟨A, n, c, BB, kk, dd, U7⟩ := W7c.out.drew
  have U7 := hid U7
  have HK : Hid (kk ≤ 1000) := hid (by have := U7.out.acts.len; rw [flat_len] at this; have := HL.out; omega)
  clear hK' hbs B6 B7 Q4 K4 K7 V6 P4 c8 W7c
  generalize w3.heap.size = b at *
  have S7 : w7.drew.rangeAt b 0 (encf ⟨1, x.id, s, B⟩) := V7.out.1
  refine wp_region_held_drew (S := fun w' => w'.rangeAt b 0 (encf ⟨1, x.id, s, B⟩)) (by kernel_rfl) S7 (fun _ => ?_)
  refine tk 0 (some 47) (.pointer (some ⟨g, 0, none⟩)) rfl rfl (by kernel_rfl) (by kernel_rfl) (by kernel_rfl) (fun _ _ _ h => h) (.inl ⟨by rfl, fun _ _ => by go_simp⟩) S7 ?_
  simp only [Act.put, List.setIfInBounds_toArray, List.set_cons_zero, List.set_cons_succ]
  refine tk 1 (some 48) (.pointer (some ⟨g, 0, none⟩)) rfl rfl (by kernel_rfl) (by kernel_rfl) (by kernel_rfl) (fun _ _ _ h => h) (.inl ⟨by rfl, fun _ _ => by go_simp⟩) S7 ?_
  simp only [Act.put, List.setIfInBounds_toArray, List.set_cons_zero, List.set_cons_succ]
  refine tk 2 (some 49) (.pointer (some ⟨g, 0, none⟩)) rfl rfl (by kernel_rfl) (by kernel_rfl) (by kernel_rfl) (fun _ _ _ h => h) (.inl ⟨by rfl, fun _ _ => by go_simp⟩) S7 ?_
  simp only [Act.put, List.setIfInBounds_toArray, List.set_cons_zero, List.set_cons_succ]
  refine tk 3 (some 50) (.pointer (some ⟨g, 19, none⟩)) rfl rfl (by kernel_rfl) (by kernel_rfl) (by kernel_rfl) (fun _ _ _ h => h) (.inl ⟨by rfl, fun _ _ => by go_simp⟩) S7 ?_
  simp only [Act.put, List.setIfInBounds_toArray, List.set_cons_zero, List.set_cons_succ]
  refine tk 5 (some 52) (fv ⟨1, x.id, s, B⟩) rfl rfl (by kernel_rfl) (by kernel_rfl) (by kernel_rfl) (fun _ _ _ h => h) (ylf rfl rfl (fun w h => h) rfl) S7 ?_
  simp only [Act.put, List.setIfInBounds_toArray, List.set_cons_zero, List.set_cons_succ]
  refine tk 6 (some 53) (av (sent ⟨1, x.id, s, B⟩)) rfl rfl (by kernel_rfl) (by kernel_rfl) (by kernel_rfl) (fun _ _ _ h => h) (.inl ⟨by rfl, fun _ _ => by go_simp; rfl⟩) S7 ?_
  simp only [Act.put, List.setIfInBounds_toArray, List.set_cons_zero, List.set_cons_succ]
  refine rd_lb 4 7 (some 51) (some 54) (.slice BB kk dd) 37 (sent ⟨1, x.id, s, B⟩) (p := ⟨g, 19, none⟩) (by kernel_rfl) (by kernel_rfl) (by kernel_rfl) rfl rfl rfl rfl rfl rfl rfl Tryz.isAgg37 (U7.out.var.cell rfl) rfl rfl rfl rfl rfl rfl rfl S7 (V7.out.below ((Below.refl _ _).alloc (Nat.le_refl _) _) (V7.out.lt (by show 0 < 4; omega))).1 rfl rfl ?_
  simp only [Act.put, List.setIfInBounds_toArray, List.set_cons_zero, List.set_cons_succ]
  refine rd_pushA 8 (some 55) (.tmp 51) (.tmp 54) (by kernel_rfl) rfl rfl rfl rfl U7.out.acts rfl (by have := HK.out; omega) U7.out.bl rfl ?_
  intro B2 d2 w8 o8 g8 e8
  have V8 : Hid (Var w8 g (encw { x with se := true, mb := B } A n c m BB kk dd)) := hid (U7.out.var.same (g8.block g U7.out.lt (fun e => (U7.out.sb g e.symm).2 rfl)))
  have S8 : w8.rangeAt b 0 (encf ⟨1, x.id, s, B⟩) := (V7.out.same (g8.block b (V7.out.lt (by show 0 < 4; omega)) (fun e => (U7.out.sb b e.symm).1 hb))).1
  refine ⟨S8, ?_⟩
  simp only [Act.put, List.setIfInBounds_toArray, List.set_cons_zero, List.set_cons_succ]
  refine tk 9 (some 56) (.pointer (some ⟨g, 0, none⟩)) rfl rfl (by kernel_rfl) (by kernel_rfl) (by kernel_rfl) (fun _ _ _ h => h) (.inl ⟨by rfl, fun _ _ => by go_simp⟩) S8 ?_
  simp only [Act.put, List.setIfInBounds_toArray, List.set_cons_zero, List.set_cons_succ]
  refine tk 10 (some 57) (.pointer (some ⟨g, 19, none⟩)) rfl rfl (by kernel_rfl) (by kernel_rfl) (by kernel_rfl) (fun _ _ _ h => h) (.inl ⟨by rfl, fun _ _ => by go_simp⟩) S8 ?_
  simp only [Act.put, List.setIfInBounds_toArray, List.set_cons_zero, List.set_cons_succ]
  refine rd_gst1 11 19 (.slice B2 (kk + 1) d2) 37 (by kernel_rfl) rfl rfl rfl rfl rfl V8.out (Nat.lt_of_lt_of_le (by decide : 19 < 20) (Nat.le_refl 20)) (by kernel_rfl) rfl rfl rfl ?_
  intro w9 v9 b9 t9 s9
  refine ⟨(V7.out.same ((t9 b hbg).trans (g8.block b (V7.out.lt (by show 0 < 4; omega)) (fun e => (U7.out.sb b e.symm).1 hb)))).1, ?_⟩
  refine wpAnyH_done (by kernel_rfl) ?_ _
  have g8' : w7.drew.grownBy w8 (ob BB) := g8
  obtain ⟨W9, k9⟩ := pushed U7.out.var U7.out.devs U7.out.bg U7.out.kg U7.out.sa U7.out.sb U7.out.kl U7.out.bl o8 g8' e8 v9 b9 t9 s9.out
  have W9 := hid W9
  have K9 := hid (K7d.out.trans (k9.mono hj))
  have d2 : w9.cell? ⟨g, 2, none⟩ = some (.int .u64 (s : Int)) := hsl K' w9 _ W9.out
  have HLa : Hid ((l ++ [sent ⟨1, x.id, s, B⟩]).length ≤ 1000) := hid (by have := HL.out; simp; omega)
  have HLb : Hid ((l ++ [sent ⟨1, x.id, s, B⟩] ++ [note 10 (s : Int)]).length ≤ 1000) := hid (by have := HL.out; simp; omega)
  clear S7 S8 V8 o8 g8 g8' e8 v9 b9 t9 s9 k9 U7 K7d HK V7 hsl
  go_wp2_with (first
    | (go_at_call 73; (with_reducible refine (HT.out K' w11 _ HLb.out W11.out).mono ?_); rintro e w12 ⟨rfl, W12, k12⟩)
    | (go_at_call 78; (with_reducible refine (HS.out K' w10 _ W10.out).mono ?_); rintro e w11 ⟨rfl, b11⟩; have W11 := hid (W10.out.below b11); have K11 := hid (K10.out.trans ((W10.out.keptb b11).mono hj)))
    | (go_at_call 72; (with_reducible refine (HN.out K' w9 _ HLa.out W9.out).mono ?_); rintro e w10 ⟨rfl, W10, k10⟩; have W10 := hid W10; have K10 := hid (K9.out.trans (k10.mono hj))))
  go_ret
  exact ⟨rfl, W12.mono hj, K11.out.trans (k12.mono hj)⟩
set_option maxRecDepth 100000 in
set_option maxHeartbeats 2000000 in
theorem send_one (K : Nat → Prop) (base g : Nat) (x : Nd) (m : Md) (l : List Ac) (w : World) (h : Wk w K base g x m l) (hl : l.length ≤ 900) (k : NdOk m x) (hc : F8.cn (M10.addb x.mb x.id.toNat) 16 = 1) :
    Calls Tryz.prog 40 #[.pointer (some ⟨g, 0, none⟩)] w (RetW K base g (sendN x) m (l ++ [sent ⟨2, x.id, x.sl.toNat, M10.addb x.mb x.id.toNat⟩] ++ [note 10 x.sl] ++ [timr (timeT x (m.s + x.co))]) (.int .i64 (timeE x (m.s + x.co))) w) := by
  have H := hid h
  obtain ⟨q0, q1⟩ := len_in k
  have HW := hid (fun w => with_id x.mb x.id w k.mb k.i0 (by have := k.i1; have := k.hm.2.1; omega))
  have hB : M10.addb x.mb x.id.toNat < 65536 := addb_in k
  have HC := hid (fun w => F8.count_any (M10.addb x.mb x.id.toNat) w hB)
  obtain ⟨s, hs⟩ : ∃ s : Nat, x.sl = (s : Int) := ⟨x.sl.toNat, by have := k.s0; omega⟩
  have hs' : x.sl.toNat = s := by omega
  have eC : IntKind.i64.wrap (s : Int) = (s : Int) := by rw [IntKind.wrap_i64]; have := k.s1; omega
  have HN := hid (fun (K : Nat → Prop) (w1 : World) (l : List Ac) (hl : l.length ≤ 1000) (h : Wk w1 K base g (sendN x) m l) => note_any K base g (sendN x) m l 10 (s : Int) w1 h hl)
  have HS := hid (fun (K : Nat → Prop) (w1 : World) (l : List Ac) (h : Wk w1 K base g (sendN x) m l) => length_w K base g (sendN x) m l w1 h (m.s + x.co) rfl (by omega) (by omega))
  have HT := hid (fun (K : Nat → Prop) (w1 : World) (l : List Ac) (hl : l.length ≤ 1000) (h : Wk w1 K base g (sendN x) m l) => timer_any K base g (sendN x) m l (m.s + x.co) w1 h hl ⟨k.ho, k.t0, k.t1⟩ q0 q1)
  rw [show timeT (sendN x) (m.s + x.co) = timeT x (m.s + x.co) from rfl, show timeE (sendN x) (m.s + x.co) = timeE x (m.s + x.co) from rfl] at HT
  have e1 : (((F8.cn (M10.addb x.mb x.id.toNat) 16 : Nat) : Int) == 1) = true := by simp; omega
  rw [hs', hs]
  have hsl : ∀ (K : Nat → Prop) w l, Wk w K base g (sendN x) m l → w.cell? ⟨g, 2, none⟩ = some (.int .u64 (s : Int)) := fun K w l h => hs ▸ h.cell (j := 2) (v := .int .u64 x.sl) fun _ _ _ _ _ _ => rfl
  have HL := hid hl
  unfold sendN at HN HS HT hsl ⊢
  clear h hl k hc hs hs' q0 q1
  generalize timeT x (m.s + x.co) = T at *
  generalize timeE x (m.s + x.co) = E at *
  generalize m.s + x.co = L at *
  generalize hcn : ((F8.cn (M10.addb x.mb x.id.toNat) 16 : Nat) : Int) = cc at *
  generalize M10.addb x.mb x.id.toNat = B at *
  clear hcn
  go_enter Tryz.func40, Tryz.ntmps40
  go_wp2_with fail
  have Q1 := hid H.out.drew
  have K1 := hid (H.out.keptb (Below.refl _ _).drew)
  have S1 : SB K base g x m l w.drew := ⟨_, _, Q1.out⟩
  refine wp_region_held_drew (S := SB K base g x m l) (by kernel_rfl) S1 (fun _ => ?_)
  refine tk 0 (some 4) (.pointer (some ⟨g, 0, none⟩)) rfl rfl (by kernel_rfl) (by kernel_rfl) (by kernel_rfl) (fun _ _ _ h => h) (.inl ⟨by rfl, fun _ _ => by go_simp⟩) S1 ?_
  simp only [Act.put, List.setIfInBounds_toArray, List.set_cons_zero, List.set_cons_succ]
  refine tk 1 (some 5) (.pointer (some ⟨g, 0, none⟩)) rfl rfl (by kernel_rfl) (by kernel_rfl) (by kernel_rfl) (fun _ _ _ h => h) (.inl ⟨by rfl, fun _ _ => by go_simp⟩) S1 ?_
  simp only [Act.put, List.setIfInBounds_toArray, List.set_cons_zero, List.set_cons_succ]
  refine tk 2 (some 6) (.pointer (some ⟨g, 0, none⟩)) rfl rfl (by kernel_rfl) (by kernel_rfl) (by kernel_rfl) (fun _ _ _ h => h) (.inl ⟨by rfl, fun _ _ => by go_simp⟩) S1 ?_
  simp only [Act.put, List.setIfInBounds_toArray, List.set_cons_zero, List.set_cons_succ]
  refine tk 3 (some 7) (.pointer (some ⟨g, 0, none⟩)) rfl rfl (by kernel_rfl) (by kernel_rfl) (by kernel_rfl) (fun _ _ _ h => h) (.inl ⟨by rfl, fun _ _ => by go_simp⟩) S1 ?_
  simp only [Act.put, List.setIfInBounds_toArray, List.set_cons_zero, List.set_cons_succ]
  refine tk 4 (some 8) (.pointer (some ⟨g, 0, none⟩)) rfl rfl (by kernel_rfl) (by kernel_rfl) (by kernel_rfl) (fun _ _ _ h => h) (.inl ⟨by rfl, fun _ _ => by go_simp⟩) S1 ?_
  simp only [Act.put, List.setIfInBounds_toArray, List.set_cons_zero, List.set_cons_succ]
  refine tk 5 (some 9) (.pointer (some ⟨g, 8, none⟩)) rfl rfl (by kernel_rfl) (by kernel_rfl) (by kernel_rfl) (fun _ _ _ h => h) (.inl ⟨by rfl, fun _ _ => by go_simp⟩) S1 ?_
  simp only [Act.put, List.setIfInBounds_toArray, List.set_cons_zero, List.set_cons_succ]
  refine tk 7 (some 11) (.pointer (some ⟨g, 0, none⟩)) rfl rfl (by kernel_rfl) (by kernel_rfl) (by kernel_rfl) (fun _ _ _ h => h) (.inl ⟨by rfl, fun _ _ => by go_simp⟩) S1 ?_
  simp only [Act.put, List.setIfInBounds_toArray, List.set_cons_zero, List.set_cons_succ]
  refine tk 8 (some 12) (.pointer (some ⟨g, 0, none⟩)) rfl rfl (by kernel_rfl) (by kernel_rfl) (by kernel_rfl) (fun _ _ _ h => h) (.inl ⟨by rfl, fun _ _ => by go_simp⟩) S1 ?_
  simp only [Act.put, List.setIfInBounds_toArray, List.set_cons_zero, List.set_cons_succ]
  refine tk 9 (some 13) (.pointer (some ⟨g, 0, none⟩)) rfl rfl (by kernel_rfl) (by kernel_rfl) (by kernel_rfl) (fun _ _ _ h => h) (.inl ⟨by rfl, fun _ _ => by go_simp⟩) S1 ?_
  simp only [Act.put, List.setIfInBounds_toArray, List.set_cons_zero, List.set_cons_succ]
  refine tk 10 (some 14) (.pointer (some ⟨g, 0, none⟩)) rfl rfl (by kernel_rfl) (by kernel_rfl) (by kernel_rfl) (fun _ _ _ h => h) (.inl ⟨by rfl, fun _ _ => by go_simp⟩) S1 ?_
  simp only [Act.put, List.setIfInBounds_toArray, List.set_cons_zero, List.set_cons_succ]
  refine tk 11 (some 15) (.int .i64 x.id) rfl rfl (by kernel_rfl) (by kernel_rfl) (by kernel_rfl) (fun _ _ _ h => h) (yl1 3 (p := ⟨g, 0, none⟩) (v := .int .i64 x.id) rfl rfl Tryz.isAgg3 (fun w h => h.cell (j := 0) fun _ _ _ _ _ _ _ _ => rfl) rfl) S1 ?_
  simp only [Act.put, List.setIfInBounds_toArray, List.set_cons_zero, List.set_cons_succ]
  refine rd_l1 6 (some 10) (.int .u16 (x.mb : Int)) 27 (p := ⟨g, 8, none⟩) (by kernel_rfl) rfl rfl rfl rfl Tryz.isAgg27 (Q1.out.cell fun _ _ _ _ _ _ => rfl) rfl S1 ?_
  simp only [Act.put, List.setIfInBounds_toArray, List.set_cons_zero, List.set_cons_succ]
  refine rd_cl 12 (some 16) 75 #[.int .u16 (x.mb : Int), .int .i64 x.id] _ (by kernel_rfl) rfl rfl (by unfold execOp; simp [go_sem]; done) (HW.out _) rfl ?_
  intro w1 hw1
  subst hw1
  refine ⟨S1, ?_⟩
  simp only [Act.put, List.setIfInBounds_toArray, List.set_cons_zero, List.set_cons_succ]
  refine tk 13 (some 17) (.pointer (some ⟨g, 0, none⟩)) rfl rfl (by kernel_rfl) (by kernel_rfl) (by kernel_rfl) (fun _ _ _ h => h) (.inl ⟨by rfl, fun _ _ => by go_simp⟩) S1 ?_
  simp only [Act.put, List.setIfInBounds_toArray, List.set_cons_zero, List.set_cons_succ]
  refine tk 14 (some 18) (.pointer (some ⟨g, 0, none⟩)) rfl rfl (by kernel_rfl) (by kernel_rfl) (by kernel_rfl) (fun _ _ _ h => h) (.inl ⟨by rfl, fun _ _ => by go_simp⟩) S1 ?_
  simp only [Act.put, List.setIfInBounds_toArray, List.set_cons_zero, List.set_cons_succ]
  refine tk 15 (some 19) (.pointer (some ⟨g, 12, none⟩)) rfl rfl (by kernel_rfl) (by kernel_rfl) (by kernel_rfl) (fun _ _ _ h => h) (.inl ⟨by rfl, fun _ _ => by go_simp⟩) S1 ?_
  simp only [Act.put, List.setIfInBounds_toArray, List.set_cons_zero, List.set_cons_succ]
  refine rd_ws1 { x with se := true } 16 12 (.bool true) 4 (by kernel_rfl) rfl rfl rfl rfl rfl Q1.out (by kernel_rfl) rfl rfl rfl (fun _ _ _ _ _ _ => rfl) (by omega) rfl ?_
  intro w2 Q2 k2
  have Q2 := hid Q2
  have S2 : SB K base g x m l w2 := ⟨_, _, Q2.out⟩
  refine ⟨S2, ?_⟩
  refine tk 17 (some 20) (.pointer (some ⟨g, 0, none⟩)) rfl rfl (by kernel_rfl) (by kernel_rfl) (by kernel_rfl) (fun _ _ _ h => h) (.inl ⟨by rfl, fun _ _ => by go_simp⟩) S2 ?_
  simp only [Act.put, List.setIfInBounds_toArray, List.set_cons_zero, List.set_cons_succ]
  refine tk 18 (some 21) (.pointer (some ⟨g, 0, none⟩)) rfl rfl (by kernel_rfl) (by kernel_rfl) (by kernel_rfl) (fun _ _ _ h => h) (.inl ⟨by rfl, fun _ _ => by go_simp⟩) S2 ?_
  simp only [Act.put, List.setIfInBounds_toArray, List.set_cons_zero, List.set_cons_succ]
  refine tk 19 (some 22) (.pointer (some ⟨g, 8, none⟩)) rfl rfl (by kernel_rfl) (by kernel_rfl) (by kernel_rfl) (fun _ _ _ h => h) (.inl ⟨by rfl, fun _ _ => by go_simp⟩) S2 ?_
  simp only [Act.put, List.setIfInBounds_toArray, List.set_cons_zero, List.set_cons_succ]
  refine rd_ws1 { x with se := true, mb := B } 20 8 (.int .u16 (B : Int)) 27 (by kernel_rfl) rfl rfl rfl rfl rfl Q2.out (by kernel_rfl) rfl rfl rfl (fun _ _ _ _ _ _ => rfl) (by omega) rfl ?_
  intro w3 Q3 k3
  refine ⟨⟨_, _, Q3⟩, ?_⟩
  refine wpAnyH_done (by kernel_rfl) ?_ _
  have Q3 := hid Q3
  have K3 := hid (K1.out.trans (k2.trans k3))
  clear k2 k3 Q1 Q2 S1 S2 K1 HW
  go_wp2_with fail
  have Q4 := hid Q3.out.drew
  have K4 := hid (K3.out.trans (Q3.out.keptb (Below.refl _ _).drew))
  have S4 : Wk w3.drew K base g { x with se := true, mb := B } m l := Q4.out
  refine wp_region_held_drew (S := fun w' => Wk w' K base g { x with se := true, mb := B } m l) (by kernel_rfl) S4 (fun _ => ?_)
  refine tk 0 (some 23) (.pointer (some ⟨g, 0, none⟩)) rfl rfl (by kernel_rfl) (by kernel_rfl) (by kernel_rfl) (fun _ _ _ h => h) (.inl ⟨by rfl, fun _ _ => by go_simp⟩) S4 ?_
  simp only [Act.put, List.setIfInBounds_toArray, List.set_cons_zero, List.set_cons_succ]
  refine tk 1 (some 24) (.pointer (some ⟨g, 0, none⟩)) rfl rfl (by kernel_rfl) (by kernel_rfl) (by kernel_rfl) (fun _ _ _ h => h) (.inl ⟨by rfl, fun _ _ => by go_simp⟩) S4 ?_
  simp only [Act.put, List.setIfInBounds_toArray, List.set_cons_zero, List.set_cons_succ]
  refine tk 2 (some 25) (.pointer (some ⟨g, 0, none⟩)) rfl rfl (by kernel_rfl) (by kernel_rfl) (by kernel_rfl) (fun _ _ _ h => h) (.inl ⟨by rfl, fun _ _ => by go_simp⟩) S4 ?_
  simp only [Act.put, List.setIfInBounds_toArray, List.set_cons_zero, List.set_cons_succ]
  refine tk 3 (some 26) (.pointer (some ⟨g, 0, none⟩)) rfl rfl (by kernel_rfl) (by kernel_rfl) (by kernel_rfl) (fun _ _ _ h => h) (.inl ⟨by rfl, fun _ _ => by go_simp⟩) S4 ?_
  simp only [Act.put, List.setIfInBounds_toArray, List.set_cons_zero, List.set_cons_succ]
  refine tk 4 (some 27) (.int .i64 x.id) rfl rfl (by kernel_rfl) (by kernel_rfl) (by kernel_rfl) (fun _ _ _ h => h) (yl1 3 (p := ⟨g, 0, none⟩) (v := .int .i64 x.id) rfl rfl Tryz.isAgg3 (fun w h => h.cell (j := 0) fun _ _ _ _ _ _ => rfl) rfl) S4 ?_
  simp only [Act.put, List.setIfInBounds_toArray, List.set_cons_zero, List.set_cons_succ]
  refine tk 5 (some 28) (.pointer (some ⟨g, 0, none⟩)) rfl rfl (by kernel_rfl) (by kernel_rfl) (by kernel_rfl) (fun _ _ _ h => h) (.inl ⟨by rfl, fun _ _ => by go_simp⟩) S4 ?_
  simp only [Act.put, List.setIfInBounds_toArray, List.set_cons_zero, List.set_cons_succ]
  refine tk 6 (some 29) (.pointer (some ⟨g, 0, none⟩)) rfl rfl (by kernel_rfl) (by kernel_rfl) (by kernel_rfl) (fun _ _ _ h => h) (.inl ⟨by rfl, fun _ _ => by go_simp⟩) S4 ?_
  simp only [Act.put, List.setIfInBounds_toArray, List.set_cons_zero, List.set_cons_succ]
  refine tk 7 (some 30) (.pointer (some ⟨g, 0, none⟩)) rfl rfl (by kernel_rfl) (by kernel_rfl) (by kernel_rfl) (fun _ _ _ h => h) (.inl ⟨by rfl, fun _ _ => by go_simp⟩) S4 ?_
  simp only [Act.put, List.setIfInBounds_toArray, List.set_cons_zero, List.set_cons_succ]
  refine tk 8 (some 31) (.pointer (some ⟨g, 2, none⟩)) rfl rfl (by kernel_rfl) (by kernel_rfl) (by kernel_rfl) (fun _ _ _ h => h) (.inl ⟨by rfl, fun _ _ => by go_simp⟩) S4 ?_
  simp only [Act.put, List.setIfInBounds_toArray, List.set_cons_zero, List.set_cons_succ]
  refine tk 9 (some 32) (.int .u64 (s : Int)) rfl rfl (by kernel_rfl) (by kernel_rfl) (by kernel_rfl) (fun _ _ _ h => h) (yl1 24 (p := ⟨g, 2, none⟩) (v := .int .u64 (s : Int)) rfl rfl Tryz.isAgg24 (fun w h => hsl _ w _ h) rfl) S4 ?_
  simp only [Act.put, List.setIfInBounds_toArray, List.set_cons_zero, List.set_cons_succ]
  refine tk 10 (some 33) (.pointer (some ⟨g, 0, none⟩)) rfl rfl (by kernel_rfl) (by kernel_rfl) (by kernel_rfl) (fun _ _ _ h => h) (.inl ⟨by rfl, fun _ _ => by go_simp⟩) S4 ?_
  simp only [Act.put, List.setIfInBounds_toArray, List.set_cons_zero, List.set_cons_succ]
  refine tk 11 (some 34) (.pointer (some ⟨g, 0, none⟩)) rfl rfl (by kernel_rfl) (by kernel_rfl) (by kernel_rfl) (fun _ _ _ h => h) (.inl ⟨by rfl, fun _ _ => by go_simp⟩) S4 ?_
  simp only [Act.put, List.setIfInBounds_toArray, List.set_cons_zero, List.set_cons_succ]
  refine tk 12 (some 35) (.pointer (some ⟨g, 0, none⟩)) rfl rfl (by kernel_rfl) (by kernel_rfl) (by kernel_rfl) (fun _ _ _ h => h) (.inl ⟨by rfl, fun _ _ => by go_simp⟩) S4 ?_
  simp only [Act.put, List.setIfInBounds_toArray, List.set_cons_zero, List.set_cons_succ]
  refine tk 13 (some 36) (.pointer (some ⟨g, 8, none⟩)) rfl rfl (by kernel_rfl) (by kernel_rfl) (by kernel_rfl) (fun _ _ _ h => h) (.inl ⟨by rfl, fun _ _ => by go_simp⟩) S4 ?_
  simp only [Act.put, List.setIfInBounds_toArray, List.set_cons_zero, List.set_cons_succ]
  refine tk 14 (some 37) (.int .u16 (B : Int)) rfl rfl (by kernel_rfl) (by kernel_rfl) (by kernel_rfl) (fun _ _ _ h => h) (yl1 27 (p := ⟨g, 8, none⟩) (v := .int .u16 (B : Int)) rfl rfl Tryz.isAgg27 (fun w h => h.cell (j := 8) fun _ _ _ _ _ _ => rfl) rfl) S4 ?_
  simp only [Act.put, List.setIfInBounds_toArray, List.set_cons_zero, List.set_cons_succ]
  refine tk 15 (some 38) (.agg #[.int .i64 1, .int .i64 x.id, .int .u64 (s : Int), .int .u16 (B : Int)]) rfl rfl (by kernel_rfl) (by kernel_rfl) (by kernel_rfl) (fun _ _ _ h => h) (.inl ⟨by rfl, fun _ _ => by go_simp⟩) S4 ?_
  simp only [Act.put, List.setIfInBounds_toArray, List.set_cons_zero, List.set_cons_succ]
  refine rd_al 16 (some 3) 54 (encf fz) M10.zero25 (by kernel_rfl) rfl rfl rfl rfl ?_
  intro w5 v5 b5 s5
  have Q5 := hid (Q4.out.below b5)
  have B5 := hid b5
  refine ⟨Q5.out, ?_⟩
  simp only [Act.put, List.setIfInBounds_toArray, List.set_cons_zero, List.set_cons_succ]
  refine rd_gst 17 0 (encf ⟨1, x.id, s, B⟩) 54 (by kernel_rfl) rfl rfl rfl rfl rfl v5 (by show 0 + 4 ≤ 4; omega) (by rw [size54]; rfl) (M10.encf_one _) rfl ?_
  intro w6 v6 b6 o6 s6
  have B6 : Hid (Below w3.heap.size w3.drew w6) := hid (B5.out.trans (b6.mono (Nat.le_refl _)))
  refine ⟨Q4.out.below B6.out, ?_⟩
  refine wpAnyH_done (by kernel_rfl) ?_ _
  have V6 : Hid (Var w6 w3.heap.size (encf ⟨1, x.id, s, B⟩)) := hid v6
  have c8 : w6.cell? ⟨g, 8, none⟩ = some (.int .u16 (B : Int)) := (Q4.out.below B6.out).cell fun _ _ _ _ _ _ => rfl
  have hbg : w3.heap.size ≠ g := by have : g < w3.heap.size := Q4.out.lt; omega
  have P4 : Hid (w3.heap.size ≤ w6.heap.size) := hid B6.out.size
  clear v5 b5 s5 v6 b6 o6 s6 Q5 B5 S4 K3 Q3 H
  go_wp2_with (first
    | (refine wpList_gst1 3 (.int .i64 2) rfl _ _ rfl rfl rfl V7.out (by show 0 < 4; omega) (by kernel_rfl) rfl rfl ?_; intro w7b v7b b7b o7b s7b; have B7b : Hid (Below w3.heap.size w3.drew w7b) := hid (B7.out.trans (b7b.mono (Nat.le_refl _))); have V7b : Hid (Var w7b w3.heap.size (encf ⟨2, x.id, s, B⟩)) := hid v7b)
    | (go_at_call 77; (with_reducible refine (HC.out w6).mono ?_); rintro e w7 ⟨rfl, b7⟩; have B7 : Hid (Below w3.heap.size w3.drew w7) := hid (B6.out.trans (b7.mono P4.out)); have V7 : Hid (Var w7 w3.heap.size (encf ⟨1, x.id, s, B⟩)) := hid (V6.out.below b7 (V6.out.lt (by show 0 < 4; omega)))))
  have hbs : w3.heap.size < w7b.heap.size := V7b.out.lt (by show 0 < 4; omega)
  have W7c := hid (Q4.out.add (b := w3.heap.size) B7b.out (Nat.le_refl _) hbs)
  have K7 := hid (K4.out.trans (Q4.out.keptb B7b.out))
  obtain ⟨K', hK'⟩ : ∃ K' : Nat → Prop, K' = (fun k => K k ∨ k = w3.heap.size) := ⟨_, rfl⟩
  have hj : ∀ i, K i → K' i := by rw [hK']; exact fun _ h => .inl h
  have hb : K' w3.heap.size := by rw [hK']; exact .inr rfl
  rw [← hK'] at W7c
  have V7 := hid V7b.out.drew
  have K7d := hid (K7.out.trans (((W7c.out.keptb (Below.refl _ _).drew)).mono hj))
  obtain ⟨A, n, c, BB, kk, dd, U7⟩ := W7c.out.drew
  have U7 := hid U7
  have HK : Hid (kk ≤ 1000) := hid (by have := U7.out.acts.len; rw [flat_len] at this; have := HL.out; omega)
  clear hK' hbs B6 B7b Q4 K4 K7 V6 P4 c8 W7c
  generalize w3.heap.size = b at *
  have S7 : w7b.drew.rangeAt b 0 (encf ⟨2, x.id, s, B⟩) := V7.out.1
  refine wp_region_held_drew (S := fun w' => w'.rangeAt b 0 (encf ⟨2, x.id, s, B⟩)) (by kernel_rfl) S7 (fun _ => ?_)
  refine tk 0 (some 47) (.pointer (some ⟨g, 0, none⟩)) rfl rfl (by kernel_rfl) (by kernel_rfl) (by kernel_rfl) (fun _ _ _ h => h) (.inl ⟨by rfl, fun _ _ => by go_simp⟩) S7 ?_
  simp only [Act.put, List.setIfInBounds_toArray, List.set_cons_zero, List.set_cons_succ]
  refine tk 1 (some 48) (.pointer (some ⟨g, 0, none⟩)) rfl rfl (by kernel_rfl) (by kernel_rfl) (by kernel_rfl) (fun _ _ _ h => h) (.inl ⟨by rfl, fun _ _ => by go_simp⟩) S7 ?_
  simp only [Act.put, List.setIfInBounds_toArray, List.set_cons_zero, List.set_cons_succ]
  refine tk 2 (some 49) (.pointer (some ⟨g, 0, none⟩)) rfl rfl (by kernel_rfl) (by kernel_rfl) (by kernel_rfl) (fun _ _ _ h => h) (.inl ⟨by rfl, fun _ _ => by go_simp⟩) S7 ?_
  simp only [Act.put, List.setIfInBounds_toArray, List.set_cons_zero, List.set_cons_succ]
  refine tk 3 (some 50) (.pointer (some ⟨g, 19, none⟩)) rfl rfl (by kernel_rfl) (by kernel_rfl) (by kernel_rfl) (fun _ _ _ h => h) (.inl ⟨by rfl, fun _ _ => by go_simp⟩) S7 ?_
  simp only [Act.put, List.setIfInBounds_toArray, List.set_cons_zero, List.set_cons_succ]
  refine tk 5 (some 52) (fv ⟨2, x.id, s, B⟩) rfl rfl (by kernel_rfl) (by kernel_rfl) (by kernel_rfl) (fun _ _ _ h => h) (ylf rfl rfl (fun w h => h) rfl) S7 ?_
  simp only [Act.put, List.setIfInBounds_toArray, List.set_cons_zero, List.set_cons_succ]
  refine tk 6 (some 53) (av (sent ⟨2, x.id, s, B⟩)) rfl rfl (by kernel_rfl) (by kernel_rfl) (by kernel_rfl) (fun _ _ _ h => h) (.inl ⟨by rfl, fun _ _ => by go_simp; rfl⟩) S7 ?_
  simp only [Act.put, List.setIfInBounds_toArray, List.set_cons_zero, List.set_cons_succ]
  refine rd_lb 4 7 (some 51) (some 54) (.slice BB kk dd) 37 (sent ⟨2, x.id, s, B⟩) (p := ⟨g, 19, none⟩) (by kernel_rfl) (by kernel_rfl) (by kernel_rfl) rfl rfl rfl rfl rfl rfl rfl Tryz.isAgg37 (U7.out.var.cell rfl) rfl rfl rfl rfl rfl rfl rfl S7 (V7.out.below ((Below.refl _ _).alloc (Nat.le_refl _) _) (V7.out.lt (by show 0 < 4; omega))).1 rfl rfl ?_
  simp only [Act.put, List.setIfInBounds_toArray, List.set_cons_zero, List.set_cons_succ]
  refine rd_pushA 8 (some 55) (.tmp 51) (.tmp 54) (by kernel_rfl) rfl rfl rfl rfl U7.out.acts rfl (by have := HK.out; omega) U7.out.bl rfl ?_
  intro B2 d2 w8 o8 g8 e8
  have V8 : Hid (Var w8 g (encw { x with se := true, mb := B } A n c m BB kk dd)) := hid (U7.out.var.same (g8.block g U7.out.lt (fun e => (U7.out.sb g e.symm).2 rfl)))
  have S8 : w8.rangeAt b 0 (encf ⟨2, x.id, s, B⟩) := (V7.out.same (g8.block b (V7.out.lt (by show 0 < 4; omega)) (fun e => (U7.out.sb b e.symm).1 hb))).1
  refine ⟨S8, ?_⟩
  simp only [Act.put, List.setIfInBounds_toArray, List.set_cons_zero, List.set_cons_succ]
  refine tk 9 (some 56) (.pointer (some ⟨g, 0, none⟩)) rfl rfl (by kernel_rfl) (by kernel_rfl) (by kernel_rfl) (fun _ _ _ h => h) (.inl ⟨by rfl, fun _ _ => by go_simp⟩) S8 ?_
  simp only [Act.put, List.setIfInBounds_toArray, List.set_cons_zero, List.set_cons_succ]
  refine tk 10 (some 57) (.pointer (some ⟨g, 19, none⟩)) rfl rfl (by kernel_rfl) (by kernel_rfl) (by kernel_rfl) (fun _ _ _ h => h) (.inl ⟨by rfl, fun _ _ => by go_simp⟩) S8 ?_
  simp only [Act.put, List.setIfInBounds_toArray, List.set_cons_zero, List.set_cons_succ]
  refine rd_gst1 11 19 (.slice B2 (kk + 1) d2) 37 (by kernel_rfl) rfl rfl rfl rfl rfl V8.out (Nat.lt_of_lt_of_le (by decide : 19 < 20) (Nat.le_refl 20)) (by kernel_rfl) rfl rfl rfl ?_
  intro w9 v9 b9 t9 s9
  refine ⟨(V7.out.same ((t9 b hbg).trans (g8.block b (V7.out.lt (by show 0 < 4; omega)) (fun e => (U7.out.sb b e.symm).1 hb)))).1, ?_⟩
  refine wpAnyH_done (by kernel_rfl) ?_ _
  have g8' : w7b.drew.grownBy w8 (ob BB) := g8
  obtain ⟨W9, k9⟩ := pushed U7.out.var U7.out.devs U7.out.bg U7.out.kg U7.out.sa U7.out.sb U7.out.kl U7.out.bl o8 g8' e8 v9 b9 t9 s9.out
  have W9 := hid W9
  have K9 := hid (K7d.out.trans (k9.mono hj))
  have d2 : w9.cell? ⟨g, 2, none⟩ = some (.int .u64 (s : Int)) := hsl K' w9 _ W9.out
  have HLa : Hid ((l ++ [sent ⟨2, x.id, s, B⟩]).length ≤ 1000) := hid (by have := HL.out; simp; omega)
  have HLb : Hid ((l ++ [sent ⟨2, x.id, s, B⟩] ++ [note 10 (s : Int)]).length ≤ 1000) := hid (by have := HL.out; simp; omega)
  clear S7 S8 V8 o8 g8 g8' e8 v9 b9 t9 s9 k9 U7 K7d HK V7 hsl
  go_wp2_with (first
    | (go_at_call 73; (with_reducible refine (HT.out K' w11 _ HLb.out W11.out).mono ?_); rintro e w12 ⟨rfl, W12, k12⟩)
    | (go_at_call 78; (with_reducible refine (HS.out K' w10 _ W10.out).mono ?_); rintro e w11 ⟨rfl, b11⟩; have W11 := hid (W10.out.below b11); have K11 := hid (K10.out.trans ((W10.out.keptb b11).mono hj)))
    | (go_at_call 72; (with_reducible refine (HN.out K' w9 _ HLa.out W9.out).mono ?_); rintro e w10 ⟨rfl, W10, k10⟩; have W10 := hid W10; have K10 := hid (K9.out.trans (k10.mono hj))))
  go_ret
  exact ⟨rfl, W12.mono hj, K11.out.trans (k12.mono hj)⟩
/-- What it sends; its acts. -/
def sendF (x : Nd) : Fr := ⟨if F8.cn (M10.addb x.mb x.id.toNat) 16 = 1 then 2 else 1, x.id, x.sl.toNat, M10.addb x.mb x.id.toNat⟩
def sendL (m : Md) (x : Nd) : List Ac := [sent (sendF x), note 10 x.sl, timr (timeT x (m.s + x.co))]
def sendE (m : Md) (x : Nd) : Int := timeE x (m.s + x.co)
theorem send_any (K : Nat → Prop) (base g : Nat) (x : Nd) (m : Md) (l : List Ac) (w : World) (h : Wk w K base g x m l) (hl : l.length ≤ 900) (k : NdOk m x) :
    Calls Tryz.prog 40 #[.pointer (some ⟨g, 0, none⟩)] w (RetW K base g (sendN x) m (l ++ sendL m x) (.int .i64 (sendE m x)) w) := by
  have e : ∀ f : Fr, l ++ [sent f, note 10 x.sl, timr (timeT x (m.s + x.co))] = l ++ [sent f] ++ [note 10 x.sl] ++ [timr (timeT x (m.s + x.co))] := fun f => by simp
  unfold sendL sendE sendF
  rw [e]
  by_cases hc : F8.cn (M10.addb x.mb x.id.toNat) 16 = 1
  · rw [if_pos hc]
    exact send_one K base g x m l w h hl k hc
  · rw [if_neg hc]
    exact send_more K base g x m l w h hl k hc
theorem NdOk.send {m : Md} {x : Nd} (k : NdOk m x) : NdOk m (sendN x) := ⟨k.hm, k.ho, k.i0, k.i1, k.p0, k.p1, k.s0, k.s1, k.t0, k.t1, k.c0, k.c1, addb_in k, k.ty, k.dl, k.dd, k.v0, k.v1⟩
end Go.Proofs.YtlgedfljmgedfaaGreat
