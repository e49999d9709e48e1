/-
  member.moves and member.counts: the maps of closures that they make; what each closure of moves does to members. No condition but what each head says.
-/
import Derived.Test.YtbfaebobainhjaaK
import Derived.Test.YtbfaebobainhjaaN
import Derived.Test.YtbfaebobainhjaaD
import Derived.Test.YtbfaebobainhjaaE
import Derived.Lib.QuietBelow
namespace Go.Proofs.Ytbfaebobainhjaa
open Go Go.RowKit Go.Maps
theorem zero59 (w : World) : (zeroValue 59).run Try.prog w = .ok .nilFunc w := by kernel_rfl
theorem zero63 (w : World) : (zeroValue 63).run Try.prog w = .ok .nilFunc w := by kernel_rfl
theorem size59 : (Try.prog.info? 59).map (·.size) = some 1 := by kernel_rfl
/-- What moves gives: the map B of the closures over me's variable, the owner's, and the one of 'with'. -/
def RetM (me o : Int) (w : World) (e : Ending) (w' : World) : Prop :=
  ∃ B n gm go gw, e = .returned (.map (some B)) ∧ Mp w' B (es4 (.func (.func 43) #[] #[.pointer (some ⟨go, 0, none⟩)]) (.func (.func 42) #[] #[.pointer (some ⟨go, 0, none⟩)])
    (.func (.func 44) #[] #[.pointer (some ⟨gw, 0, none⟩), .pointer (some ⟨gm, 0, none⟩)]) (.func (.func 43) #[] #[.pointer (some ⟨go, 0, none⟩)])) n ∧
    VarC w' gm (.int .i64 me) ∧ VarC w' go (.int .i64 o) ∧ VarC w' gw (.func (.func 42) #[] #[.pointer (some ⟨go, 0, none⟩)]) ∧ Below w.heap.size w w'
set_option maxRecDepth 100000 in
theorem moves_any (me o : Int) (w : World) : Calls Try.prog 34 #[.int .i64 me, .int .i64 o] w (RetM me o w) := by
  go_enter Try.func34, Try.ntmps34
  go_wp2_with (first
    | (refine wpList_ins rfl (.tmp 9) _ _ rfl Try.underlying61 rfl rfl rfl m8 (by unfold KeyI; omega) rfl ?_; intro w9 m9 b9 o9 s9)
    | (refine wpList_ins rfl (.tmp 9) _ _ rfl Try.underlying61 rfl rfl rfl m7 (by unfold KeyI; omega) rfl ?_; intro w8 m8 b8 o8 s8)
    | (refine wpList_ins rfl (.tmp 9) _ _ rfl Try.underlying61 rfl rfl rfl m6 (by unfold KeyI; omega) rfl ?_; intro w7 m7 b7 o7 s7)
    | (refine wpList_ins rfl (.tmp 9) _ _ rfl Try.underlying61 rfl rfl rfl m5 (by unfold KeyI; omega) rfl ?_; intro w6 m6 b6 o6 s6; have c6 : w6.cell? ⟨w2.heap.size, 0, none⟩ = some (.func (.func 42) #[] #[.pointer (some ⟨w1.heap.size, 0, none⟩)]) := (V3.out.below b6 v4.lt).c0)
    | (refine wpList_mk rfl rfl ?_; intro w5 m5 b5 s5; have V3 := hid (v4.keep b5))
    | (refine wpList_sc rfl (.tmp 5) (.tmp 7) rfl rfl rfl rfl rfl size59 v3 ?_; intro w4 v4 b4 o4 s4)
    | (refine wpList_al1 rfl rfl (zero59 _) rfl ?_; intro w3 v3 b3 s3)
    | (refine wpList_box1 rfl (.tmp 1) rfl rfl rfl ?_; intro w2 v2 b2 s2)
    | (refine wpList_box1 rfl (.tmp 0) rfl rfl rfl ?_; intro w1 v1 b1 s1)
    )
  go_ret
  have S1 := s1.out; have S2 := s2.out; have S3 := s3.out; have S4 := s4.out
  have L5 : Below w4.heap.size w5 w9 := ((b6.trans b7).trans b8).trans b9
  have L : Below w4.heap.size w4 w9 := b5.trans L5
  have hv4 := v4.lt
  refine ⟨w4.heap.size, _, w.heap.size, w1.heap.size, w2.heap.size, rfl, m9, ?_, ?_, v4.keep L, ?_⟩
  · exact ((((v1.keep b2).keep b3).below b4 (by omega)).keep L)
  · exact (((v2.keep b3).below b4 (by omega)).keep L)
  · exact (((b1.trans (b2.mono (by omega))).trans (b3.mono (by omega))).trans (b4.mono (by omega))).trans (L.mono (by omega))
/-- What counts gives: the map B of the closures. -/
def RetC (w : World) (e : Ending) (w' : World) : Prop :=
  ∃ B n, e = .returned (.map (some B)) ∧ Mp w' B (es4 (.func (.func 47) #[] #[]) (.func (.func 45) #[] #[]) (.func (.func 45) #[] #[]) (.func (.func 46) #[] #[])) n ∧ Below w.heap.size w w'
set_option maxRecDepth 100000 in
theorem counts_any (w : World) : Calls Try.prog 35 #[] w (RetC w) := by
  go_enter Try.func35, Try.ntmps35
  go_wp2_with (first
    | (refine wpList_ins rfl (.tmp 3) _ _ rfl Try.underlying65 rfl rfl rfl m8 (by unfold KeyI; omega) rfl ?_; intro w9 m9 b9 o9 s9)
    | (refine wpList_ins rfl (.tmp 3) _ _ rfl Try.underlying65 rfl rfl rfl m7 (by unfold KeyI; omega) rfl ?_; intro w8 m8 b8 o8 s8)
    | (refine wpList_ins rfl (.tmp 3) _ _ rfl Try.underlying65 rfl rfl rfl m6 (by unfold KeyI; omega) rfl ?_; intro w7 m7 b7 o7 s7)
    | (refine wpList_ins rfl (.tmp 3) _ _ rfl Try.underlying65 rfl rfl rfl m5 (by unfold KeyI; omega) rfl ?_; intro w6 m6 b6 o6 s6)
    | (refine wpList_mk rfl rfl ?_; intro w5 m5 b5 s5))
  go_ret
  exact ⟨w.heap.size, _, rfl, m9, (((b5.trans b6).trans b7).trans b8).trans b9⟩
/-! ### The closures -/
theorem c42 (go : Nat) (o own : Nat) (w : World) (hv : VarC w go (.int .i64 (o : Int))) (hm : own < 65536) (ho : o ≤ 15) : Calls Try.prog 42 #[.int .u16 (own : Int), .pointer (some ⟨go, 0, none⟩)] w fun e w' => e = .returned (.int .u16 (addb own o : Nat)) ∧ w = w' := by
  have c0 := hv.c0
  have HW := hid (fun w => with_in own o w hm ho)
  clear hv
  go_enter Try.func42, Try.ntmps42
  go_wp2_with (go_at_call 23; refine (HW.out _).mono ?_; rintro e w' ⟨rfl, rfl⟩)
  go_ret
  exact ⟨rfl, rfl⟩
theorem c43 (go : Nat) (o own : Nat) (w : World) (hv : VarC w go (.int .i64 (o : Int))) (hm : own < 65536) (ho : o ≤ 15) : Calls Try.prog 43 #[.int .u16 (own : Int), .pointer (some ⟨go, 0, none⟩)] w fun e w' => e = .returned (.int .u16 (subb own o : Nat)) ∧ w = w' := by
  have c0 := hv.c0
  have HW := hid (fun w => without_in own o w hm ho)
  clear hv
  go_enter Try.func43, Try.ntmps43
  go_wp2_with (go_at_call 24; refine (HW.out _).mono ?_; rintro e w' ⟨rfl, rfl⟩)
  go_ret
  exact ⟨rfl, rfl⟩
theorem drewN_heap (w : World) (n : Nat) : (w.drewN n).heap = w.heap := by
  induction n with
  | zero => rfl
  | succ n ih => exact ih
theorem bel_drewN {B : Nat} {a w : World} (h : Below B a w) (n : Nat) : Below B a (w.drewN n) := by
  induction n with
  | zero => exact h
  | succ n ih => exact ih.drew
theorem VarC.drewN {w : World} {g : Nat} {v : Value} (h : VarC w g v) (n : Nat) : VarC (w.drewN n) g v := h.keep (bel_drewN (Below.refl _ _) n)
theorem symm_post {e : Ending} {v : Value} {w w' : World} (h : e = .returned v ∧ w = w') : e = .returned v ∧ w' = w := ⟨h.1, h.2.symm⟩
theorem c44 (gw gm go : Nat) (o me own : Nat) (w : World) (hw : VarC w gw (.func (.func 42) #[] #[.pointer (some ⟨go, 0, none⟩)])) (hv : VarC w go (.int .i64 (o : Int))) (hme : VarC w gm (.int .i64 (me : Int))) (hm : own < 65536) (ho : o ≤ 15) (hl : me ≤ 15) :
    Calls Try.prog 44 #[.int .u16 (own : Int), .pointer (some ⟨gw, 0, none⟩), .pointer (some ⟨gm, 0, none⟩)] w fun e w' => e = .returned (.int .u16 (subb (addb own o) me : Nat)) ∧ Below w.heap.size w w' := by
  have c0 := hw.c0
  have c1 := hme.c0
  have T1 := hid (fun n => Calls.quiet_of_same ((c42 go o own (w.drewN n) (hv.drewN n) hm ho).mono fun _ _ => symm_post))
  have T2 := hid (fun n => Calls.quiet_of_same ((without_in (addb own o) me (w.drewN n) (addb_lt own o hm ho) hl).mono fun _ _ => symm_post))
  clear hw hme hv
  go_enter Try.func44, Try.ntmps44
  go_wp2_with fail
  go_quiet (first | exact T1.out _ | exact T2.out _)
  go_wp2_with fail
  go_ret
  exact ⟨rfl, bel_drewN (Below.refl _ _) _⟩
end Go.Proofs.Ytbfaebobainhjaa
