/-
  The contract of typed: each token of its type, and an end; at every slice of at most a million tokens.
-/
import Derived.Test.YtinjhnflnfpoeaaGreatDoorPU
namespace Go.Proofs.YtinjhnflnfpoeaaGreatDoor
open Go Go.RowKit Go.Joins

/-! ### Slices of any values, of the call's own -/
def AnyOw (w : World) (base : Nat) (A : Option Addr) (n c : Nat) (vs : List Value) : Prop := w.ownsRow base 20 1 (.slice A n c) n vs
theorem AnyOw.below {w w' : World} {base n c : Nat} {A : Option Addr} {vs : List Value} (h : AnyOw w base A n c vs) (hb : Below w.heap.size w w') : AnyOw w' base A n c vs := by
  refine ⟨h.1, ?_⟩
  rcases h.2 with h0 | ⟨g, cap, cur, hv, hg, hh, r⟩
  · exact .inl h0
  · exact .inr ⟨g, cap, cur, hv, hg, (hb.block g (Array.getElem?_eq_some_iff.1 hh).1).trans hh, r⟩
theorem AnyOw.grown {w w' : World} {base n c : Nat} {A : Option Addr} {vs : List Value} {o : Obj} (h : AnyOw w base A n c vs) (hb : base ≤ w.heap.size) (hg : (w.alloc o).grownBy w' (Value.ownBlock (.slice A n c))) : Below base w w' :=
  ((Below.refl _ _).alloc hb _).trans ((Below.refl _ _).grown hg (Nat.le_trans hb (by simp)) (fun k hk => (World.ownsRow.lt h k hk).1))
section
variable {w : World} {ops : Array Oper} {rest : List Oper} {o : Oper} {a : Act} {Q : Exit → Act → World → Prop}
theorem any_info : (Tryz.prog.info? 20).map (fun i => (i.zero, i.size, i.bytes)) = some (some .nilIface, 1, 16) := by kernel_rfl
theorem run_pushA {b base n c : Nat} {A : Option Addr} {l : List Value} {v : Value} (ty : TypeId) (hown : AnyOw w base A n c l) (hrow : w.cell? ⟨b, 0, none⟩ = some v) (h1 : v.oneCell' = true) (hn : n ≤ 2000000) (hbase : base ≤ w.heap.size) :
    ∃ A' c' w', (Builtin.append_ #[46, 46] ty #[.slice A n c, .slice (some ⟨b, 0, none⟩) 1 1]).run Tryz.prog w = .ok (.slice A' (n + 1) c') w' ∧ AnyOw w' base A' (n + 1) c' (l ++ [v]) ∧ w.grownBy w' (Value.ownBlock (.slice A n c)) := by
  obtain ⟨i, hi0, hi1, hi2, hi3⟩ := info_parts any_info
  obtain ⟨v', w', hrun, h2, h3, _, _⟩ := run_append_own_at (P := Tryz.prog) w base 46 ty 20 i .nilIface 1 16 Tryz.underlying46 hi0 hi1 hi2 hi3 rfl (by omega) (.slice A n c) n l hown ⟨b, 0, none⟩ 1 1 [v] rfl
    (fun j u hu => by
      obtain rfl : j = 0 := by have := (List.getElem?_eq_some_iff.1 hu).1; simp at this; exact this
      rw [plain_add]
      simp at hu
      rw [← hu]; exact hrow) (fun u hu => by rw [List.mem_singleton.1 hu]; exact h1) (by unfold maxLen; omega) (by omega) hbase
  rcases h2.2 with ⟨rfl, h0⟩ | ⟨g, cap, cur, rfl, r⟩
  · omega
  · exact ⟨_, _, w', hrun, h2, h3⟩
theorem wp_pushA {b base n c : Nat} {A : Option Addr} {l : List Value} {v : Value} (hgd : o.guard = none) (s e : Operand) (ho : o.op = .call { callee := .builtin .append, args := #[s, e], argTypes := #[46, 46] })
    (hs : a.eval s = .slice A n c) (hown : AnyOw w base A n c l) (hx : a.eval e = .slice (some ⟨b, 0, none⟩) 1 1) (hrow : w.cell? ⟨b, 0, none⟩ = some v) (h1 : v.oneCell' = true) (hn : n ≤ 2000000) (hbase : base ≤ w.heap.size)
    (h : ∀ A' c' w', AnyOw w' base A' (n + 1) c' (l ++ [v]) → w.grownBy w' (Value.ownBlock (.slice A n c)) → wpList Tryz.prog ops Q rest (a.put o.dst (.slice A' (n + 1) c')) w') : wpList Tryz.prog ops Q (o :: rest) a w := by
  refine wpList_plain hgd fun K hK => ?_
  obtain ⟨A', c', w', hrun, h2, h3⟩ := run_pushA o.type hown hrow h1 hn hbase
  unfold Oper.wp execOp
  simp only [ho, resolve, invoke, builtin, Sem.run_bind, Sem.run_pure, Result.andThen_ok, List.map_toArray, List.map_cons, List.map_nil, hs, hx, hrun]
  exact hK _ _ (h A' c' w' h2 h3)
end
theorem cell_new (w : World) (v : Value) (t : TypeId) : (w.alloc (.cells #[v] t)).cell? ⟨w.heap.size, 0, none⟩ = some v := by
  have := range_new w [v] t 0 v rfl; rwa [Nat.zero_add] at this
theorem mk_w (x : Value) (w : World) : (Instr.makeInterface 70 x).run Tryz.prog w = .ok (.iface 70 x) w := run_makeInterface w _ x (by kernel_rfl)
theorem mk_n (x : Value) (w : World) : (Instr.makeInterface 71 x).run Tryz.prog w = .ok (.iface 71 x) w := run_makeInterface w _ x (by kernel_rfl)
theorem mk_s (x : Value) (w : World) : (Instr.makeInterface 72 x).run Tryz.prog w = .ok (.iface 72 x) w := run_makeInterface w _ x (by kernel_rfl)
theorem mk_e (x : Value) (w : World) : (Instr.makeInterface 74 x).run Tryz.prog w = .ok (.iface 74 x) w := run_makeInterface w _ x (by kernel_rfl)
theorem tyV_one (t : Tk) : (tyV t).oneCell' = true := by unfold tyV; split; · rfl
                                                         split <;> rfl

set_option maxHeartbeats 1000000 in
set_option maxRecDepth 100000 in
theorem typed_any (A : Option Addr) (n c B : Nat) (ts : List Tk) (w : World) (hr : tkS.Rw w B A n ts) (hB : B ≤ w.heap.size) (hn : n ≤ 1000000) :
    Calls Tryz.prog 23 #[.slice A n c] w fun e w' => ∃ A' c', e = .returned (.slice A' (n + 1) c') ∧ AnyOw w' w.heap.size A' (n + 1) c' (rowV ts) ∧ Below w.heap.size w w' := by
  have HR := hid hr
  have HLN := hid hr.1
  have m1 := mk_w
  have m2 := mk_n
  have m3 := mk_s
  have m4 := mk_e
  clear hr
  go_enter Tryz.func23, Tryz.ntmps23
  go_wp2
  go_loopw [3, 8] (fun v3 v8 wr => ∃ (k : Nat) (A' : Option Addr) (c' : Nat), v3 = .slice A' k c' ∧ v8 = .int .i64 (k : Nat) ∧ k ≤ n ∧ AnyOw wr w.heap.size A' k c' ((ts.take k).map tyV) ∧ Below w.heap.size w wr) (fun _ v8 _ => n - (intOf v8).toNat)
  case atStart => exact ⟨0, none, 0, rfl, rfl, Nat.zero_le _, World.ownsRow_nil w _ _ _, Below.refl _ _⟩
  case round =>
    obtain ⟨k, A', c', rfl, rfl, hk, how, hbel⟩ := hrel
    have BW := hid hbel
    have OW := hid how
    by_cases hlt : k < n
    · obtain ⟨b, o, rfl, hb, hc⟩ := (HR.out.below (hbel.mono hB)).at_ hlt
      have hg : ts[k]? = some (tkS.nth ts k) := Sh.nth_get tkS (by rw [HLN.out]; exact hlt)
      have HT : Hid (ts.take (k + 1) = ts.take k ++ [tkS.nth ts k]) := hid (by rw [List.take_add_one, hg]; rfl)
      generalize tkS.nth ts k = t at *
      have r1 : wr.rangeAt b (o + k * 4) (tkS.enc t) := hc
      clear hc hbel how hg
      by_cases h1 : t.kind = 1
      · have e1 : (t.kind == 1) = true := beq_iff_eq.2 h1
        have hv : tyV t = .iface 70 (.string (strB t.s)) := if_pos h1
        go_wp2_with (first
          | (refine wp_pushA (v := .iface 70 (.string (strB t.s))) (A := A') (c := c') (l := (ts.take k).map tyV) (base := w.heap.size) rfl (.tmp 22) (.tmp 26) rfl rfl (World.ownsRow.alloc O3.out _) rfl (cell_new _ _ _) rfl (by omega) (Nat.le_trans hle (by simp)) ?_; intro A6 c6 w6 own6 gr6; have B6 := hid (B3.out.trans (AnyOw.grown O3.out hle gr6)); have O6 := hid own6; clear own6 gr6)
          | (refine Sh.wp_sv tkS (x := t) rfl (.tmp 5) (.tmp 11) rfl rfl (by rfl) q2 ?_; intro w3 q3 b3 o3 s3; have c0 : w3.cell? ⟨wr.heap.size, 0, none⟩ = some (.int .i64 t.kind) := q3.cell (j := 0) rfl; have c1 : w3.cell? ⟨wr.heap.size, 1, none⟩ = some (.string (strB t.s)) := q3.cell (j := 1) rfl; have c2 : w3.cell? ⟨wr.heap.size, 2, none⟩ = some (.int .i64 t.n) := q3.cell (j := 2) rfl; have c3 : w3.cell? ⟨wr.heap.size, 3, none⟩ = some (.bool t.time) := q3.cell (j := 3) rfl; have B3 := hid (BW.out.trans ((B2.out.trans (b3.mono (Nat.le_refl _))).mono BW.out.size)); have O3 := hid (AnyOw.below OW.out (B2.out.trans (b3.mono (Nat.le_refl _)))); have hle := B3.out.size; clear q3 b3 o3 s3)
          | (refine Sh.wp_al tkS rfl rfl ?_; intro w2 q2 b2 s2; have B2 := hid b2; clear b2 s2)
          | (refine Sh.wp_ld tkS rfl (.tmp 10) rfl rfl r1 ?_))
        go_roundw
        case rel => exact ⟨k + 1, A6, c6, rfl, by go_num, by omega, by rw [HT.out, List.map_append, List.map_singleton, hv]; exact O6.out, B6.out⟩
        case measure => simp [intOf]; omega
      have e1 : (t.kind == 1) = false := beq_eq_false_iff_ne.2 h1
      by_cases h2 : t.kind = 2
      · have e2 : (t.kind == 2) = true := beq_iff_eq.2 h2
        have hv : tyV t = .iface 71 (.agg #[.int .i64 t.n, .bool t.time]) := by unfold tyV; rw [if_neg h1, if_pos h2]
        go_wp2_with (first
          | (refine wp_pushA (v := .iface 71 (.agg #[.int .i64 t.n, .bool t.time])) (A := A') (c := c') (l := (ts.take k).map tyV) (base := w.heap.size) rfl (.tmp 30) (.tmp 37) rfl rfl (World.ownsRow.alloc O3.out _) rfl (cell_new _ _ _) rfl (by omega) (Nat.le_trans hle (by simp)) ?_; intro A6 c6 w6 own6 gr6; have B6 := hid (B3.out.trans (AnyOw.grown O3.out hle gr6)); have O6 := hid own6; clear own6 gr6)
          | (refine Sh.wp_sv tkS (x := t) rfl (.tmp 5) (.tmp 11) rfl rfl (by rfl) q2 ?_; intro w3 q3 b3 o3 s3; have c0 : w3.cell? ⟨wr.heap.size, 0, none⟩ = some (.int .i64 t.kind) := q3.cell (j := 0) rfl; have c1 : w3.cell? ⟨wr.heap.size, 1, none⟩ = some (.string (strB t.s)) := q3.cell (j := 1) rfl; have c2 : w3.cell? ⟨wr.heap.size, 2, none⟩ = some (.int .i64 t.n) := q3.cell (j := 2) rfl; have c3 : w3.cell? ⟨wr.heap.size, 3, none⟩ = some (.bool t.time) := q3.cell (j := 3) rfl; have B3 := hid (BW.out.trans ((B2.out.trans (b3.mono (Nat.le_refl _))).mono BW.out.size)); have O3 := hid (AnyOw.below OW.out (B2.out.trans (b3.mono (Nat.le_refl _)))); have hle := B3.out.size; clear q3 b3 o3 s3)
          | (refine Sh.wp_al tkS rfl rfl ?_; intro w2 q2 b2 s2; have B2 := hid b2; clear b2 s2)
          | (refine Sh.wp_ld tkS rfl (.tmp 10) rfl rfl r1 ?_))
        go_roundw
        case rel => exact ⟨k + 1, A6, c6, rfl, by go_num, by omega, by rw [HT.out, List.map_append, List.map_singleton, hv]; exact O6.out, B6.out⟩
        case measure => simp [intOf]; omega
      · have e2 : (t.kind == 2) = false := beq_eq_false_iff_ne.2 h2
        have hv : tyV t = .iface 72 (.string (strB t.s)) := by unfold tyV; rw [if_neg h1, if_neg h2]
        go_wp2_with (first
          | (refine wp_pushA (v := .iface 72 (.string (strB t.s))) (A := A') (c := c') (l := (ts.take k).map tyV) (base := w.heap.size) rfl (.tmp 14) (.tmp 18) rfl rfl (World.ownsRow.alloc O3.out _) rfl (cell_new _ _ _) rfl (by omega) (Nat.le_trans hle (by simp)) ?_; intro A6 c6 w6 own6 gr6; have B6 := hid (B3.out.trans (AnyOw.grown O3.out hle gr6)); have O6 := hid own6; clear own6 gr6)
          | (refine Sh.wp_sv tkS (x := t) rfl (.tmp 5) (.tmp 11) rfl rfl (by rfl) q2 ?_; intro w3 q3 b3 o3 s3; have c0 : w3.cell? ⟨wr.heap.size, 0, none⟩ = some (.int .i64 t.kind) := q3.cell (j := 0) rfl; have c1 : w3.cell? ⟨wr.heap.size, 1, none⟩ = some (.string (strB t.s)) := q3.cell (j := 1) rfl; have c2 : w3.cell? ⟨wr.heap.size, 2, none⟩ = some (.int .i64 t.n) := q3.cell (j := 2) rfl; have c3 : w3.cell? ⟨wr.heap.size, 3, none⟩ = some (.bool t.time) := q3.cell (j := 3) rfl; have B3 := hid (BW.out.trans ((B2.out.trans (b3.mono (Nat.le_refl _))).mono BW.out.size)); have O3 := hid (AnyOw.below OW.out (B2.out.trans (b3.mono (Nat.le_refl _)))); have hle := B3.out.size; clear q3 b3 o3 s3)
          | (refine Sh.wp_al tkS rfl rfl ?_; intro w2 q2 b2 s2; have B2 := hid b2; clear b2 s2)
          | (refine Sh.wp_ld tkS rfl (.tmp 10) rfl rfl r1 ?_))
        go_roundw
        case rel => exact ⟨k + 1, A6, c6, rfl, by go_num, by omega, by rw [HT.out, List.map_append, List.map_singleton, hv]; exact O6.out, B6.out⟩
        case measure => simp [intOf]; omega
    · obtain rfl : k = n := by omega
      rw [List.take_of_length_le (by rw [HLN.out]; omega)] at how
      have OX := hid how
      have hle := BW.out.size
      clear how hbel OW
      go_wp2_with (first
        | (refine wp_pushA (v := endV) (A := A') (c := c') (l := ts.map tyV) (base := w.heap.size) rfl (.tmp 40) (.tmp 43) rfl rfl (World.ownsRow.alloc OX.out _) rfl (cell_new _ _ _) rfl (by omega) (Nat.le_trans hle (by simp)) ?_; intro A6 c6 w6 own6 gr6))
      go_ret
      refine ⟨A6, c6, rfl, own6, BW.out.trans (AnyOw.grown OX.out hle gr6)⟩
end Go.Proofs.YtinjhnflnfpoeaaGreatDoor
