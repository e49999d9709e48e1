/-
  PV: The contract of typed: each token of its type, and an end; at every slice of at most a million tokens.
  PW: Contracts of the reader's all and of Parse, at every text: what its tokens are read as, or what is wrong, and where; under: the tables hold what the program lays (LaidW).
  PX: The contract of Parse, at every text: what its tokens are read as, or what is wrong, and where; under: the tables hold what the program lays (LaidW).
  PY: The contract of Parse where the text is cut: what its tokens are read as, or what is wrong, and where; under: the tables hold what the program lays (LaidW).
  PZ: The contract of Parse at every text, and of the law functions' live; under: the tables hold what the program lays (LaidW).
  QB: Induction over forests, and their slices element by element; contracts of parse.Count and parse.Depth at every forest of at most 2^62 statements.
  WR: From a row's argument to the walks' words: statements that came in (slices of structs that hold slices of numbers and of such statements) read as a forest. No condition of its own.
  RA: Contracts of parse.fits and parse.Check, at every forest of at most 2^62 statements; and when Check answers OK.
-/
import Derived.Test.YtpkoboohnbkpoaaGreatDoorK5
import Derived.Deep.RegionWith
import Derived.Deep.RegionLaw
import Derived.Test.YtpkoboohnbkpoaaGreatDoorK1
import Derived.ChangeOld
import Derived.SizedLaws
import Derived.Carry
import Derived.Deep.Slices
/-! PV -/
namespace Go.Proofs.YtpkoboohnbkpoaaGreatDoor
open Go Go.RowKit Go.Joins

/-! ### Slices of any values, of the call's own -/
def AnyOw (w : World) (base : Nat) (A : Option Addr) (n c : Nat) (vs : List Value) : Prop := w.ownsRow base 20 1 (.slice A n c) n vs
theorem AnyOw.below {w w' : World} {base n c : Nat} {A : Option Addr} {vs : List Value} (h : AnyOw w base A n c vs) (hb : Below w.heap.size w w') : AnyOw w' base A n c vs := by
  refine ⟨h.1, ?_⟩
  rcases h.2 with h0 | ⟨g, cap, cur, hv, hg, hh, r⟩
  · exact .inl h0
  · exact .inr ⟨g, cap, cur, hv, hg, (hb.block g (Array.getElem?_eq_some_iff.1 hh).1).trans hh, r⟩
theorem AnyOw.grown {w w' : World} {base n c : Nat} {A : Option Addr} {vs : List Value} {o : Obj} (h : AnyOw w base A n c vs) (hb : base ≤ w.heap.size) (hg : (w.alloc o).grownBy w' (Value.ownBlock (.slice A n c))) : Below base w w' :=
  ((Below.refl _ _).alloc hb _).trans ((Below.refl _ _).grown hg (Nat.le_trans hb (by simp)) (fun k hk => (World.ownsRow.lt h k hk).1))
section
variable {w : World} {ops : Array Oper} {rest : List Oper} {o : Oper} {a : Act} {Q : Exit → Act → World → Prop}
theorem any_info : (Tryz.prog.info? 20).map (fun i => (i.zero, i.size, i.bytes)) = some (some .nilIface, 1, 16) := by kernel_rfl
theorem run_pushA {b base n c : Nat} {A : Option Addr} {l : List Value} {v : Value} (ty : TypeId) (hown : AnyOw w base A n c l) (hrow : w.cell? ⟨b, 0, none⟩ = some v) (h1 : v.oneCell' = true) (hn : n ≤ 2000000) (hbase : base ≤ w.heap.size) :
    ∃ A' c' w', (Builtin.append_ #[65, 65] ty #[.slice A n c, .slice (some ⟨b, 0, none⟩) 1 1]).run Tryz.prog w = .ok (.slice A' (n + 1) c') w' ∧ AnyOw w' base A' (n + 1) c' (l ++ [v]) ∧ w.grownBy w' (Value.ownBlock (.slice A n c)) := by
  obtain ⟨i, hi0, hi1, hi2, hi3⟩ := info_parts any_info
  obtain ⟨v', w', hrun, h2, h3, _, _⟩ := run_append_own_at (P := Tryz.prog) w base 65 ty 20 i .nilIface 1 16 Tryz.underlying65 hi0 hi1 hi2 hi3 rfl (by omega) (.slice A n c) n l hown ⟨b, 0, none⟩ 1 1 [v] rfl
    (fun j u hu => by
      obtain rfl : j = 0 := by have := (List.getElem?_eq_some_iff.1 hu).1; simp at this; exact this
      rw [plain_add]
      simp at hu
      rw [← hu]; exact hrow) (fun u hu => by rw [List.mem_singleton.1 hu]; exact h1) (by unfold maxLen; omega) (by omega) hbase
  rcases h2.2 with ⟨rfl, h0⟩ | ⟨g, cap, cur, rfl, r⟩
  · omega
  · exact ⟨_, _, w', hrun, h2, h3⟩
theorem wp_pushA {b base n c : Nat} {A : Option Addr} {l : List Value} {v : Value} (hgd : o.guard = none) (s e : Operand) (ho : o.op = .call { callee := .builtin .append, args := #[s, e], argTypes := #[65, 65] })
    (hs : a.eval s = .slice A n c) (hown : AnyOw w base A n c l) (hx : a.eval e = .slice (some ⟨b, 0, none⟩) 1 1) (hrow : w.cell? ⟨b, 0, none⟩ = some v) (h1 : v.oneCell' = true) (hn : n ≤ 2000000) (hbase : base ≤ w.heap.size)
    (h : ∀ A' c' w', AnyOw w' base A' (n + 1) c' (l ++ [v]) → w.grownBy w' (Value.ownBlock (.slice A n c)) → wpList Tryz.prog ops Q rest (a.put o.dst (.slice A' (n + 1) c')) w') : wpList Tryz.prog ops Q (o :: rest) a w := by
  refine wpList_plain hgd fun K hK => ?_
  obtain ⟨A', c', w', hrun, h2, h3⟩ := run_pushA o.type hown hrow h1 hn hbase
  unfold Oper.wp execOp
  simp only [ho, resolve, invoke, builtin, Sem.run_bind, Sem.run_pure, Result.andThen_ok, List.map_toArray, List.map_cons, List.map_nil, hs, hx, hrun]
  exact hK _ _ (h A' c' w' h2 h3)
end
theorem cell_new (w : World) (v : Value) (t : TypeId) : (w.alloc (.cells #[v] t)).cell? ⟨w.heap.size, 0, none⟩ = some v := by
  have := range_new w [v] t 0 v rfl; rwa [Nat.zero_add] at this
theorem mk_w (x : Value) (w : World) : (Instr.makeInterface 138 x).run Tryz.prog w = .ok (.iface 138 x) w := run_makeInterface w _ x (by kernel_rfl)
theorem mk_n (x : Value) (w : World) : (Instr.makeInterface 139 x).run Tryz.prog w = .ok (.iface 139 x) w := run_makeInterface w _ x (by kernel_rfl)
theorem mk_s (x : Value) (w : World) : (Instr.makeInterface 140 x).run Tryz.prog w = .ok (.iface 140 x) w := run_makeInterface w _ x (by kernel_rfl)
theorem mk_e (x : Value) (w : World) : (Instr.makeInterface 142 x).run Tryz.prog w = .ok (.iface 142 x) w := run_makeInterface w _ x (by kernel_rfl)
theorem tyV_one (t : Tk) : (tyV t).oneCell' = true := by unfold tyV; split; · rfl
                                                         split <;> rfl

set_option maxHeartbeats 1000000 in
set_option maxRecDepth 100000 in
theorem typed_any (A : Option Addr) (n c B : Nat) (ts : List Tk) (w : World) (hr : tkS.Rw w B A n ts) (hB : B ≤ w.heap.size) (hn : n ≤ 1000000) :
    Calls Tryz.prog 42 #[.slice A n c] w fun e w' => ∃ A' c', e = .returned (.slice A' (n + 1) c') ∧ AnyOw w' w.heap.size A' (n + 1) c' (rowV ts) ∧ Below w.heap.size w w' := by
  have HR := hid hr
  have HLN := hid hr.1
  have m1 := mk_w
  have m2 := mk_n
  have m3 := mk_s
  have m4 := mk_e
  clear hr
  go_enter Tryz.func42, Tryz.ntmps42
  go_wp2
  go_loopw [3, 8] (fun v3 v8 wr => ∃ (k : Nat) (A' : Option Addr) (c' : Nat), v3 = .slice A' k c' ∧ v8 = .int .i64 (k : Nat) ∧ k ≤ n ∧ AnyOw wr w.heap.size A' k c' ((ts.take k).map tyV) ∧ Below w.heap.size w wr) (fun _ v8 _ => n - (intOf v8).toNat)
  case atStart => exact ⟨0, none, 0, rfl, rfl, Nat.zero_le _, World.ownsRow_nil w _ _ _, Below.refl _ _⟩
  case round =>
    obtain ⟨k, A', c', rfl, rfl, hk, how, hbel⟩ := hrel
    have BW := hid hbel
    have OW := hid how
    by_cases hlt : k < n
    · obtain ⟨b, o, rfl, hb, hc⟩ := (HR.out.below (hbel.mono hB)).at_ hlt
      have hg : ts[k]? = some (tkS.nth ts k) := Sh.nth_get tkS (by rw [HLN.out]; exact hlt)
      have HT : Hid (ts.take (k + 1) = ts.take k ++ [tkS.nth ts k]) := hid (by rw [List.take_add_one, hg]; rfl)
      generalize tkS.nth ts k = t at *
      have r1 : wr.rangeAt b (o + k * 4) (tkS.enc t) := hc
      clear hc hbel how hg
      by_cases h1 : t.kind = 1
      · have e1 : (t.kind == 1) = true := beq_iff_eq.2 h1
        have hv : tyV t = .iface 138 (.string (strB t.s)) := if_pos h1
        go_wp2_with (first
          | (refine wp_pushA (v := .iface 138 (.string (strB t.s))) (A := A') (c := c') (l := (ts.take k).map tyV) (base := w.heap.size) rfl (.tmp 22) (.tmp 26) rfl rfl (World.ownsRow.alloc O3.out _) rfl (cell_new _ _ _) rfl (by omega) (Nat.le_trans hle (by simp)) ?_; intro A6 c6 w6 own6 gr6; have B6 := hid (B3.out.trans (AnyOw.grown O3.out hle gr6)); have O6 := hid own6; clear own6 gr6)
          | (refine Sh.wp_sv tkS (x := t) rfl (.tmp 5) (.tmp 11) rfl rfl (by rfl) q2 ?_; intro w3 q3 b3 o3 s3; have c0 : w3.cell? ⟨wr.heap.size, 0, none⟩ = some (.int .i64 t.kind) := q3.cell (j := 0) rfl; have c1 : w3.cell? ⟨wr.heap.size, 1, none⟩ = some (.string (strB t.s)) := q3.cell (j := 1) rfl; have c2 : w3.cell? ⟨wr.heap.size, 2, none⟩ = some (.int .i64 t.n) := q3.cell (j := 2) rfl; have c3 : w3.cell? ⟨wr.heap.size, 3, none⟩ = some (.bool t.time) := q3.cell (j := 3) rfl; have B3 := hid (BW.out.trans ((B2.out.trans (b3.mono (Nat.le_refl _))).mono BW.out.size)); have O3 := hid (AnyOw.below OW.out (B2.out.trans (b3.mono (Nat.le_refl _)))); have hle := B3.out.size; clear q3 b3 o3 s3)
          | (refine Sh.wp_al tkS rfl rfl ?_; intro w2 q2 b2 s2; have B2 := hid b2; clear b2 s2)
          | (refine Sh.wp_ld tkS rfl (.tmp 10) rfl rfl r1 ?_))
        go_roundw
        case rel => exact ⟨k + 1, A6, c6, rfl, by go_num, by omega, by rw [HT.out, List.map_append, List.map_singleton, hv]; exact O6.out, B6.out⟩
        case measure => simp [intOf]; omega
      have e1 : (t.kind == 1) = false := beq_eq_false_iff_ne.2 h1
      by_cases h2 : t.kind = 2
      · have e2 : (t.kind == 2) = true := beq_iff_eq.2 h2
        have hv : tyV t = .iface 139 (.agg #[.int .i64 t.n, .bool t.time]) := by unfold tyV; rw [if_neg h1, if_pos h2]
        go_wp2_with (first
          | (refine wp_pushA (v := .iface 139 (.agg #[.int .i64 t.n, .bool t.time])) (A := A') (c := c') (l := (ts.take k).map tyV) (base := w.heap.size) rfl (.tmp 30) (.tmp 37) rfl rfl (World.ownsRow.alloc O3.out _) rfl (cell_new _ _ _) rfl (by omega) (Nat.le_trans hle (by simp)) ?_; intro A6 c6 w6 own6 gr6; have B6 := hid (B3.out.trans (AnyOw.grown O3.out hle gr6)); have O6 := hid own6; clear own6 gr6)
          | (refine Sh.wp_sv tkS (x := t) rfl (.tmp 5) (.tmp 11) rfl rfl (by rfl) q2 ?_; intro w3 q3 b3 o3 s3; have c0 : w3.cell? ⟨wr.heap.size, 0, none⟩ = some (.int .i64 t.kind) := q3.cell (j := 0) rfl; have c1 : w3.cell? ⟨wr.heap.size, 1, none⟩ = some (.string (strB t.s)) := q3.cell (j := 1) rfl; have c2 : w3.cell? ⟨wr.heap.size, 2, none⟩ = some (.int .i64 t.n) := q3.cell (j := 2) rfl; have c3 : w3.cell? ⟨wr.heap.size, 3, none⟩ = some (.bool t.time) := q3.cell (j := 3) rfl; have B3 := hid (BW.out.trans ((B2.out.trans (b3.mono (Nat.le_refl _))).mono BW.out.size)); have O3 := hid (AnyOw.below OW.out (B2.out.trans (b3.mono (Nat.le_refl _)))); have hle := B3.out.size; clear q3 b3 o3 s3)
          | (refine Sh.wp_al tkS rfl rfl ?_; intro w2 q2 b2 s2; have B2 := hid b2; clear b2 s2)
          | (refine Sh.wp_ld tkS rfl (.tmp 10) rfl rfl r1 ?_))
        go_roundw
        case rel => exact ⟨k + 1, A6, c6, rfl, by go_num, by omega, by rw [HT.out, List.map_append, List.map_singleton, hv]; exact O6.out, B6.out⟩
        case measure => simp [intOf]; omega
      · have e2 : (t.kind == 2) = false := beq_eq_false_iff_ne.2 h2
        have hv : tyV t = .iface 140 (.string (strB t.s)) := by unfold tyV; rw [if_neg h1, if_neg h2]
        go_wp2_with (first
          | (refine wp_pushA (v := .iface 140 (.string (strB t.s))) (A := A') (c := c') (l := (ts.take k).map tyV) (base := w.heap.size) rfl (.tmp 14) (.tmp 18) rfl rfl (World.ownsRow.alloc O3.out _) rfl (cell_new _ _ _) rfl (by omega) (Nat.le_trans hle (by simp)) ?_; intro A6 c6 w6 own6 gr6; have B6 := hid (B3.out.trans (AnyOw.grown O3.out hle gr6)); have O6 := hid own6; clear own6 gr6)
          | (refine Sh.wp_sv tkS (x := t) rfl (.tmp 5) (.tmp 11) rfl rfl (by rfl) q2 ?_; intro w3 q3 b3 o3 s3; have c0 : w3.cell? ⟨wr.heap.size, 0, none⟩ = some (.int .i64 t.kind) := q3.cell (j := 0) rfl; have c1 : w3.cell? ⟨wr.heap.size, 1, none⟩ = some (.string (strB t.s)) := q3.cell (j := 1) rfl; have c2 : w3.cell? ⟨wr.heap.size, 2, none⟩ = some (.int .i64 t.n) := q3.cell (j := 2) rfl; have c3 : w3.cell? ⟨wr.heap.size, 3, none⟩ = some (.bool t.time) := q3.cell (j := 3) rfl; have B3 := hid (BW.out.trans ((B2.out.trans (b3.mono (Nat.le_refl _))).mono BW.out.size)); have O3 := hid (AnyOw.below OW.out (B2.out.trans (b3.mono (Nat.le_refl _)))); have hle := B3.out.size; clear q3 b3 o3 s3)
          | (refine Sh.wp_al tkS rfl rfl ?_; intro w2 q2 b2 s2; have B2 := hid b2; clear b2 s2)
          | (refine Sh.wp_ld tkS rfl (.tmp 10) rfl rfl r1 ?_))
        go_roundw
        case rel => exact ⟨k + 1, A6, c6, rfl, by go_num, by omega, by rw [HT.out, List.map_append, List.map_singleton, hv]; exact O6.out, B6.out⟩
        case measure => simp [intOf]; omega
    · obtain rfl : k = n := by omega
      rw [List.take_of_length_le (by rw [HLN.out]; omega)] at how
      have OX := hid how
      have hle := BW.out.size
      clear how hbel OW
      go_wp2_with (first
        | (refine wp_pushA (v := endV) (A := A') (c := c') (l := ts.map tyV) (base := w.heap.size) rfl (.tmp 40) (.tmp 43) rfl rfl (World.ownsRow.alloc OX.out _) rfl (cell_new _ _ _) rfl (by omega) (Nat.le_trans hle (by simp)) ?_; intro A6 c6 w6 own6 gr6))
      go_ret
      refine ⟨A6, c6, rfl, own6, BW.out.trans (AnyOw.grown OX.out hle gr6)⟩
end Go.Proofs.YtpkoboohnbkpoaaGreatDoor

/-! PW -/
namespace Go.Proofs.YtpkoboohnbkpoaaGreatDoor
open Go Go.RowKit Go.Joins

set_option maxRecDepth 100000 in
theorem all_any {w : World} {g b c : Nat} {ts : List Tk} (h : Rd w g b c [] ts 0) : Calls Tryz.prog 43 #[.pointer (some ⟨g, 0, none⟩)] w (SlPost (allF ts) w g b c [] ts) := by
  have HG := hid (Nat.le_of_lt h.lt)
  have HL := hid (list_ok ts.length 1 w g b c 0 [] ts (by omega) (Nat.le_refl _) h)
  clear h
  unfold allF
  generalize lstF ts.length 1 0 ts = x at *
  match x with
  | .bad er r =>
    show Calls _ _ _ w (SlPost (.bad er r) w g b c [] ts)
    have HL2 : Hid (Calls Tryz.prog 91 #[.pointer (some ⟨g, 0, none⟩), .int .i64 1] w fun e w1 => Mov g w w1 ∧ (∃ m, Went w1 g b c [] ts m r) ∧ (0 < er ∧ er ≤ 7) ∧ e = .returned (.tuple #[.slice none 0 0, .int .i64 (er : Nat)])) := hid (HL.out.mono fun e w1 h => h)
    clear HL
    go_enter Tryz.func43, Tryz.ntmps43
    go_wp2_with (first
      | (go_at_call 91; refine HL2.out.mono ?_; rintro e w1 ⟨m1, h1, h2, rfl⟩; have X1 := hid (And.intro m1 (And.intro h1 h2)); have hne : ((er : Int) == 0) = false := beq_eq_false_iff_ne.2 (by omega); clear m1 h1 h2))
    go_ret2
    exact ⟨X1.out.1, X1.out.2.1, X1.out.2.2, rfl⟩
  | .ok f m [] =>
    show Calls _ _ _ w (SlPost (.ok f m []) w g b c [] ts)
    have HL2 : Hid (Calls Tryz.prog 91 #[.pointer (some ⟨g, 0, none⟩), .int .i64 1] w fun e w1 => Mov g w w1 ∧ Went w1 g b c [] ts m ([]) ∧ ∃ A k c', e = .returned (.tuple #[.slice A k c', .int .i64 0]) ∧ TrS w1 (fun k => w.heap.size ≤ k ∧ k < w1.heap.size) A k f) := hid (HL.out.mono fun e w1 h => h)
    clear HL
    have ha := as_ee (.agg #[])
    go_enter Tryz.func43, Tryz.ntmps43
    go_wp2_with (first
      | (go_at_call 92; refine HN.out.mono ?_; rintro e w2 ⟨rfl, b2⟩; have B2 := hid b2; clear b2)
      | (go_at_call 91; refine HL2.out.mono ?_; rintro e w1 ⟨m1, ⟨p, hp, r1⟩, A, k, c', rfl, t1⟩; have M1 := hid m1; have R1 := hid r1; have T1 := hid t1; have HN := hid (now_is r1 (v := .iface 142 (.agg #[])) rfl); clear m1 r1 t1))
    go_ret2
    exact ⟨M1.out.then (B2.out.alloc B2.out.size _) HG.out, ⟨p, hp, R1.out.below (B2.out.alloc B2.out.size _)⟩, A, k, c', rfl, (T1.out.keep (fun j _ hs => (B2.out.alloc B2.out.size _).block j hs)).mono fun j hj hs => ⟨hj.1, hs⟩⟩
  | .ok f m (t :: r) =>
    rcases kinds t r with ⟨_, hv⟩ | ⟨_, hv⟩ | ⟨_, _, hv⟩
    · show Calls _ _ _ w (SlPost (.bad 4 (t :: r)) w g b c [] ts)
      have HL2 : Hid (Calls Tryz.prog 91 #[.pointer (some ⟨g, 0, none⟩), .int .i64 1] w fun e w1 => Mov g w w1 ∧ Went w1 g b c [] ts m (t :: r) ∧ ∃ A k c', e = .returned (.tuple #[.slice A k c', .int .i64 0]) ∧ TrS w1 (fun k => w.heap.size ≤ k ∧ k < w1.heap.size) A k f) := hid (HL.out.mono fun e w1 h => h)
      clear HL
      have ha := as_we (.string (strB t.s))
      go_enter Tryz.func43, Tryz.ntmps43
      go_wp2_with (first
        | (go_at_call 92; refine HN.out.mono ?_; rintro e w2 ⟨rfl, b2⟩; have B2 := hid b2; clear b2)
        | (go_at_call 91; refine HL2.out.mono ?_; rintro e w1 ⟨m1, ⟨p, hp, r1⟩, A, k, c', rfl, t1⟩; have M1 := hid m1; have R1 := hid r1; have T1 := hid t1; have HN := hid (now_is r1 hv); clear m1 r1 t1))
      go_ret2
      exact ⟨M1.out.then (B2.out.alloc B2.out.size _) HG.out, ⟨m, p, hp, R1.out.below (B2.out.alloc B2.out.size _)⟩, ⟨by decide, by decide⟩, rfl⟩
    · show Calls _ _ _ w (SlPost (.bad 4 (t :: r)) w g b c [] ts)
      have HL2 : Hid (Calls Tryz.prog 91 #[.pointer (some ⟨g, 0, none⟩), .int .i64 1] w fun e w1 => Mov g w w1 ∧ Went w1 g b c [] ts m (t :: r) ∧ ∃ A k c', e = .returned (.tuple #[.slice A k c', .int .i64 0]) ∧ TrS w1 (fun k => w.heap.size ≤ k ∧ k < w1.heap.size) A k f) := hid (HL.out.mono fun e w1 h => h)
      clear HL
      have ha := as_ne (.agg #[.int .i64 t.n, .bool t.time])
      go_enter Tryz.func43, Tryz.ntmps43
      go_wp2_with (first
        | (go_at_call 92; refine HN.out.mono ?_; rintro e w2 ⟨rfl, b2⟩; have B2 := hid b2; clear b2)
        | (go_at_call 91; refine HL2.out.mono ?_; rintro e w1 ⟨m1, ⟨p, hp, r1⟩, A, k, c', rfl, t1⟩; have M1 := hid m1; have R1 := hid r1; have T1 := hid t1; have HN := hid (now_is r1 hv); clear m1 r1 t1))
      go_ret2
      exact ⟨M1.out.then (B2.out.alloc B2.out.size _) HG.out, ⟨m, p, hp, R1.out.below (B2.out.alloc B2.out.size _)⟩, ⟨by decide, by decide⟩, rfl⟩
    · show Calls _ _ _ w (SlPost (.bad 4 (t :: r)) w g b c [] ts)
      have HL2 : Hid (Calls Tryz.prog 91 #[.pointer (some ⟨g, 0, none⟩), .int .i64 1] w fun e w1 => Mov g w w1 ∧ Went w1 g b c [] ts m (t :: r) ∧ ∃ A k c', e = .returned (.tuple #[.slice A k c', .int .i64 0]) ∧ TrS w1 (fun k => w.heap.size ≤ k ∧ k < w1.heap.size) A k f) := hid (HL.out.mono fun e w1 h => h)
      clear HL
      have ha := as_se (.string (strB t.s))
      go_enter Tryz.func43, Tryz.ntmps43
      go_wp2_with (first
        | (go_at_call 92; refine HN.out.mono ?_; rintro e w2 ⟨rfl, b2⟩; have B2 := hid b2; clear b2)
        | (go_at_call 91; refine HL2.out.mono ?_; rintro e w1 ⟨m1, ⟨p, hp, r1⟩, A, k, c', rfl, t1⟩; have M1 := hid m1; have R1 := hid r1; have T1 := hid t1; have HN := hid (now_is r1 hv); clear m1 r1 t1))
      go_ret2
      exact ⟨M1.out.then (B2.out.alloc B2.out.size _) HG.out, ⟨m, p, hp, R1.out.below (B2.out.alloc B2.out.size _)⟩, ⟨by decide, by decide⟩, rfl⟩
end Go.Proofs.YtpkoboohnbkpoaaGreatDoor

/-! PX -/
namespace Go.Proofs.YtpkoboohnbkpoaaGreatDoor
open Go Go.RowKit Go.Joins

/-- What Parse tells: statements, or what is wrong, and where. -/
inductive PRes where
  | ok (f : Fo)
  | bad (p : Pl) (e : Nat)
def toksF (l : List UInt8) : List Tk := (cutL l false firstP).1.map (·.1)
def placesF (l : List UInt8) : List Pl := (cutL l false firstP).1.map (·.2)
def parF (l : List UInt8) : PRes :=
  if 65536 < l.length then .bad firstP 6
  else match (cutL l false firstP).2 with
  | some (p, f) => .bad p f
  | none => match allF (toksF l) with
    | .ok f _ _ => .ok f
    | .bad er r => .bad (plS.nth (placesF l ++ [plAt l firstP l.length]) ((toksF l).length - r.length)) er
def PPost (x : PRes) (w : World) (e : Ending) (w' : World) : Prop := Below w.heap.size w w' ∧ match x with
  | .ok f => ∃ A n c, e = .returned (.tuple #[.slice A n c, plV ⟨0, 0⟩, .int .i64 0]) ∧ TrS w' (fun k => w.heap.size ≤ k ∧ k < w'.heap.size) A n f
  | .bad p er => (0 < er ∧ er ≤ 7) ∧ e = .returned (.tuple #[.slice none 0 0, plV p, .int .i64 (er : Nat)])

theorem cutK : ∀ (n : Nat) (l : List UInt8) (rem : Bool) (p : Pl), l.length ≤ n → (∀ q f, (cutL l rem p).2 = some (q, f) → 0 < f ∧ f ≤ 7) ∧ ∀ x ∈ (cutL l rem p).1, x.1.kind = 1 ∨ x.1.kind = 2 ∨ x.1.kind = 3 := by
  have hn1 : ∀ p t, numF p = .ok t → t.kind = 2 := by
    intro p t h
    unfold numF at h
    split at h
    · cases h
    split at h
    · cases h
    split at h
    · split at h
      · cases h; rfl
      · cases h
    · cases h; rfl
  have hn2 : ∀ p f, numF p = .error f → 0 < f ∧ f ≤ 7 := by
    intro p t h
    unfold numF at h
    split at h
    · cases h; decide
    split at h
    · cases h; decide
    split at h
    · split at h
      · cases h
      · cases h; decide
    · cases h
  have ht1 : ∀ p t, tokF p = .ok t → t.kind = 1 ∨ t.kind = 2 ∨ t.kind = 3 := by
    intro p t h
    match p with
    | [] => cases h
    | c :: r =>
      unfold tokF at h
      simp only at h
      split at h
      · cases h; exact .inr (.inr rfl)
      split at h
      · cases h; exact .inl rfl
      split at h
      · cases h
      · exact .inr (.inl (hn1 _ _ h))
  have ht2 : ∀ p f, tokF p = .error f → 0 < f ∧ f ≤ 7 := by
    intro p f h
    match p with
    | [] => cases h; decide
    | c :: r =>
      unfold tokF at h
      simp only at h
      split at h
      · cases h
      split at h
      · cases h
      split at h
      · cases h; decide
      · exact hn2 _ _ h
  intro n
  induction n with
  | zero =>
    intro l rem p h
    have : l = [] := List.eq_nil_of_length_eq_zero (by omega)
    subst this
    rw [cutL]
    exact ⟨fun _ _ h => (by cases h), fun _ h => (by cases h)⟩
  | succ n ih =>
    intro l rem p h
    match l with
    | [] =>
      rw [cutL]
      exact ⟨fun _ _ h => (by cases h), fun _ h => (by cases h)⟩
    | c :: r =>
      have hr : r.length ≤ n := by simpa using h
      have hd : ∀ k, (r.drop k).length ≤ n := fun k => by rw [List.length_drop]; omega
      rw [cutL]
      split
      · exact ⟨fun _ _ h => (by cases h; decide), fun _ h => (by cases h)⟩
      split
      · exact ih _ _ _ (hd _)
      split
      · exact ih _ _ _ (hd _)
      split
      · exact ih _ _ _ (hd _)
      split
      · rename_i e hte
        have := ht2 _ _ hte
        exact ⟨fun _ _ h => (by cases h; exact this), fun _ h => (by cases h)⟩
      · rename_i t hte
        have h1 := ht1 _ _ hte
        have h2 := ih (r.drop ((pieceF (c :: r)).length - 1)) false ⟨p.line, p.col + (pieceF (c :: r)).length⟩ (hd _)
        refine ⟨h2.1, fun x hx => ?_⟩
        rcases List.mem_cons.1 hx with rfl | hx
        · exact h1
        · exact h2.2 x hx
theorem tok_kinds (l : List UInt8) : ∀ t ∈ toksF l, t.kind = 1 ∨ t.kind = 2 ∨ t.kind = 3 := by
  intro t ht
  obtain ⟨x, hx, rfl⟩ := List.mem_map.1 ht
  exact (cutK _ l false firstP (Nat.le_refl _)).2 x hx

theorem results_1p1 {w : World} {g : Nat} {fn : Func} {p q r : Tmp} (h : fn.results = #[.tmp q, .cell p 26, .tmp r]) (tmps : Array Value) (hp : tmps.getD p undef = .pointer (some ⟨g, 0, none⟩)) {x : Pl} (hx : plS.Var w g x) :
    (results fn tmps).run Tryz.prog w = .ok (.tuple #[tmps.getD q undef, plV x, tmps.getD r undef]) w := by
  have : (loadVar 26 ⟨g, 0, none⟩).run Tryz.prog w = .ok (plV x) w := Sh.ldv plS hx.1
  have hp' : tmps[p]?.getD undef = .pointer (some ⟨g, 0, none⟩) := by simpa using hp
  simp only [results, h]
  simp [Result.andThen, hp', this, asAddr]

set_option maxHeartbeats 1000000 in
set_option maxRecDepth 100000 in
theorem parse_cut {s : ByteArray} {w : World} {p : Pl} {f : Nat} (hf : 0 < f ∧ f ≤ 7) (hc : ∀ w1, Below w.heap.size w w1 → Calls Tryz.prog 41 #[.string s] w1 fun e w' => Below w1.heap.size w1 w' ∧ e = .returned (.tuple #[.slice none 0 0, .slice none 0 0, plV p, .int .i64 (f : Nat)])) :
    Calls Tryz.prog 13 #[.string s] w (PPost (.bad p f) w) := by
  have HC := hid hc
  have HF := hid hf
  have hne : ((f : Int) == 0) = false := beq_eq_false_iff_ne.2 (by omega)
  clear hc hf
  go_enter Tryz.func13, Tryz.ntmps13
  go_upto_region 3 with (first
    | (refine Sh.wp_sv plS (x := p) rfl (.tmp 7) (.tmp 18) rfl rfl (by rfl) q3 ?_; intro w4 q4 b4 o4 s4; have V4 := hid (V3.out.other o4 (by have := N3.out; omega)); have Q4 := hid q4; have B4 := hid (B3.out.trans (b4.mono (by have := N3.out; omega))); clear q3 b4 o4 s4 q4)
    | (refine Sh.wp_al plS rfl rfl ?_; intro w3 q3 b3 s3; have V3 := hid (V2.out.keep b3); have N3 := hid (V2.out.lt); have B3 := hid (B2.out.trans (b3.mono B2.out.size)); clear b3 s3)
    | (go_at_call 41; refine (HC.out w1 B1.out).mono ?_; rintro e w2 ⟨b2, rfl⟩; have V2 := hid (V1.out.keep b2); have B2 := hid (B1.out.trans (b2.mono B1.out.size)); clear b2)
    | (refine Sh.wp_al plS rfl rfl ?_; intro w1 v1 b1 s1; have V1 := hid v1; have B1 := hid b1; clear v1 b1 s1))
  have c0 : w4.cell? ⟨w2.heap.size, 0, none⟩ = some (.int .i64 p.line) := Q4.out.cell (j := 0) rfl
  have c1 : w4.cell? ⟨w2.heap.size, 1, none⟩ = some (.int .i64 p.col) := Q4.out.cell (j := 1) rfl
  have d0 : w4.cell? ⟨w.heap.size, 0, none⟩ = some (.int .i64 0) := V4.out.cell (j := 0) rfl
  have d1 : w4.cell? ⟨w.heap.size, 1, none⟩ = some (.int .i64 0) := V4.out.cell (j := 1) rfl
  have e0 : w4.frozen? ⟨w.heap.size, 0, none⟩ = false := V4.out.free (j := 0) (by decide)
  have e1 : w4.frozen? ⟨w.heap.size, 1, none⟩ = false := V4.out.free (j := 1) (by decide)
  have hg48 : ¬ w2.heap.size = w.heap.size := by have := N3.out; omega
  have hg84 : ¬ w.heap.size = w2.heap.size := by omega
  go_region_held3 (fun w' => w'.cell? ⟨w2.heap.size, 0, none⟩ = some (.int .i64 p.line) ∧ w'.cell? ⟨w2.heap.size, 1, none⟩ = some (.int .i64 p.col)) (first | with_reducible exact ⟨c0, c1⟩ | go_keep) (first | fail)
  all_goals
    obtain ⟨w9, hW⟩ : ∃ w9, w9 = ((w4.setCell ⟨w.heap.size, 0, none⟩ (.int .i64 p.line)).setCell ⟨w.heap.size, 1, none⟩ (.int .i64 p.col)).drew := ⟨_, rfl⟩
    obtain ⟨z6, z7⟩ := one_stored V4.out p hW
    rw [← hW]
    clear hW c0 c1 d0 d1 e0 e1
    go_wp2_with fail
    exact bodyPost_ret (results_1p1 Tryz.results13 _ rfl z6) rfl ⟨B4.out.trans (z7 _ (Nat.le_refl _)), HF.out, rfl⟩
end Go.Proofs.YtpkoboohnbkpoaaGreatDoor

/-! PY -/
namespace Go.Proofs.YtpkoboohnbkpoaaGreatDoor
open Go Go.RowKit Go.Joins

/-- A reader's three cells. -/
structure Rv where
  A : Option Addr
  n : Nat
  c : Nat
  at_ : Int
  many : Int
def rdS : Sv Tryz.prog Rv where
  enc x := [.slice x.A x.n x.c, .int .i64 x.at_, .int .i64 x.many]
  N := 3
  T := 68
  z := ⟨none, 0, 0, 0, 0⟩
  d := _
  len := fun _ => rfl
  pos := by omega
  one := by intro x u hu; simp at hu; rcases hu with rfl | rfl | rfl <;> rfl
  undT := Tryz.underlying68
  isRow := rfl
  size := by kernel_rfl
  zero := fun w => by kernel_rfl
theorem AnyOw.form {w : World} {base n c : Nat} {A : Option Addr} {vs : List Value} (h : AnyOw w base A (n + 1) c vs) : ∃ b, A = some ⟨b, 0, none⟩ ∧ base ≤ b ∧ b < w.heap.size ∧ w.rangeAt b 0 vs := by
  rcases h.2 with ⟨_, h0⟩ | ⟨g, cap, cur, hv, hb, hg, _⟩
  · omega
  · have hA : A = some ⟨g, 0, none⟩ := by injection hv
    subst hA
    refine ⟨g, rfl, hb, (Array.getElem?_eq_some_iff.1 hg).1, fun j u hu => ?_⟩
    have := World.ownsRow.cells h (g := g) rfl j u hu
    rwa [plain_add] at this
theorem Sh.Var.blk {P : Program} {α : Type} {σ : Sh P α} {w w' : World} {k : Nat} {x : α} (h : σ.Var w k x) (e : w'.heap[k]? = w.heap[k]?) : σ.Var w' k x :=
  ⟨fun j v hv => (World.cell?_of_block (a := ⟨k, 0 + j, none⟩) e).trans (h.1 j v hv), fun j hj => ⟨by rw [World.cell?_of_block (a := ⟨k, 0 + j, none⟩) e]; exact (h.2 j hj).1, by rw [World.frozen?_of_block (a := ⟨k, 0 + j, none⟩) e]; exact (h.2 j hj).2⟩⟩
/-- What stands where an append that follows some draws and new blocks has been. -/
theorem after_push {w1 wx w6 : World} {own : Option Nat} (gr : wx.grownBy w6 own) (bx : Below w1.heap.size w1 wx) : ∀ j, j < w1.heap.size → some j ≠ own → w6.heap[j]? = w1.heap[j]? :=
  fun j hj hn => (gr.block j (Nat.lt_of_lt_of_le hj bx.size) hn).trans (bx.block j hj)
theorem below_push {w1 wx w6 : World} {base n c : Nat} {A : Option Addr} {ys : List Pl} (h : plS.Ow w1 base A n c ys) (hb : base ≤ w1.heap.size) (gr : wx.grownBy w6 (Value.ownBlock (.slice A n c))) (bx : Below w1.heap.size w1 wx) : Below base w1 w6 ∧ ∀ j, j < w1.heap.size → some j ≠ Value.ownBlock (.slice A n c) → w6.heap[j]? = w1.heap[j]? :=
  ⟨(bx.mono hb).trans ((Below.refl _ _).grown gr (Nat.le_trans hb bx.size) (fun k hk => (World.ownsRow.lt h k hk).1)), after_push gr bx⟩
theorem one_stored0 {w8 w9 : World} {g : Nat} {hr : Pl} (v : plS.Var w8 g hr) (bp : Pl) (hW : w9 = (w8.setCell ⟨g, 0, none⟩ (.int .i64 bp.line)).setCell ⟨g, 1, none⟩ (.int .i64 bp.col)) :
    plS.Var w9 g bp ∧ ∀ B, B ≤ g → Below B w8 w9 := by
  have hW : w9 = w8.setCells g 0 (encP bp) := hW
  subst hW
  exact ⟨Sh.var_stored (σ := plS) v.2 bp, fun B h => (setCells_oth g (encP bp) 0 w8).1.mono h⟩
theorem where_end (s : ByteArray) (w : World) (hL : LaidW w) (hs : s.size ≤ 65536) : Calls Tryz.prog 44 #[.string s, .int .i64 s.size] w fun e w' => e = .returned (.tuple #[plV (plAt s.data.toList firstP s.data.toList.length), .int .i64 0]) ∧ Below w.heap.size w w' := by
  refine (where_any s s.size w hL (by omega)).mono ?_
  rintro e w' ⟨h1, h2⟩
  refine ⟨?_, h2⟩
  rw [h1]
  unfold whereR
  have hl : s.data.toList.length = s.size := rfl
  rw [if_neg (by omega)]
  rfl
/-- What Cut tells of a text that is cut. -/
def CutGood (s : ByteArray) (ts : List Tk) (ps : List Pl) (w : World) (e : Ending) (w' : World) : Prop := Below w.heap.size w w' ∧ ∃ n A c A2 c2, ts.length = n ∧ n ≤ s.size ∧ e = .returned (.tuple #[.slice A n c, .slice A2 n c2, plV ⟨0, 0⟩, .int .i64 0]) ∧ tkS.Ow w' w.heap.size A n c ts ∧ plS.Ow w' w.heap.size A2 n c2 ps

/-- A reader's first world. -/
theorem rd_first {w : World} {g b n c : Nat} {ts : List Tk} (h : rdS.Var w g ⟨some ⟨b, 0, none⟩, n + 1, c, 0, 0⟩) (ht : w.rangeAt b 0 (rowV ts)) (hb : b ≠ g) (hn : ts.length = n) (hle : n ≤ 1000000) (hk : ∀ t ∈ ts, t.kind = 1 ∨ t.kind = 2 ∨ t.kind = 3) : Rd w g b c [] ts 0 :=
  ⟨by rw [show ([] : List Tk).length + ts.length + 1 = n + 1 by simp [hn]]; exact h.1, h.2, ht, hb, by simpa [hn] using hle, by omega, by simpa using hk⟩

set_option maxHeartbeats 1000000 in
set_option maxRecDepth 100000 in
theorem parse_good (s : ByteArray) (w : World) (ts : List Tk) (ps : List Pl) (hs : s.size ≤ 65536) (hk : ∀ t ∈ ts, t.kind = 1 ∨ t.kind = 2 ∨ t.kind = 3) (hc : ∀ w1, Below w.heap.size w w1 → Calls Tryz.prog 41 #[.string s] w1 (CutGood s ts ps w1)) (f : Fo) (m : Nat) (r : List Tk) (hx : allF ts = .ok f m r) :
    Calls Tryz.prog 13 #[.string s] w (PPost (.ok f) w) := by
  have HC := hid hc
  have HT := hid (fun A n c w4 (hn : n ≤ 1000000) (h : tkS.Rw w4 w4.heap.size A n ts) => typed_any A n c w4.heap.size ts w4 h (Nat.le_refl _) hn)
  have HA := hid (fun w7 g b c (h : Rd w7 g b c [] ts 0) => by have := all_any h; rw [hx] at this; exact this)
  have HK := hid hk
  have HS := hid hs
  clear hc hx hk
  go_enter Tryz.func13, Tryz.ntmps13
  go_wp2_with (first
    | (refine Sh.wp_sv plS (x := ⟨0, 0⟩) rfl (.tmp 3) (.tmp 50) rfl rfl (by rfl) q8 ?_; intro w9 q9 b9 o9 s9; have B9 := hid (B8.out.trans (b9.mono (Nat.le_refl _))); have O9 := hid o9; clear b9 o9 s9 q8)
    | (go_at_call 43; refine (HA.out w7 _ bb cc (rd_first Q7.out T7.out (by have := T5.out.2.1; omega) HN.out.1 (by have := HN.out.2; have := HS.out; omega) HK.out)).mono ?_; rintro e w8 ⟨m8, h8, A8, n8, c8, rfl, t8⟩; have q8 := (V4.out.below B7.out N4.out).below m8.bl (Nat.lt_of_lt_of_le N4.out B5.out.size); have B8 := hid (B4.out.trans ((B7.out.trans (m8.bl.mono B5.out.size)).mono B4.out.size)); have T8 := hid t8; have L7 := hid (Nat.le_trans B4.out.size B7.out.size); clear m8 h8 t8)
    | (refine Sv.wp_sv rdS (x := ⟨some ⟨bb, 0, none⟩, n + 1, cc, 0, 0⟩) rfl (.tmp 9) (.tmp 26) rfl rfl (by rfl) q6 ?_; intro w7 q7 b7 o7 s7; have B7 := hid (B6.out.trans (b7.mono B5.out.size)); have Q7 := hid q7; have S6 := hid (And.intro b7 s7.out); have T7 := hid (range_keep T5.out.2.2 T5.out.2.1 (b6'.out.trans (b7.mono (Nat.le_refl _)))); clear q6 b7 o7 s7 q7)
    | (refine Sv.wp_al rdS rfl rfl ?_; intro w6 q6 b6 s6; have B6 := hid (B5.out.trans (b6.mono B5.out.size)); have b6' := hid b6; clear b6 s6)
    | (go_at_call 42; refine (HT.out A n c w4 (by have := HN.out.2; have := HS.out; omega) Q24.out).mono ?_; rintro e w5 ⟨A5, cc, rfl, t5, b5⟩; have B5 := hid b5; obtain ⟨bb, rfl, t51, t52, t53⟩ := t5.form; have T5 := hid (And.intro t51 (And.intro t52 t53)); clear t5 b5 t51 t52 t53)
    | (refine Sh.wp_sv plS (x := ⟨0, 0⟩) rfl (.tmp 7) (.tmp 18) rfl rfl (by rfl) q3 ?_; intro w4 q4 b4 o4 s4; have V4 := hid (V3.out.other o4 (by have := N3.out; omega)); have B4 := hid (B3.out.trans (b4.mono (Nat.le_of_lt N3.out))); have Q24 := hid ((Q2.out.1.below (B23.out.trans (b4.mono (Nat.le_refl _)))).row); have P4 := hid (Q2.out.2.below (B23.out.trans (b4.mono (Nat.le_refl _)))); have S4 := hid s4.out; have N4 := hid (Nat.lt_of_lt_of_le N3.out (B23.out.trans (b4.mono (Nat.le_refl _))).size); clear q3 b4 o4 s4 q4)
    | (refine Sh.wp_al plS rfl rfl ?_; intro w3 q3 b3 s3; have V3 := hid (V2.out.keep b3); have N3 := hid (V2.out.lt); have B23 := hid b3; have B3 := hid (B2.out.trans (b3.mono B2.out.size)); clear b3 s3)
    | (go_at_call 41; refine (HC.out w1 B1.out).mono ?_; rintro e w2 ⟨b2, n, A, c, A2, c2, hn, hns, rfl, ot, op⟩; have V2 := hid (V1.out.keep b2); have B2 := hid (B1.out.trans (b2.mono B1.out.size)); have Q2 := hid (And.intro ot op); have HN := hid (And.intro hn hns); have N1 := hid (Nat.lt_of_lt_of_le V1.out.lt (Nat.le_refl _)); have B12 := hid b2; clear b2 ot op hn hns)
    | (refine Sh.wp_al plS rfl rfl ?_; intro w1 v1 b1 s1; have V1 := hid v1; have B1 := hid b1; clear v1 b1 s1))
  exact bodyPost_ret (results_1p1 Tryz.results13 _ rfl q9) rfl ⟨B9.out, A8, n8, c8, rfl, (T8.out.keep (fun j hj _ => O9.out j (by have := hj.1; have := N4.out; have := B7.out.size; omega))).mono fun j hj hs => ⟨Nat.le_trans L7.out hj.1, hs⟩⟩

set_option maxHeartbeats 2000000 in
set_option maxRecDepth 100000 in
theorem parse_fail (s : ByteArray) (w : World) (ts : List Tk) (ps : List Pl) (hs : s.size ≤ 65536) (hk : ∀ t ∈ ts, t.kind = 1 ∨ t.kind = 2 ∨ t.kind = 3) (hc : ∀ w1, Below w.heap.size w w1 → Calls Tryz.prog 41 #[.string s] w1 (CutGood s ts ps w1)) (hL : LaidW w) (hpl : ps.length = ts.length) (er : Nat) (r : List Tk) (hx : allF ts = .bad er r) :
    Calls Tryz.prog 13 #[.string s] w (PPost (.bad (plS.nth (ps ++ [plAt s.data.toList firstP s.data.toList.length]) (ts.length - r.length)) er) w) := by
  have HC := hid hc
  have HT := hid (fun A n c w4 (hn : n ≤ 1000000) (h : tkS.Rw w4 w4.heap.size A n ts) => typed_any A n c w4.heap.size ts w4 h (Nat.le_refl _) hn)
  have HA := hid (fun w7 g b c (h : Rd w7 g b c [] ts 0) => by have := all_any h; rw [hx] at this; exact this)
  have HW := hid (fun w8 (hb : Below w.heap.size w w8) => where_end s w8 (hL.below hb) hs)
  have HK := hid hk
  have HS := hid hs
  have HP := hid hpl
  clear hc hx hk hL hpl
  obtain ⟨pe, hpe⟩ : ∃ pe, plAt s.data.toList firstP s.data.toList.length = pe := ⟨_, rfl⟩
  rw [hpe] at HW ⊢
  clear hpe
  go_enter Tryz.func13, Tryz.ntmps13
  go_upto_region 8 with (first
    | (refine Sh.wp_sv plS (x := pe) rfl (.tmp 11) (.tmp 38) rfl rfl (by rfl) q10 ?_; intro w11 q11 b11 o11 s11; have Q11 := hid q11; have B911 := hid (B910.out.trans (b11.mono (Nat.le_refl _))); clear b11 o11 s11 q11 q10)
    | (have hk0 := B89.out; clear hk0; refine Sh.wp_al plS rfl rfl ?_; intro w10 q10 b10 s10; have B910 := hid b10; clear b10 s10)
    | (go_at_call 44; (with_reducible refine (HW.out w8 B8.out).mono ?_); rintro e w9 ⟨rfl, b9⟩; have B89 := hid b9; clear b9)
    | (go_at_call 43; refine (HA.out w7 _ bb cc (rd_first Q7.out T7.out (by have := T5.out.2.1; omega) HN.out.1 (by have := HN.out.2; have := HS.out; omega) HK.out)).mono ?_; rintro e w8 ⟨m8, ⟨mm, pp, hpp, r8⟩, h8, rfl⟩; have q8 := (V4.out.below B7.out N4.out).below m8.bl (Nat.lt_of_lt_of_le N4.out B5.out.size); have V8 := hid q8; have B48 := hid (B7.out.trans (m8.bl.mono B5.out.size)); have B8 := hid (B4.out.trans ((B7.out.trans (m8.bl.mono B5.out.size)).mono B4.out.size)); have R8 := hid r8; have H8 := hid h8; have HPP := hid hpp; have hne : ((er : Int) == 0) = false := beq_eq_false_iff_ne.2 (by omega); clear m8 h8 r8 q8 hpp)
    | (refine Sv.wp_sv rdS (x := ⟨some ⟨bb, 0, none⟩, n + 1, cc, 0, 0⟩) rfl (.tmp 9) (.tmp 26) rfl rfl (by rfl) q6 ?_; intro w7 q7 b7 o7 s7; have B7 := hid (B6.out.trans (b7.mono B5.out.size)); have Q7 := hid q7; have S6 := hid (And.intro b7 s7.out); have T7 := hid (range_keep T5.out.2.2 T5.out.2.1 (b6'.out.trans (b7.mono (Nat.le_refl _)))); clear q6 b7 o7 s7 q7)
    | (refine Sv.wp_al rdS rfl rfl ?_; intro w6 q6 b6 s6; have B6 := hid (B5.out.trans (b6.mono B5.out.size)); have b6' := hid b6; clear b6 s6)
    | (go_at_call 42; refine (HT.out A n c w4 (by have := HN.out.2; have := HS.out; omega) Q24.out).mono ?_; rintro e w5 ⟨A5, cc, rfl, t5, b5⟩; have B5 := hid b5; obtain ⟨bb, rfl, t51, t52, t53⟩ := t5.form; have T5 := hid (And.intro t51 (And.intro t52 t53)); clear t5 b5 t51 t52 t53)
    | (refine Sh.wp_sv plS (x := ⟨0, 0⟩) rfl (.tmp 7) (.tmp 18) rfl rfl (by rfl) q3 ?_; intro w4 q4 b4 o4 s4; have V4 := hid (V3.out.other o4 (by have := N3.out; omega)); have B4 := hid (B3.out.trans (b4.mono (Nat.le_of_lt N3.out))); have Q24 := hid ((Q2.out.1.below (B23.out.trans (b4.mono (Nat.le_refl _)))).row); have P4 := hid (Q2.out.2.below (B23.out.trans (b4.mono (Nat.le_refl _)))); have S4 := hid s4.out; have N4 := hid (Nat.lt_of_lt_of_le N3.out (B23.out.trans (b4.mono (Nat.le_refl _))).size); clear q3 b4 o4 s4 q4)
    | (refine Sh.wp_al plS rfl rfl ?_; intro w3 q3 b3 s3; have V3 := hid (V2.out.keep b3); have N3 := hid (V2.out.lt); have B23 := hid b3; have B3 := hid (B2.out.trans (b3.mono B2.out.size)); clear b3 s3)
    | (go_at_call 41; refine (HC.out w1 B1.out).mono ?_; rintro e w2 ⟨b2, n, A, c, A2, c2, hn, hns, rfl, ot, op⟩; have V2 := hid (V1.out.keep b2); have B2 := hid (B1.out.trans (b2.mono B1.out.size)); have Q2 := hid (And.intro ot op); have HN := hid (And.intro hn hns); have N1 := hid (Nat.lt_of_lt_of_le V1.out.lt (Nat.le_refl _)); have B12 := hid b2; clear b2 ot op hn hns)
    | (refine Sh.wp_al plS rfl rfl ?_; intro w1 v1 b1 s1; have V1 := hid v1; have B1 := hid b1; clear v1 b1 s1))
  have B811 := hid (B89.out.trans (B911.out.mono B89.out.size))
  have H89 := hid B89.out.size
  have h35 : w5.heap.size < w8.heap.size := R8.out.lt
  have hgr := hid h35
  have R11 := R8.out.below B811.out
  have P11 := hid ((P4.out.below B48.out).below B811.out)
  have V11 := hid (V8.out.below B811.out (Nat.lt_of_lt_of_le N4.out B48.out.size))
  have hk : pp.length < n + 1 := by
    have h1 := congrArg List.length HPP.out
    rw [HN.out.1, List.length_append] at h1
    omega
  have hkn := hid (show ts.length - r.length = pp.length by
    have h1 := congrArg List.length HPP.out
    rw [List.length_append] at h1
    omega)
  have c0 : w11.cell? ⟨w9.heap.size, 0, none⟩ = some (.int .i64 pe.line) := Q11.out.cell (j := 0) rfl
  have c1 : w11.cell? ⟨w9.heap.size, 1, none⟩ = some (.int .i64 pe.col) := Q11.out.cell (j := 1) rfl
  have a1 : w11.cell? ⟨w5.heap.size, 1, none⟩ = some (.int .i64 pp.length) := R11.c1
  have d0 : w11.cell? ⟨w.heap.size, 0, none⟩ = some (.int .i64 0) := V11.out.cell (j := 0) rfl
  have d1 : w11.cell? ⟨w.heap.size, 1, none⟩ = some (.int .i64 0) := V11.out.cell (j := 1) rfl
  have e0 : w11.frozen? ⟨w.heap.size, 0, none⟩ = false := V11.out.free (j := 0) (by decide)
  have e1 : w11.frozen? ⟨w.heap.size, 1, none⟩ = false := V11.out.free (j := 1) (by decide)
  have hn6 : n ≤ 1000000 := by have := HN.out.2; have := HS.out; omega
  have OWN := hid (fun (j : Nat) (e : Value.ownBlock (.slice A2 n c2) = some j) => World.ownsRow.lt P4.out j e)
  have hb11 := hid (show w1.heap.size ≤ w11.heap.size from Nat.le_trans (Nat.le_trans B12.out.size (Nat.le_trans B23.out.size (Nat.le_of_eq S4.out.symm))) (Nat.le_trans B48.out.size B811.out.size))
  have hnl : ps.length = n := by rw [HP.out, HN.out.1]
  obtain ⟨pk, hpk⟩ : ∃ pk, plS.nth (ps ++ [pe]) pp.length = pk := ⟨_, rfl⟩
  have hpk := hid hpk
  obtain ⟨k, hkk⟩ : ∃ k, pp.length = k := ⟨_, rfl⟩
  have HKK := hid hkk
  rw [hkk] at a1 hk hpk
  have z45 := hid (show w4.heap.size ≤ w5.heap.size from B5.out.size)
  have zz := hid (And.intro R11.lt Q11.out.lt)
  have H89 := hid H89.out
  clear R11 h35 hkk hnl hs HPP
  have a1' : ∀ o : Obj, (w11.alloc o).cell? ⟨w5.heap.size, 1, none⟩ = some (.int .i64 k) := fun o => (((Below.refl w11.heap.size w11).alloc (Nat.le_refl _) o).cell (p := ⟨w5.heap.size, 1, none⟩) zz.out.1).trans a1
  have hki : (k : Int) ≤ n := by omega
  have hki2 : (k : Int) < (n : Int) + 1 := by omega
  have hki0 : (0 : Int) ≤ k := by omega
  have hki3 : k ≤ n := by omega
  go_region_law (first
      | (refine Sh.step_push plS (A := A2) (c := c2) (l := ps) (base := w1.heap.size) (x := pe) rfl (.tmp 40) (.tmp 42) (by rfl) (by rfl) ?_ (by rfl) ?_ hn6 ?_ ?_; (focus exact (by (repeat (first | with_reducible exact P11.out | with_reducible refine Sh.Ow.alloc ?_ _ | with_reducible refine Sh.Ow.drew ?_)); done)); (focus show World.rangeAt _ _ _ [.int .i64 pe.line, .int .i64 pe.col]; exact (by (repeat (first | with_reducible exact range_new' _ _ _ _ (by simp; done) | with_reducible refine World.rangeAt_alloc ?_ _ | with_reducible refine (World.rangeAt_drew _ _ _ _).2 ?_)); done)); (focus have := hb11.out; (first | (simp; done) | (simp; omega) | omega)); intro A6 c6 w6 own6 gr6; have bx := below_push (w1 := w11) P11.out hb11.out gr6 (by (repeat (first | with_reducible exact Below.refl _ _ | with_reducible refine Below.drew ?_ | (with_reducible refine Below.alloc ?_ (by simp) _))); done)); have FX := hid bx.2; have bx := bx.1; obtain ⟨bA, oA, rfl, _, hA⟩ := own6.row.at_ hk; rw [hpk.out] at hA; have y0 : w6.cell? ⟨bA, oA + k * 2, none⟩ = some (.int .i64 pk.line) := hA 0 _ rfl; have y1 : w6.cell? ⟨bA, oA + k * 2 + 1, none⟩ = some (.int .i64 pk.col) := hA 1 _ rfl; have V6 := hid (V11.out.blk (FX.out w.heap.size (by have := zz.out.1; have := N4.out; have := z45.out; omega) (fun e => by have := (OWN.out _ e.symm).1; have := N1.out; omega))); have d0 : w6.cell? ⟨w.heap.size, 0, none⟩ = some (.int .i64 0) := V6.out.cell (j := 0) rfl; have d1 : w6.cell? ⟨w.heap.size, 1, none⟩ = some (.int .i64 0) := V6.out.cell (j := 1) rfl; have e0 : w6.frozen? ⟨w.heap.size, 0, none⟩ = false := V6.out.free (j := 0) (by decide); have e1 : w6.frozen? ⟨w.heap.size, 1, none⟩ = false := V6.out.free (j := 1) (by decide); have f9 := FX.out w9.heap.size zz.out.2 (fun e => by have := (OWN.out _ e.symm).2; have := B48.out.size; have := H89.out; omega); have f5 := FX.out w5.heap.size zz.out.1 (fun e => by have := (OWN.out _ e.symm).2; have := z45.out; omega); have c0 : w6.cell? ⟨w9.heap.size, 0, none⟩ = some (.int .i64 pe.line) := (World.cell?_of_block (a := ⟨w9.heap.size, 0, none⟩) f9).trans c0; have c1 : w6.cell? ⟨w9.heap.size, 1, none⟩ = some (.int .i64 pe.col) := (World.cell?_of_block (a := ⟨w9.heap.size, 1, none⟩) f9).trans c1; have a1 : w6.cell? ⟨w5.heap.size, 1, none⟩ = some (.int .i64 k) := (World.cell?_of_block (a := ⟨w5.heap.size, 1, none⟩) f5).trans a1; have BX := hid bx; clear f9 f5 own6 gr6 hA; dsimp only)
  all_goals
    obtain ⟨w12, hW⟩ : ∃ w12, w12 = (w6.setCell ⟨w.heap.size, 0, none⟩ (.int .i64 pk.line)).setCell ⟨w.heap.size, 1, none⟩ (.int .i64 pk.col) := ⟨_, rfl⟩
    obtain ⟨z6, z7⟩ := one_stored0 V6.out pk hW
    rw [← hW]
    clear hW c0 c1 d0 d1 e0 e1 a1 a1' y0 y1
    (try simp only [Act.put, List.getElem_toArray, List.getElem_cons_succ, List.getElem_cons_zero, List.setIfInBounds_toArray, List.set_cons_zero, List.set_cons_succ])
    go_wp2_with fail
    exact bodyPost_ret (results_1p1 Tryz.results13 _ rfl z6) rfl ⟨((B8.out.trans (B811.out.mono B8.out.size)).trans (BX.out.mono B1.out.size)).trans (z7 _ (Nat.le_refl _)), H8.out, by rw [hkn.out, HKK.out, hpk.out]; rfl⟩
end Go.Proofs.YtpkoboohnbkpoaaGreatDoor

/-! PZ -/
namespace Go.Proofs.YtpkoboohnbkpoaaGreatDoor
open Go Go.RowKit Go.Joins

theorem allF_short (ts : List Tk) : Short ts (allF ts) := by
  unfold allF
  have h := lst_short ts.length 1 0 ts
  generalize lstF ts.length 1 0 ts = x at h
  match x with
  | .bad e r => exact h
  | .ok f m [] => exact h
  | .ok f m (c :: r) => exact h
theorem parse_any (s : ByteArray) (w : World) (hL : LaidW w) (hs : s.size ≤ 9223372036854775807) : Calls Tryz.prog 13 #[.string s] w (PPost (parF s.data.toList) w) := by
  have hlen : s.data.toList.length = s.size := rfl
  have hc := fun w1 (hb : Below w.heap.size w w1) => lcut_any s w1 (hL.below hb) hs
  by_cases h1 : 65536 < s.size
  · have e : parF s.data.toList = .bad firstP 6 := by unfold parF; rw [if_pos (by omega)]
    rw [e]
    refine parse_cut (by decide) fun w1 hb => (hc w1 hb).mono ?_
    rintro e w' ⟨hb', ⟨_, rfl⟩ | ⟨h2, _⟩ | ⟨h2, _⟩⟩
    · exact ⟨hb', rfl⟩
    · omega
    · omega
  cases h2 : (cutL s.data.toList false firstP).2 with
  | some pf =>
    obtain ⟨p, f⟩ := pf
    have e : parF s.data.toList = .bad p f := by unfold parF; rw [if_neg (by omega), h2]
    rw [e]
    refine parse_cut ((cutK _ _ false firstP (Nat.le_refl _)).1 p f h2) fun w1 hb => (hc w1 hb).mono ?_
    rintro e w' ⟨hb', ⟨h3, _⟩ | ⟨_, p', f', h3, rfl⟩ | ⟨_, h3, _⟩⟩
    · omega
    · rw [h2] at h3; cases h3; exact ⟨hb', rfl⟩
    · rw [h2] at h3; cases h3
  | none =>
    have hg : ∀ w1, Below w.heap.size w w1 → Calls Tryz.prog 41 #[.string s] w1 (CutGood s (toksF s.data.toList) (placesF s.data.toList) w1) := fun w1 hb => (hc w1 hb).mono (by
      rintro e w' ⟨hb', ⟨h3, _⟩ | ⟨_, p', f', h3, _⟩ | ⟨_, _, n, A, c, A2, c2, hn, hn2, rfl, ht, hp⟩⟩
      · omega
      · rw [h2] at h3; cases h3
      · exact ⟨hb', n, A, c, A2, c2, by rw [toksF, List.length_map]; exact hn, hn2, rfl, ht, hp⟩)
    cases h3 : allF (toksF s.data.toList) with
    | ok f m r =>
      have e : parF s.data.toList = .ok f := by unfold parF; rw [if_neg (by omega), h2]; simp only [h3]
      rw [e]
      exact parse_good s w _ _ (by omega) (tok_kinds _) hg f m r h3
    | bad er r =>
      have e : parF s.data.toList = .bad (plS.nth (placesF s.data.toList ++ [plAt s.data.toList firstP s.data.toList.length]) ((toksF s.data.toList).length - r.length)) er := by unfold parF; rw [if_neg (by omega), h2]; simp only [h3]
      rw [e]
      exact parse_fail s w _ _ (by omega) (tok_kinds _) hg hL (by rw [placesF, toksF, List.length_map, List.length_map]) er r h3
end Go.Proofs.YtpkoboohnbkpoaaGreatDoor

/-! QB -/
namespace Go.Proofs.YtpkoboohnbkpoaaGreatDoor
open Go Go.RowKit Go.Joins

namespace Fo
def Bodies (P : Fo → Prop) : Fo → Prop
  | nil => True
  | cons _ _ _ y n => P y ∧ n.Bodies P
theorem ind {P : Fo → Prop} (step : ∀ f : Fo, f.Bodies P → P f) : ∀ f : Fo, P f ∧ f.Bodies P
  | nil => ⟨step nil trivial, trivial⟩
  | cons w ns b y n => by
    have hy := ind step y
    have hn := ind step n
    exact ⟨step (cons w ns b y n) ⟨hy.1, hn.2⟩, hy.1, hn.2⟩
def nest : Fo → Nat
  | nil => 0
  | cons _ _ _ y n => y.count + n.nest
theorem count_nest (f : Fo) : f.count = f.len + f.nest := by
  induction f with
  | nil => rfl
  | cons w ns b y n _ ih => rw [count, ih, len, nest]; omega
theorem depth_le (f : Fo) : f.depth ≤ f.count + 1 := by
  induction f with
  | nil => simp [depth]
  | cons w ns b y n ih1 ih2 => rw [depth, count]; split <;> omega
end Fo
section
variable {w w' : World} {K : Nat → Prop} {A : Option Addr} {n : Nat} {f r : Fo} {xs : List Sm}
theorem RwP.below {Q : Program} {α : Type} {σ : Sh Q α} {ys : List α} (h : RwP σ w K A n ys) (hb : Below w.heap.size w w') : RwP σ w' K A n ys := h.keep fun b _ hs => hb.block b hs
theorem Tr.below (h : Tr w K f xs) (hb : Below w.heap.size w w') : Tr w' K f xs := h.keep fun b _ hs => hb.block b hs
theorem TrS.below (h : TrS w K A n f) (hb : Below w.heap.size w w') : TrS w' K A n f := h.keep fun b _ hs => hb.block b hs
theorem Tr.step {i : Nat} (h : Tr w K r (xs.drop i)) (hi : i < xs.length) : ∃ wd ns bl y nx, r = .cons wd ns bl y nx ∧ (smS.nth xs i).word = wd ∧ (smS.nth xs i).block = bl ∧ RwP nmS w K (smS.nth xs i).nA (smS.nth xs i).nn ns ∧ TrS w K (smS.nth xs i).bA (smS.nth xs i).bn y ∧ Tr w K nx (xs.drop (i + 1)) := by
  have e : xs.drop i = smS.nth xs i :: xs.drop (i + 1) := by
    rw [List.drop_eq_getElem_cons hi]
    congr 1
    exact (Sh.nth_of smS (List.getElem?_eq_getElem hi)).symm
  rw [e] at h
  match r, h with
  | .nil, h => cases h
  | .cons wd ns bl y nx, ⟨x, xs', e2, h1, h2, h3, h4, h5⟩ =>
    injection e2 with e3 e4
    subst e3 e4
    exact ⟨wd, ns, bl, y, nx, rfl, h1, h2, h3, h4, h5⟩
theorem Tr.done {i : Nat} (h : Tr w K r (xs.drop i)) (hi : xs.length ≤ i) : r = .nil := by
  rw [List.drop_eq_nil_of_le hi] at h
  match r, h with
  | .nil, _ => rfl
  | .cons _ _ _ _ _, ⟨_, _, e, _⟩ => cases e
theorem RwP.len {Q : Program} {α : Type} {σ : Sh Q α} {ys : List α} (h : RwP σ w K A n ys) : ys.length = n := h.1
end

def CountSaid (g : Nat) (f : Fo) : Prop := ∀ (w : World) (K : Nat → Prop) (A : Option Addr) (n c : Nat), TrS w K A n f → f.count ≤ 4611686018427387904 → Calls Tryz.prog g #[.slice A n c] w fun e w' => e = .returned (.int .i64 (f.count : Nat)) ∧ Below w.heap.size w w'
set_option maxRecDepth 100000 in
theorem count_step (f : Fo) (hf : f.Bodies (CountSaid 38)) : CountSaid 38 f := by
  intro w K A n c ht hc
  obtain ⟨xs, hx, htr⟩ := ht
  have HX := hid hx
  have HL := hid (show f.len = n by rw [← htr.len, hx.1])
  have HC := hid hc
  have HB := hid hf
  have HT := hid htr
  have hn : (n : Int) ≤ 4611686018427387904 := by have := f.len_le; have := HL.out; omega
  clear hx hc hf htr
  go_enter Tryz.func38, Tryz.ntmps38
  go_wp2
  go_loopw [3, 10] (fun v3 v10 wr => ∃ (i m : Nat) (r : Fo), v3 = .int .i64 (m : Nat) ∧ v10 = .int .i64 (i : Nat) ∧ i ≤ n ∧ m + r.nest = f.count ∧ r.Bodies (CountSaid 38) ∧ Tr w K r (xs.drop i) ∧ Below w.heap.size w wr) (fun _ v10 _ => n - (intOf v10).toNat)
  case atStart => exact ⟨0, n, f, rfl, rfl, Nat.zero_le _, by rw [f.count_nest, HL.out], HB.out, by simpa using HT.out, Below.refl _ _⟩
  case round =>
    obtain ⟨i, m, r, rfl, rfl, hi, hm, hbo, htr, hbel⟩ := hrel
    have BW := hid hbel
    have HM := hid hm
    by_cases hlt : i < n
    · obtain ⟨wd, ns, bl, y, nx, rfl, _, _, _, hy, hnx⟩ := htr.step (by rw [HX.out.1]; exact hlt)
      obtain ⟨b, o, rfl, hb, hcell⟩ := (HX.out.size.below hbel).at_ hlt
      generalize hxe : smS.nth xs i = x at *
      clear hxe
      have r1 : wr.rangeAt b (o + i * 4) (smS.enc x) := hcell
      have HY := hid hbo.1
      have HN := hid (And.intro hbo.2 hnx)
      have HYT := hid hy
      have hyc : (y.count : Int) ≤ 4611686018427387904 := by have := HC.out; simp only [Fo.nest] at hm; omega
      have hmy : (m : Int) + y.count ≤ 4611686018427387904 := by have := HC.out; simp only [Fo.nest] at hm; omega
      have hmc : (m : Int) ≤ 4611686018427387904 := by have := HC.out; omega
      clear hcell hbel hm hbo htr hy hnx hb
      go_wp2_with (first
        | (go_at_call 38; have h9 := HY.out w3 K x.bA x.bn x.bc (HYT.out.below B3.out) (by omega); (with_reducible refine h9.mono ?_); rintro e w4 ⟨rfl, b4⟩; have B4 := hid (B3.out.trans (b4.mono B3.out.size)); clear b4)
        | (refine Sh.wp_sv smS (x := x) rfl (.tmp 5) (.tmp 13) rfl rfl (by rfl) q2 ?_; intro w3 q3 b3 o3 s3; have c3 : w3.cell? ⟨wr.heap.size, 3, none⟩ = some (.slice x.bA x.bn x.bc) := q3.cell (j := 3) rfl; have B3 := hid (BW.out.trans ((B2.out.trans (b3.mono (Nat.le_refl _))).mono BW.out.size)); clear q3 b3 o3 s3)
        | (refine Sh.wp_al smS rfl rfl ?_; intro w2 q2 b2 s2; have B2 := hid b2; clear b2 s2)
        | (refine Sh.wp_ld smS rfl (.tmp 12) rfl rfl r1 ?_))
      go_roundw
      case rel => exact ⟨i + 1, m + y.count, nx, by go_num, by go_num, by omega, by have := HM.out; simp only [Fo.nest] at this; omega, HN.out.1, HN.out.2, B4.out⟩
      case measure => simp [intOf]; omega
    · obtain rfl : i = n := by omega
      have hr := htr.done (by rw [HX.out.1]; exact Nat.le_refl _)
      subst hr
      have hm2 : m = f.count := by simpa [Fo.nest] using hm
      clear hm hbo htr hbel
      have HM2 := hid hm2
      clear hm2
      go_wp2
      go_ret
      exact ⟨by rw [← HM2.out]; rfl, BW.out⟩
theorem count_any (f : Fo) : CountSaid 38 f := (Fo.ind count_step f).1

def DepthSaid (g : Nat) (f : Fo) : Prop := ∀ (w : World) (K : Nat → Prop) (A : Option Addr) (n c : Nat), TrS w K A n f → f.count ≤ 4611686018427387904 → Calls Tryz.prog g #[.slice A n c] w fun e w' => e = .returned (.int .i64 (f.depth : Nat)) ∧ Below w.heap.size w w'
set_option maxRecDepth 100000 in
theorem depth_step (f : Fo) (hf : f.Bodies (DepthSaid 39)) : DepthSaid 39 f := by
  intro w K A n c ht hc
  obtain ⟨xs, hx, htr⟩ := ht
  have HX := hid hx
  have HL := hid (show f.len = n by rw [← htr.len, hx.1])
  have HC := hid hc
  have HB := hid hf
  have HT := hid htr
  have hn : (n : Int) ≤ 4611686018427387904 := by have := f.len_le; have := HL.out; omega
  clear hx hc hf htr
  go_enter Tryz.func39, Tryz.ntmps39
  go_wp2
  go_loopw [3, 9] (fun v3 v9 wr => ∃ (i m : Nat) (r : Fo), v3 = .int .i64 (m : Nat) ∧ v9 = .int .i64 (i : Nat) ∧ i ≤ n ∧ max m r.depth = f.depth ∧ r.count ≤ f.count ∧ r.Bodies (DepthSaid 39) ∧ Tr w K r (xs.drop i) ∧ Below w.heap.size w wr) (fun _ v9 _ => n - (intOf v9).toNat)
  case atStart => exact ⟨0, 0, f, rfl, rfl, Nat.zero_le _, by omega, Nat.le_refl _, HB.out, by simpa using HT.out, Below.refl _ _⟩
  case round =>
    obtain ⟨i, m, r, rfl, rfl, hi, hm, hrc, hbo, htr, hbel⟩ := hrel
    have BW := hid hbel
    have HM := hid (And.intro hm hrc)
    by_cases hlt : i < n
    · obtain ⟨wd, ns, bl, y, nx, rfl, _, hbl, _, hy, hnx⟩ := htr.step (by rw [HX.out.1]; exact hlt)
      obtain ⟨b, o, rfl, hb, hcell⟩ := (HX.out.size.below hbel).at_ hlt
      generalize hxe : smS.nth xs i = x at *
      clear hxe
      have r1 : wr.rangeAt b (o + i * 4) (smS.enc x) := hcell
      have HY := hid hbo.1
      have HN := hid (And.intro hbo.2 hnx)
      have HYT := hid hy
      have hyc := hid (show y.count ≤ 4611686018427387904 by have := HC.out; simp only [Fo.count] at hrc; omega)
      have hyd : (y.depth : Int) ≤ 4611686018427387905 := by have := y.depth_le; have := hyc.out; omega
      have hmc : (m : Int) ≤ 4611686018427387905 := by have := f.depth_le; have := HC.out; omega
      clear hcell hbel hm hbo htr hy hnx hb hrc
      obtain ⟨xw, xA, xn, xc, xb, xB, xm, xk⟩ := x
      have hbl : xb = bl := hbl
      subst hbl
      cases xb
      · go_wp2_with (first
          | (go_at_call 39; have h9 := HY.out w3 K xB xm xk (HYT.out.below B3.out) hyc.out; (with_reducible refine h9.mono ?_); rintro e w4 ⟨rfl, b4⟩; have c2 : w4.cell? ⟨wr.heap.size, 2, none⟩ = _ := (b4.cell (p := ⟨wr.heap.size, 2, none⟩) L3.out).trans c2; have B4 := hid (B3.out.trans (b4.mono B3.out.size)); clear b4)
          | (refine Sh.wp_sv smS (x := ⟨xw, xA, xn, xc, false, xB, xm, xk⟩) rfl (.tmp 5) (.tmp 12) rfl rfl (by rfl) q2 ?_; intro w3 q3 b3 o3 s3; have c3 : w3.cell? ⟨wr.heap.size, 3, none⟩ = some (.slice xB xm xk) := q3.cell (j := 3) rfl; have c2 := q3.cell (j := 2) rfl; have L3 := hid q3.lt; have B3 := hid (BW.out.trans ((B2.out.trans (b3.mono (Nat.le_refl _))).mono BW.out.size)); clear q3 b3 o3 s3)
          | (refine Sh.wp_al smS rfl rfl ?_; intro w2 q2 b2 s2; have B2 := hid b2; clear b2 s2)
          | (refine Sh.wp_ld smS rfl (.tmp 11) rfl rfl r1 ?_))
        go_roundw
        case rel =>
          refine ⟨i + 1, max m (1 + max y.depth 0), nx, ?_, by go_num, by omega, ?_, by have := HM.out.2; simp only [Fo.count] at this; omega, HN.out.1, HN.out.2, B4.out⟩
          · congr 1
            first | omega | (rw [wrap64_of (by omega) (by omega)]; omega)
          · have h1 := HM.out.1
            simp only [Fo.depth] at h1
            simp at h1
            omega
        case measure => simp [intOf]; omega
      · go_wp2_with (first
          | (go_at_call 39; have h9 := HY.out w3 K xB xm xk (HYT.out.below B3.out) hyc.out; (with_reducible refine h9.mono ?_); rintro e w4 ⟨rfl, b4⟩; have c2 : w4.cell? ⟨wr.heap.size, 2, none⟩ = _ := (b4.cell (p := ⟨wr.heap.size, 2, none⟩) L3.out).trans c2; have B4 := hid (B3.out.trans (b4.mono B3.out.size)); clear b4)
          | (refine Sh.wp_sv smS (x := ⟨xw, xA, xn, xc, true, xB, xm, xk⟩) rfl (.tmp 5) (.tmp 12) rfl rfl (by rfl) q2 ?_; intro w3 q3 b3 o3 s3; have c3 : w3.cell? ⟨wr.heap.size, 3, none⟩ = some (.slice xB xm xk) := q3.cell (j := 3) rfl; have c2 := q3.cell (j := 2) rfl; have L3 := hid q3.lt; have B3 := hid (BW.out.trans ((B2.out.trans (b3.mono (Nat.le_refl _))).mono BW.out.size)); clear q3 b3 o3 s3)
          | (refine Sh.wp_al smS rfl rfl ?_; intro w2 q2 b2 s2; have B2 := hid b2; clear b2 s2)
          | (refine Sh.wp_ld smS rfl (.tmp 11) rfl rfl r1 ?_))
        go_roundw
        case rel =>
          refine ⟨i + 1, max m (1 + max y.depth 1), nx, ?_, by go_num, by omega, ?_, by have := HM.out.2; simp only [Fo.count] at this; omega, HN.out.1, HN.out.2, B4.out⟩
          · congr 1
            first | omega | (rw [wrap64_of (by omega) (by omega)]; omega)
          · have h1 := HM.out.1
            simp only [Fo.depth] at h1
            simp at h1
            omega
        case measure => simp [intOf]; omega
    · obtain rfl : i = n := by omega
      have hr := htr.done (by rw [HX.out.1]; exact Nat.le_refl _)
      subst hr
      have hm2 : m = f.depth := by simpa [Fo.depth] using hm
      clear hm hbo htr hbel
      have HM2 := hid hm2
      clear hm2
      go_wp2
      go_ret
      exact ⟨by rw [← HM2.out]; rfl, BW.out⟩
theorem depth_any (f : Fo) : DepthSaid 39 f := (Fo.ind depth_step f).1
end Go.Proofs.YtpkoboohnbkpoaaGreatDoor

/-! WR -/
namespace Go.Proofs.YtpkoboohnbkpoaaGreatDoor
open Go Go.ChangeShapes Go.WideShapes Go.ChangeAt Go.RowKit

theorem laidOut : laidOutB Tryz.prog = true := by kernel_rfl
theorem pick {α : Type} [Inhabited α] {n : Nat} {P : Nat → α → Prop} (h : ∀ i, i < n → ∃ x, P i x) : ∃ f : Nat → α, ∀ i, i < n → P i (f i) :=
  ⟨fun i => if h' : i < n then (h i h').choose else default, fun i hi => by simp only [dif_pos hi]; exact (h i hi).choose_spec⟩
instance : Inhabited Sm := ⟨⟨[], none, 0, 0, false, none, 0, 0⟩⟩
section
variable {H : Type} {hv : TypeId × Value → H} {W : World}
theorem trod_lt0 {t : TypeId} {v : Value} {d : DataW H} {p : List MemPlace} (h : DataW.Trod hv Tryz.prog W 0 (fun _ => true) true t v d p) : ∀ x ∈ p, x.block < W.heap.size := by
  obtain ⟨m, hm⟩ := h; exact DataW.trod_lt m _ _ _ hm
theorem row_of {vs : List Value} {A : Addr} (h : ∀ j u, vs[j]? = some u → W.cell? (A.add j) = some u) (h0 : 0 < vs.length) : ∃ b o, A = ⟨b, o, none⟩ ∧ b < W.heap.size ∧ W.rangeAt b o vs := by
  obtain ⟨b, off, spot⟩ := A
  have h0 := h 0 (vs[0]'h0) (List.getElem?_eq_getElem h0)
  have hspot : spot = none := by simpa [Addr.add] using World.cell?_spot h0
  subst hspot
  rw [plain_add] at h0
  exact ⟨b, off, rfl, World.block_lt_of_cell? W _ h0, fun j u hu => by have := h j u hu; rwa [plain_add] at this⟩
/-- Things whose cells lie one behind the other are a row. -/
theorem row_made {α : Type} {σ : Sh Tryz.prog α} {a : Addr} {n : Nat} {f : Nat → α} (h : ∀ i, i < n → ∀ j, j < σ.N → W.cell? (a.add (i * σ.N + j)) = (σ.enc (f i))[j]?) :
    RwP σ W (fun b => b < W.heap.size) (some a) n ((List.range n).map f) := by
  refine ⟨by simp, fun hp => ?_⟩
  have hfl : (σ.flat ((List.range n).map f)).length = n * σ.N := by rw [Sh.flat_len]; simp
  have hN := σ.pos
  obtain ⟨b, o, e, hb, hr⟩ := row_of (W := W) (vs := σ.flat ((List.range n).map f)) (A := a) (fun j u hu => by
    have hj : j < n * σ.N := by have := (List.getElem?_eq_some_iff.1 hu).1; rwa [hfl] at this
    have hd : j / σ.N < n := (Nat.div_lt_iff_lt_mul hN).2 hj
    have hm : j % σ.N < σ.N := Nat.mod_lt _ hN
    have e4 : j / σ.N * σ.N + j % σ.N = j := Nat.div_add_mod' j σ.N
    have h1 := Sh.flat_at σ ((List.range n).map f) (j / σ.N) (j % σ.N) (by simpa using hd) hm
    rw [e4] at h1
    have h2 : σ.nth ((List.range n).map f) (j / σ.N) = f (j / σ.N) := Sh.nth_of σ (by rw [List.getElem?_map, List.getElem?_range hd]; rfl)
    rw [h2, hu] at h1
    have h3 := h (j / σ.N) hd (j % σ.N) hm
    rw [e4, ← h1] at h3
    exact h3) (by rw [hfl]; exact Nat.mul_pos hp hN)
  subst e
  exact ⟨b, o, rfl, hb, hr⟩
set_option maxRecDepth 100000 in
theorem num_of {fuel : Nat} {cs : List Value} {x : DataW H × List MemPlace} (hf : DataW.trod hv Tryz.prog W 0 (fun _ => true) true fuel 57 cs = some x) : ∃ z : Int × Bool, cs = nmS.enc z := by
  obtain ⟨xs, m, _, _, hl, hx, hf⟩ := DataW.trod_struct Tryz.underlying57 hf
  have hl2 : cs.length = 2 := hl.trans (by kernel_rfl)
  have hx2 : xs.length = 2 := hx
  have c2 : Tryz.prog.cellsOf 2 = 1 := by kernel_rfl
  have c4 : Tryz.prog.cellsOf 4 = 1 := by kernel_rfl
  have f0 : DataW.trod hv Tryz.prog W 0 (fun _ => true) true m 2 ((cs.drop 0).take (Tryz.prog.cellsOf 2)) = xs[0]? := hf 0 _ rfl
  have f1 : DataW.trod hv Tryz.prog W 0 (fun _ => true) true m 4 ((cs.drop 1).take (Tryz.prog.cellsOf 4)) = xs[1]? := hf 1 _ rfl
  rw [c2] at f0; rw [c4] at f1
  rw [List.getElem?_eq_getElem (by omega)] at f0 f1
  obtain ⟨z0, e0, _⟩ := DataW.trod_int Tryz.underlying2 f0
  obtain ⟨z1, e1, _⟩ := DataW.trod_bool Tryz.underlying4 f1
  match cs, hl2 with
  | [a0, a1], _ =>
    simp at e0 e1
    exact ⟨(z0, z1), by subst e0 e1; rfl⟩
set_option maxRecDepth 100000 in
theorem nums_came {fuel : Nat} {cs : List Value} {x : DataW H × List MemPlace} (hf : DataW.trod hv Tryz.prog W 0 (fun _ => true) true fuel 34 cs = some x) :
    ∃ A n c ns, cs = [.slice A n c] ∧ RwP nmS W (fun b => b < W.heap.size) A n ns ∧ n ≤ 9223372036854775807 := by
  rcases Deep.open_slice Tryz.underlying34 hf with ⟨hcs, hx⟩ | ⟨a, n, c, m, k, D, Pl, hcs, _, hl, hm, hmm, hx, hi⟩
  · exact ⟨none, 0, 0, [], hcs, RwP.nil, by decide⟩
  · have hC : Tryz.prog.cellsOf 57 = 2 := by kernel_rfl
    simp only [if_true] at hmm
    rw [hmm] at hi
    obtain ⟨f, hf'⟩ := pick (α := Int × Bool) (n := c) (P := fun i z => ∀ j, j < 2 → W.cell? (a.add (i * 2 + j)) = (nmS.enc z)[j]?) (fun i hic => by
      obtain ⟨cs', hcells, ht⟩ := hi i hic
      obtain ⟨z, rfl⟩ := num_of ht
      rw [hC] at hcells
      obtain ⟨_, _, hat⟩ := World.cells?_some hcells
      exact ⟨z, fun j hj => by rw [← Deep.add_add]; exact hat j hj⟩)
    exact ⟨some a, n, c, _, hcs, row_made (σ := nmS) (fun i hi j hj => hf' i (by omega) j hj), by unfold maxLen at hm; omega⟩
def StmAt (W : World) (z : Sm) : Prop := (∃ ns, RwP nmS W (fun b => b < W.heap.size) z.nA z.nn ns) ∧ ∃ y, TrS W (fun b => b < W.heap.size) z.bA z.bn y
theorem tr_made : ∀ xs : List Sm, (∀ z ∈ xs, StmAt W z) → ∃ f, Tr W (fun b => b < W.heap.size) f xs
  | [], _ => ⟨.nil, rfl⟩
  | z :: xs, h => by
    obtain ⟨f, hf⟩ := tr_made xs fun y hy => h y (List.mem_cons_of_mem _ hy)
    obtain ⟨⟨ns, h1⟩, y, h2⟩ := h z (List.mem_cons_self ..)
    exact ⟨.cons z.word ns z.block y f, z, xs, rfl, rfl, rfl, h1, h2, hf⟩
set_option maxRecDepth 100000 in
theorem stmts_came : ∀ (fuel : Nat) {cs : List Value} {x : DataW H × List MemPlace}, DataW.trod hv Tryz.prog W 0 (fun _ => true) true fuel 24 cs = some x →
    ∃ A n c f, cs = [.slice A n c] ∧ TrS W (fun b => b < W.heap.size) A n f ∧ n ≤ 9223372036854775807 := by
  intro fuel
  induction fuel using Nat.strongRecOn with
  | _ fuel ih =>
  intro cs x hf
  rcases DataW.trod_slice Tryz.underlying24 hf with ⟨hcs, hx⟩ | ⟨a, n, c, elems, rest, m, hfu, hcs, _, _, hl, hm, hel, hi, _, _⟩
  · exact ⟨none, 0, 0, .nil, hcs, TrS.nil, by decide⟩
  · have hC : Tryz.prog.cellsOf 36 = 4 := by kernel_rfl
    obtain ⟨f, hf'⟩ := pick (α := Sm) (n := n) (P := fun i z => (∀ j, j < 4 → W.cell? (a.add (i * 4 + j)) = (smS.enc z)[j]?) ∧ StmAt W z) (fun i hic => by
      have hii := hi i hic
      rw [List.getElem?_eq_getElem (by omega)] at hii
      obtain ⟨cs', hcells, ht⟩ := Option.bind_eq_some_iff.1 hii
      rw [hC] at hcells
      obtain ⟨_, _, hat⟩ := World.cells?_some hcells
      obtain ⟨xs, m2, hfu2, _, hl4', hx4', hfl⟩ := DataW.trod_struct Tryz.underlying36 ht
      have hl4 : cs'.length = 4 := hl4'.trans (by kernel_rfl)
      have hx4 : xs.length = 4 := hx4'
      have c9 : Tryz.prog.cellsOf 9 = 1 := by kernel_rfl
      have cN : Tryz.prog.cellsOf 34 = 1 := by kernel_rfl
      have c4 : Tryz.prog.cellsOf 4 = 1 := by kernel_rfl
      have cS : Tryz.prog.cellsOf 24 = 1 := by kernel_rfl
      have f0 : DataW.trod hv Tryz.prog W 0 (fun _ => true) true m2 9 ((cs'.drop 0).take (Tryz.prog.cellsOf 9)) = xs[0]? := hfl 0 _ rfl
      have f1 : DataW.trod hv Tryz.prog W 0 (fun _ => true) true m2 34 ((cs'.drop 1).take (Tryz.prog.cellsOf 34)) = xs[1]? := hfl 1 _ rfl
      have f2 : DataW.trod hv Tryz.prog W 0 (fun _ => true) true m2 4 ((cs'.drop 2).take (Tryz.prog.cellsOf 4)) = xs[2]? := hfl 2 _ rfl
      have f3 : DataW.trod hv Tryz.prog W 0 (fun _ => true) true m2 24 ((cs'.drop 3).take (Tryz.prog.cellsOf 24)) = xs[3]? := hfl 3 _ rfl
      rw [c9] at f0; rw [cN] at f1; rw [c4] at f2; rw [cS] at f3
      rw [List.getElem?_eq_getElem (by omega)] at f0 f1 f2 f3
      obtain ⟨z0, e0, _⟩ := DataW.trod_string Tryz.underlying9 f0
      obtain ⟨A1, n1, c1, ns, e1, hns, _⟩ := nums_came f1
      obtain ⟨z2, e2, _⟩ := DataW.trod_bool Tryz.underlying4 f2
      obtain ⟨A3, n3, c3, y, e3, hy, _⟩ := ih m2 (by omega) f3
      match cs', hl4 with
      | [a0, a1, a2, a3], _ =>
        simp at e0 e1 e2 e3
        refine ⟨⟨z0.data.toList, A1, n1, c1, z2, A3, n3, c3⟩, fun j hj => ?_, ⟨ns, hns⟩, y, hy⟩
        rw [← Deep.add_add, hat j hj]
        subst e0 e1 e2 e3
        show _ = [Value.string (strB z0.data.toList), .slice A1 n1 c1, .bool z2, .slice A3 n3 c3][j]?
        rw [show strB z0.data.toList = z0 from rfl])
    obtain ⟨g, hg⟩ := tr_made (W := W) ((List.range n).map f) (fun z hz => by
      obtain ⟨i, hi2, rfl⟩ := List.mem_map.1 hz
      exact (hf' i (List.mem_range.1 hi2)).2)
    exact ⟨some a, n, c, g, hcs, ⟨_, row_made (σ := smS) (fun i hi j hj => (hf' i hi).1 j hj), hg⟩, by unfold maxLen at hm; omega⟩
theorem came_stmts {A : Option Addr} {n c : Nat} {d : DataW H} {p : List MemPlace} (h : DataW.Trod hv Tryz.prog W 0 (fun _ => true) true 24 (.slice A n c) d p) :
    ∃ f, TrS W (fun b => b < W.heap.size) A n f ∧ n ≤ 9223372036854775807 := by
  obtain ⟨fuel, hf⟩ := h
  obtain ⟨A', n', c', f, e, hr⟩ := stmts_came fuel hf
  have e' : [Value.slice A n c] = [Value.slice A' n' c'] := e
  simp at e'
  obtain ⟨rfl, rfl, rfl⟩ := e'
  exact ⟨f, hr⟩
end
end Go.Proofs.YtpkoboohnbkpoaaGreatDoor

/-! RA -/
namespace Go.Proofs.YtpkoboohnbkpoaaGreatDoor
open Go Go.RowKit Go.Joins

def farB (x : Int × Bool) : Bool := decide (x.1 ≤ -1000000000000000000) || decide (1000000000000000000 ≤ x.1)
def fitB (wd : List UInt8) (ns : List (Int × Bool)) (bl : Bool) (blen : Nat) : Bool := wordB wd && (decide (ns.length ≤ 8) && (!(ns.any farB) && (bl || decide (blen = 0))))
/-- for how many more there is room, behind those that stand here -/
def Fo.roomF : Fo → Int → Int → Int
  | nil, m, _ => m
  | cons wd ns bl y n, m, d => if m < 0 ∨ fitB wd ns bl y.len = false ∨ (bl = true ∧ d = 1) then -1 else n.roomF (y.roomF (m - y.len) (d - 1)) d
theorem roomF_low : ∀ (f : Fo) (m d : Int), m ≤ (f.roomF m d) + f.nest ∨ f.roomF m d = -1 := by
  intro f
  induction f with
  | nil => intro m d; left; simp [Fo.roomF, Fo.nest]
  | cons wd ns bl y n ih1 ih2 =>
    intro m d
    rw [Fo.roomF]
    split
    · exact .inr rfl
    · rename_i h
      have h0 : ¬ m < 0 := fun h2 => h (.inl h2)
      rcases ih2 (y.roomF (m - y.len) (d - 1)) d with h2 | h2
      · rcases ih1 (m - y.len) (d - 1) with h3 | h3
        · left; have := y.count_nest; simp only [Fo.nest]; omega
        · cases n with
          | nil => right; simp only [Fo.roomF]; exact h3
          | cons _ _ _ _ _ => right; rw [Fo.roomF, if_pos (.inl (by omega))]
      · exact .inr h2
theorem roomF_top : ∀ (f : Fo) (m d : Int), f.roomF m d ≤ max m (-1) := by
  intro f
  induction f with
  | nil => intro m d; simp only [Fo.roomF]; omega
  | cons wd ns bl y n ih1 ih2 =>
    intro m d
    rw [Fo.roomF]
    split
    · omega
    · have h2 := ih2 (y.roomF (m - y.len) (d - 1)) d
      have h3 := ih1 (m - y.len) (d - 1)
      omega

/-! ### fits -/
theorem far1_any (g : Int × Bool) (w : World) : Calls Tryz.prog 145 #[.agg #[.int .i64 g.1, .bool g.2]] w fun e w' => e = .returned (.bool (farB g)) ∧ Below w.heap.size w w' := by
  obtain ⟨n, b⟩ := g
  go_enter Tryz.func145, Tryz.ntmps145
  go_wp2
  all_goals (go_ret; exact ⟨ret_bool (by unfold farB; first | (simp [*]; done) | (simp [*]; omega) | (rw [Bool.eq_iff_iff]; simp; omega)), (Below.refl _ _).alloc (Nat.le_refl _) _⟩)

def farFn : Value := .func (.func 145) #[] #[]
set_option maxRecDepth 100000 in
theorem idxN_any (A : Option Addr) (n c : Nat) (ns : List (Int × Bool)) (w : World) (hr : nmS.Rw w w.heap.size A n ns) (hn : n ≤ 9223372036854775807) :
    Calls Tryz.prog 106 #[.slice A n c, .func (.func 145) #[] #[]] w fun e w' => ∃ r : Int, e = .returned (.int .i64 r) ∧ decide (0 ≤ r) = ns.any farB ∧ Below w.heap.size w w' := by
  have HR := hid hr
  have HLN := hid hr.1
  clear hr
  go_enter Tryz.func106, Tryz.ntmps106
  go_wp2
  go_loopw [8] (fun v8 wr => ∃ k : Nat, v8 = .int .i64 (k : Int) ∧ k ≤ n ∧ (ns.take k).any farB = false ∧ Below w.heap.size w wr) (fun v8 _ => n - (intOf v8).toNat)
  case atStart => exact ⟨0, rfl, Nat.zero_le _, rfl, Below.refl _ _⟩
  case round =>
    obtain ⟨k, rfl, hk, hany, hbel⟩ := hrel
    have BW := hid hbel
    have HA := hid hany
    by_cases hlt : k < n
    · obtain ⟨b, o, rfl, _, hc⟩ := (HR.out.below hbel).at_ hlt
      have hg : ns[k]? = some (nmS.nth ns k) := Sh.nth_get nmS (by rw [HLN.out]; exact hlt)
      have HT : Hid (ns.take (k + 1) = ns.take k ++ [nmS.nth ns k]) := hid (by rw [List.take_add_one, hg]; rfl)
      have HIN : Hid (nmS.nth ns k ∈ ns) := hid (List.mem_of_getElem? hg)
      generalize nmS.nth ns k = x at *
      obtain ⟨x1, x2⟩ := x
      have c0 : wr.cell? ⟨b, o + k * 2, none⟩ = some (.int .i64 x1) := hc 0 _ rfl
      have c1 : wr.cell? ⟨b, o + k * 2 + 1, none⟩ = some (.bool x2) := hc 1 _ rfl
      have HF := hid (far1_any (x1, x2) wr)
      clear hc hbel hany hg
      cases hf : farB (x1, x2) with
      | true =>
        rw [hf] at HF
        have HY := hid (show ns.any farB = true from List.any_eq_true.2 ⟨_, HIN.out, hf⟩)
        clear hf
        go_wp2_with (first
          | (go_at_call 145; refine HF.out.mono ?_; rintro e w2 ⟨rfl, b2⟩; have B2 := hid (BW.out.trans (b2.mono BW.out.size)); clear b2))
        go_ret
        exact ⟨k, rfl, by rw [HY.out]; simp, B2.out⟩
      | false =>
        rw [hf] at HF
        have HY := hid (show (ns.take (k + 1)).any farB = false by rw [HT.out, List.any_append, HA.out]; simp [hf])
        clear hf
        go_wp2_with (first
          | (go_at_call 145; refine HF.out.mono ?_; rintro e w2 ⟨rfl, b2⟩; have B2 := hid (BW.out.trans (b2.mono BW.out.size)); clear b2))
        exact ⟨⟨k + 1, by go_num, by omega, HY.out, B2.out⟩, by simp [intOf]; omega⟩
    · obtain rfl : k = n := by omega
      rw [List.take_of_length_le (by rw [HLN.out]; omega)] at hany
      have HY := hid hany
      clear hany hbel HA
      go_wp2
      go_ret
      exact ⟨-1, rfl, by rw [HY.out]; decide, BW.out⟩
theorem containsN_any (A : Option Addr) (n c : Nat) (ns : List (Int × Bool)) (w : World) (hr : nmS.Rw w w.heap.size A n ns) (hn : n ≤ 9223372036854775807) :
    Calls Tryz.prog 62 #[.slice A n c, .func (.func 145) #[] #[]] w fun e w' => e = .returned (.bool (ns.any farB)) ∧ Below w.heap.size w w' := by
  have HI := hid (idxN_any A n c ns w hr hn)
  clear hr
  go_enter Tryz.func62, Tryz.ntmps62
  go_wp2_with (first
    | (go_at_call 106; refine HI.out.mono ?_; rintro e w1 ⟨r, rfl, hr, b1⟩; have HR := hid (And.intro hr b1); clear hr b1))
  go_ret
  exact ⟨ret_bool HR.out.1, HR.out.2⟩

set_option maxHeartbeats 1000000 in
set_option maxRecDepth 100000 in
theorem fits_any (x : Sm) (ns : List (Int × Bool)) (w : World) (hr : nmS.Rw w w.heap.size x.nA x.nn ns) (hn : x.nn ≤ 1000000) (hw : x.word.length ≤ 1000000) (hb : x.bn ≤ 4611686018427387904) :
    Calls Tryz.prog 119 #[smV x] w fun e w' => e = .returned (.bool (fitB x.word ns x.block x.bn)) ∧ Below w.heap.size w w' := by
  obtain ⟨xw, xA, xn, xc, xb, xB, xm, xk⟩ := x
  simp only at hr hn hw hb
  have HR := hid hr
  have HW := hid (fun w1 => by have := word_any (strB xw) w1 (by show xw.length ≤ _; omega); unfold WordPost at this; exact this)
  have hn8 : (decide (ns.length ≤ 8)) = decide ((xn : Int) ≤ 8) := by rw [hr.1]; rw [Bool.eq_iff_iff]; simp; omega
  have hl : (strB xw).data.toList = xw := rfl
  rw [hl] at HW
  unfold fitB
  simp only
  rw [hn8]
  clear hl hn8 hr
  generalize wordB xw = b1 at *
  cases b1 with
  | false =>
    have HFR := hid (Eq.refl 0)
    go_enter Tryz.func119, Tryz.ntmps119
    go_upto_region 2 with (refine Sh.wp_box smS (x := ⟨xw, xA, xn, xc, xb, xB, xm, xk⟩) rfl (.tmp 0) rfl rfl ?_; intro w1 q1 b1 s1; have c0 : w1.cell? ⟨w.heap.size, 0, none⟩ = some (.string (strB xw)) := q1.cell (j := 0) rfl; have V1 := hid q1; have B1 := hid b1; clear q1 b1 s1)
    go_wp2_with (first
      | (go_at_call 62; have h9 := containsN_any xA xn xc ns w2 (HR.out.below B2.out |>.more B2.out.size) (by omega); (try rw [HFR.out] at h9); (with_reducible refine h9.mono ?_); rintro e w3 ⟨rfl, b3⟩; have c2 : w3.cell? ⟨w.heap.size, 2, none⟩ = some (.bool xb) := (b3.cell (p := ⟨w.heap.size, 2, none⟩) L2.out).trans c2; have c3 : w3.cell? ⟨w.heap.size, 3, none⟩ = some (.slice xB xm xk) := (b3.cell (p := ⟨w.heap.size, 3, none⟩) L2.out).trans c3; have B2 := hid (B2.out.trans (b3.mono B2.out.size)); clear b3)
      | (go_at_call 123; refine (HW.out w1).mono ?_; rintro e w2 ⟨rfl, b2⟩; have V2 := hid (V1.out.keep b2); have c1 : w2.cell? ⟨w.heap.size, 1, none⟩ = some (.slice xA xn xc) := V2.out.cell (j := 1) rfl; have c2 : w2.cell? ⟨w.heap.size, 2, none⟩ = some (.bool xb) := V2.out.cell (j := 2) rfl; have c3 : w2.cell? ⟨w.heap.size, 3, none⟩ = some (.slice xB xm xk) := V2.out.cell (j := 3) rfl; have L2 := hid V2.out.lt; have B2 := hid (B1.out.trans (b2.mono B1.out.size)); clear b2))
    go_ret
    exact ⟨rfl, B2.out⟩
  | true =>
    by_cases h8 : (xn : Int) ≤ 8
    · rw [decide_eq_true h8]
      obtain ⟨fr, hfr⟩ : ∃ fr, ns.any farB = fr := ⟨_, rfl⟩
      rw [hfr]
      have HFR := hid hfr
      clear hfr
      cases fr with
      | true =>
        go_enter Tryz.func119, Tryz.ntmps119
        go_upto_region 2 with (refine Sh.wp_box smS (x := ⟨xw, xA, xn, xc, xb, xB, xm, xk⟩) rfl (.tmp 0) rfl rfl ?_; intro w1 q1 b1 s1; have c0 : w1.cell? ⟨w.heap.size, 0, none⟩ = some (.string (strB xw)) := q1.cell (j := 0) rfl; have V1 := hid q1; have B1 := hid b1; clear q1 b1 s1)
        go_wp2_with (first
          | (go_at_call 62; have h9 := containsN_any xA xn xc ns w2 (HR.out.below B2.out |>.more B2.out.size) (by omega); (try rw [HFR.out] at h9); (with_reducible refine h9.mono ?_); rintro e w3 ⟨rfl, b3⟩; have c2 : w3.cell? ⟨w.heap.size, 2, none⟩ = some (.bool xb) := (b3.cell (p := ⟨w.heap.size, 2, none⟩) L2.out).trans c2; have c3 : w3.cell? ⟨w.heap.size, 3, none⟩ = some (.slice xB xm xk) := (b3.cell (p := ⟨w.heap.size, 3, none⟩) L2.out).trans c3; have B2 := hid (B2.out.trans (b3.mono B2.out.size)); clear b3)
          | (go_at_call 123; refine (HW.out w1).mono ?_; rintro e w2 ⟨rfl, b2⟩; have V2 := hid (V1.out.keep b2); have c1 : w2.cell? ⟨w.heap.size, 1, none⟩ = some (.slice xA xn xc) := V2.out.cell (j := 1) rfl; have c2 : w2.cell? ⟨w.heap.size, 2, none⟩ = some (.bool xb) := V2.out.cell (j := 2) rfl; have c3 : w2.cell? ⟨w.heap.size, 3, none⟩ = some (.slice xB xm xk) := V2.out.cell (j := 3) rfl; have L2 := hid V2.out.lt; have B2 := hid (B1.out.trans (b2.mono B1.out.size)); clear b2))
        go_ret
        exact ⟨rfl, B2.out⟩
      | false =>
        cases xb with
        | true =>
          go_enter Tryz.func119, Tryz.ntmps119
          go_upto_region 2 with (refine Sh.wp_box smS (x := ⟨xw, xA, xn, xc, true, xB, xm, xk⟩) rfl (.tmp 0) rfl rfl ?_; intro w1 q1 b1 s1; have c0 : w1.cell? ⟨w.heap.size, 0, none⟩ = some (.string (strB xw)) := q1.cell (j := 0) rfl; have V1 := hid q1; have B1 := hid b1; clear q1 b1 s1)
          go_wp2_with (first
            | (go_at_call 62; have h9 := containsN_any xA xn xc ns w2 (HR.out.below B2.out |>.more B2.out.size) (by omega); (try rw [HFR.out] at h9); (with_reducible refine h9.mono ?_); rintro e w3 ⟨rfl, b3⟩; have c2 : w3.cell? ⟨w.heap.size, 2, none⟩ = some (.bool true) := (b3.cell (p := ⟨w.heap.size, 2, none⟩) L2.out).trans c2; have c3 : w3.cell? ⟨w.heap.size, 3, none⟩ = some (.slice xB xm xk) := (b3.cell (p := ⟨w.heap.size, 3, none⟩) L2.out).trans c3; have B2 := hid (B2.out.trans (b3.mono B2.out.size)); clear b3)
            | (go_at_call 123; refine (HW.out w1).mono ?_; rintro e w2 ⟨rfl, b2⟩; have V2 := hid (V1.out.keep b2); have c1 : w2.cell? ⟨w.heap.size, 1, none⟩ = some (.slice xA xn xc) := V2.out.cell (j := 1) rfl; have c2 : w2.cell? ⟨w.heap.size, 2, none⟩ = some (.bool true) := V2.out.cell (j := 2) rfl; have c3 : w2.cell? ⟨w.heap.size, 3, none⟩ = some (.slice xB xm xk) := V2.out.cell (j := 3) rfl; have L2 := hid V2.out.lt; have B2 := hid (B1.out.trans (b2.mono B1.out.size)); clear b2))
          go_ret
          exact ⟨rfl, B2.out⟩
        | false =>
          by_cases hm : xm = 0
          · subst hm
            go_enter Tryz.func119, Tryz.ntmps119
            go_upto_region 2 with (refine Sh.wp_box smS (x := ⟨xw, xA, xn, xc, false, xB, 0, xk⟩) rfl (.tmp 0) rfl rfl ?_; intro w1 q1 b1 s1; have c0 : w1.cell? ⟨w.heap.size, 0, none⟩ = some (.string (strB xw)) := q1.cell (j := 0) rfl; have V1 := hid q1; have B1 := hid b1; clear q1 b1 s1)
            go_wp2_with (first
              | (go_at_call 62; have h9 := containsN_any xA xn xc ns w2 (HR.out.below B2.out |>.more B2.out.size) (by omega); (try rw [HFR.out] at h9); (with_reducible refine h9.mono ?_); rintro e w3 ⟨rfl, b3⟩; have c2 : w3.cell? ⟨w.heap.size, 2, none⟩ = some (.bool false) := (b3.cell (p := ⟨w.heap.size, 2, none⟩) L2.out).trans c2; have c3 : w3.cell? ⟨w.heap.size, 3, none⟩ = some (.slice xB 0 xk) := (b3.cell (p := ⟨w.heap.size, 3, none⟩) L2.out).trans c3; have B2 := hid (B2.out.trans (b3.mono B2.out.size)); clear b3)
              | (go_at_call 123; refine (HW.out w1).mono ?_; rintro e w2 ⟨rfl, b2⟩; have V2 := hid (V1.out.keep b2); have c1 : w2.cell? ⟨w.heap.size, 1, none⟩ = some (.slice xA xn xc) := V2.out.cell (j := 1) rfl; have c2 : w2.cell? ⟨w.heap.size, 2, none⟩ = some (.bool false) := V2.out.cell (j := 2) rfl; have c3 : w2.cell? ⟨w.heap.size, 3, none⟩ = some (.slice xB 0 xk) := V2.out.cell (j := 3) rfl; have L2 := hid V2.out.lt; have B2 := hid (B1.out.trans (b2.mono B1.out.size)); clear b2))
            go_ret
            exact ⟨rfl, B2.out⟩
          · rw [decide_eq_false hm]
            have hm2 : ((xm : Int) == 0) = false := beq_eq_false_iff_ne.2 (by omega)
            go_enter Tryz.func119, Tryz.ntmps119
            go_upto_region 2 with (refine Sh.wp_box smS (x := ⟨xw, xA, xn, xc, false, xB, xm, xk⟩) rfl (.tmp 0) rfl rfl ?_; intro w1 q1 b1 s1; have c0 : w1.cell? ⟨w.heap.size, 0, none⟩ = some (.string (strB xw)) := q1.cell (j := 0) rfl; have V1 := hid q1; have B1 := hid b1; clear q1 b1 s1)
            go_wp2_with (first
              | (go_at_call 62; have h9 := containsN_any xA xn xc ns w2 (HR.out.below B2.out |>.more B2.out.size) (by omega); (try rw [HFR.out] at h9); (with_reducible refine h9.mono ?_); rintro e w3 ⟨rfl, b3⟩; have c2 : w3.cell? ⟨w.heap.size, 2, none⟩ = some (.bool false) := (b3.cell (p := ⟨w.heap.size, 2, none⟩) L2.out).trans c2; have c3 : w3.cell? ⟨w.heap.size, 3, none⟩ = some (.slice xB xm xk) := (b3.cell (p := ⟨w.heap.size, 3, none⟩) L2.out).trans c3; have B2 := hid (B2.out.trans (b3.mono B2.out.size)); clear b3)
              | (go_at_call 123; refine (HW.out w1).mono ?_; rintro e w2 ⟨rfl, b2⟩; have V2 := hid (V1.out.keep b2); have c1 : w2.cell? ⟨w.heap.size, 1, none⟩ = some (.slice xA xn xc) := V2.out.cell (j := 1) rfl; have c2 : w2.cell? ⟨w.heap.size, 2, none⟩ = some (.bool false) := V2.out.cell (j := 2) rfl; have c3 : w2.cell? ⟨w.heap.size, 3, none⟩ = some (.slice xB xm xk) := V2.out.cell (j := 3) rfl; have L2 := hid V2.out.lt; have B2 := hid (B1.out.trans (b2.mono B1.out.size)); clear b2))
            go_ret
            exact ⟨rfl, B2.out⟩
    · rw [decide_eq_false h8]
      have HFR := hid (Eq.refl 0)
      go_enter Tryz.func119, Tryz.ntmps119
      go_upto_region 2 with (refine Sh.wp_box smS (x := ⟨xw, xA, xn, xc, xb, xB, xm, xk⟩) rfl (.tmp 0) rfl rfl ?_; intro w1 q1 b1 s1; have c0 : w1.cell? ⟨w.heap.size, 0, none⟩ = some (.string (strB xw)) := q1.cell (j := 0) rfl; have V1 := hid q1; have B1 := hid b1; clear q1 b1 s1)
      go_wp2_with (first
        | (go_at_call 62; have h9 := containsN_any xA xn xc ns w2 (HR.out.below B2.out |>.more B2.out.size) (by omega); (try rw [HFR.out] at h9); (with_reducible refine h9.mono ?_); rintro e w3 ⟨rfl, b3⟩; have c2 : w3.cell? ⟨w.heap.size, 2, none⟩ = some (.bool xb) := (b3.cell (p := ⟨w.heap.size, 2, none⟩) L2.out).trans c2; have c3 : w3.cell? ⟨w.heap.size, 3, none⟩ = some (.slice xB xm xk) := (b3.cell (p := ⟨w.heap.size, 3, none⟩) L2.out).trans c3; have B2 := hid (B2.out.trans (b3.mono B2.out.size)); clear b3)
        | (go_at_call 123; refine (HW.out w1).mono ?_; rintro e w2 ⟨rfl, b2⟩; have V2 := hid (V1.out.keep b2); have c1 : w2.cell? ⟨w.heap.size, 1, none⟩ = some (.slice xA xn xc) := V2.out.cell (j := 1) rfl; have c2 : w2.cell? ⟨w.heap.size, 2, none⟩ = some (.bool xb) := V2.out.cell (j := 2) rfl; have c3 : w2.cell? ⟨w.heap.size, 3, none⟩ = some (.slice xB xm xk) := V2.out.cell (j := 3) rfl; have L2 := hid V2.out.lt; have B2 := hid (B1.out.trans (b2.mono B1.out.size)); clear b2))
      go_ret
      exact ⟨rfl, B2.out⟩
end Go.Proofs.YtpkoboohnbkpoaaGreatDoor
