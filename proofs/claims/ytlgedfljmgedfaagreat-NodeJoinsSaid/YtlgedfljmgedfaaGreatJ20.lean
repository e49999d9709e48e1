/-
  Texts NW, NA, NB, NC of this seat, as far as they are used.
-/
import Derived.Test.YtlgedfljmgedfaaGreatJ19
import Derived.BigQuiet
namespace Go.Proofs.YtlgedfljmgedfaaGreat
open Go Go.RowKit
open M10 (hid Md encm mv mz Oth range_keep there_keep range_other there_other setCells_oth setCells_size there_set Ty enct tv tz Fr encf fv fz)
open O6 (Oc enco ov oz)
open T9 (sv)
section
variable {w w' : World} {K : Nat → Prop} {base g : Nat} {x : Nd} {m : Md} {l : List Ac} {cs : List Value}
variable {ops : Array Oper} {rest : List Oper} {o : Oper} {a : Act} {Q : Exit → Act → World → Prop}
/-! ### Variables -/
theorem wpList_gbox (ty : TypeId) (cs : List Value) (hg : o.guard = none) (y : Operand) (ho : o.op = .box ty y) (hx : (a.eval y).cells = cs.toArray)
    (h : ∀ w', Var w' w.heap.size cs → Below w.heap.size w w' → Hid (w'.heap.size = w.heap.size + 1) → wpList Tryz.prog ops Q rest (a.put o.dst (.pointer (some ⟨w.heap.size, 0, none⟩))) w') : wpList Tryz.prog ops Q (o :: rest) a w := by
  refine wpList_plain hg fun K hK => ?_
  unfold Oper.wp execOp
  simp only [ho, Sem.run_bind, Instr.box, newVar, newRow, run_newObj_alloc, Sem.run_pure, Result.andThen_ok]
  refine hK _ _ (h _ ?_ ((Below.refl _ _).alloc (Nat.le_refl _) _) (hid (by simp)))
  rw [hx]; exact var_new w cs ty
theorem wpList_galloc (ty : TypeId) (cs : List Value) (hz : ∀ w, (zeroValue ty).run Tryz.prog w = .ok (.agg cs.toArray) w) (hg : o.guard = none) (ho : o.op = .alloc ty)
    (h : ∀ w', Var w' w.heap.size cs → Below w.heap.size w w' → Hid (w'.heap.size = w.heap.size + 1) → wpList Tryz.prog ops Q rest (a.put o.dst (.pointer (some ⟨w.heap.size, 0, none⟩))) w') : wpList Tryz.prog ops Q (o :: rest) a w := by
  refine wpList_plain hg fun K hK => ?_
  unfold Oper.wp execOp
  simp only [ho, Sem.run_bind, Instr.alloc, hz, newVar, newRow, run_newObj_alloc, Sem.run_pure, Result.andThen_ok]
  exact hK _ _ (h _ (var_new w cs ty) ((Below.refl _ _).alloc (Nat.le_refl _) _) (hid (by simp)))
theorem wpList_galloc1 (ty : TypeId) (v : Value) (hz : ∀ w, (zeroValue ty).run Tryz.prog w = .ok v w) (hc : v.cells = #[v]) (hg : o.guard = none) (ho : o.op = .alloc ty)
    (h : ∀ w', Var w' w.heap.size [v] → Below w.heap.size w w' → Hid (w'.heap.size = w.heap.size + 1) → wpList Tryz.prog ops Q rest (a.put o.dst (.pointer (some ⟨w.heap.size, 0, none⟩))) w') : wpList Tryz.prog ops Q (o :: rest) a w := by
  refine wpList_plain hg fun K hK => ?_
  unfold Oper.wp execOp
  simp only [ho, Sem.run_bind, Instr.alloc, hz, hc, newVar, newRow, run_newObj_alloc, Sem.run_pure, Result.andThen_ok]
  exact hK _ _ (h _ (var_new w [v] ty) ((Below.refl _ _).alloc (Nat.le_refl _) _) (hid (by simp)))
/-- A struct loaded, from wherever it lies. -/
theorem wpList_gld (ty : TypeId) (cs : List Value) (y : Operand) (ho : o.op = .load ty y) {b off : Nat} (hx : a.eval y = .pointer (some ⟨b, off, none⟩)) (hv : w.rangeAt b off cs) {d : TypeDesc} (hu : Tryz.prog.underlying ty = some d) (hd : d.isRow = true) (hs : (Tryz.prog.info? ty).map (·.size) = some cs.length)
    (hw : Region.wanted o (yielded ops a.tmps) = true) (h : wpList Tryz.prog ops Q rest (a.put o.dst (.agg cs.toArray)) w) : wpList Tryz.prog ops Q (o :: rest) a w :=
  wpList_step fun _ hK => by rw [if_pos hw]; exact wp_load_mid ty y ho b off hx cs d hv hu hd hs (hK _ _ h)
/-- An oscillator, a schedule, a tally, a frame, a node, an act loaded. -/
theorem wpList_lo {z : Oc} (y : Operand) (ho : o.op = .load 26 y) {b off : Nat} (hx : a.eval y = .pointer (some ⟨b, off, none⟩)) (hv : w.rangeAt b off (enco z)) (hw : Region.wanted o (yielded ops a.tmps) = true)
    (h : wpList Tryz.prog ops Q rest (a.put o.dst (ov z)) w) : wpList Tryz.prog ops Q (o :: rest) a w := wpList_gld 26 (enco z) y ho hx hv Tryz.underlying26 rfl (by rw [size26]; rfl) hw h
theorem wpList_lm {z : Md} (y : Operand) (ho : o.op = .load 23 y) {b off : Nat} (hx : a.eval y = .pointer (some ⟨b, off, none⟩)) (hv : w.rangeAt b off (encm z)) (hw : Region.wanted o (yielded ops a.tmps) = true)
    (h : wpList Tryz.prog ops Q rest (a.put o.dst (mv z)) w) : wpList Tryz.prog ops Q (o :: rest) a w := wpList_gld 23 (encm z) y ho hx hv Tryz.underlying23 rfl (by rw [size23]; rfl) hw h
theorem wpList_lt {z : Ty} (y : Operand) (ho : o.op = .load 29 y) {b off : Nat} (hx : a.eval y = .pointer (some ⟨b, off, none⟩)) (hv : w.rangeAt b off (enct z)) (hw : Region.wanted o (yielded ops a.tmps) = true)
    (h : wpList Tryz.prog ops Q rest (a.put o.dst (tv z)) w) : wpList Tryz.prog ops Q (o :: rest) a w := wpList_gld 29 (enct z) y ho hx hv Tryz.underlying29 rfl (by rw [size29]; rfl) hw h
theorem wpList_lf {z : Fr} (y : Operand) (ho : o.op = .load 54 y) {b off : Nat} (hx : a.eval y = .pointer (some ⟨b, off, none⟩)) (hv : w.rangeAt b off (encf z)) (hw : Region.wanted o (yielded ops a.tmps) = true)
    (h : wpList Tryz.prog ops Q rest (a.put o.dst (fv z)) w) : wpList Tryz.prog ops Q (o :: rest) a w := wpList_gld 54 (encf z) y ho hx hv Tryz.underlying54 rfl (by rw [size54]; rfl) hw h
theorem wpList_ln {z : Nd} {A : Option Addr} {n c : Nat} (y : Operand) (ho : o.op = .load 32 y) {b off : Nat} (hx : a.eval y = .pointer (some ⟨b, off, none⟩)) (hv : w.rangeAt b off (encn z A n c)) (hw : Region.wanted o (yielded ops a.tmps) = true)
    (h : wpList Tryz.prog ops Q rest (a.put o.dst (nv z A n c)) w) : wpList Tryz.prog ops Q (o :: rest) a w := wpList_gld 32 (encn z A n c) y ho hx hv Tryz.underlying32 rfl (by rw [size32]; rfl) hw h
theorem wpList_la {z : Ac} (y : Operand) (ho : o.op = .load 66 y) {b off : Nat} (hx : a.eval y = .pointer (some ⟨b, off, none⟩)) (hv : w.rangeAt b off (enca z)) (hw : Region.wanted o (yielded ops a.tmps) = true)
    (h : wpList Tryz.prog ops Q rest (a.put o.dst (av z)) w) : wpList Tryz.prog ops Q (o :: rest) a w := wpList_gld 66 (enca z) y ho hx hv Tryz.underlying66 rfl (by rw [size66]; rfl) hw h
/-- Cells of a variable stored. -/
theorem wpList_gst (ty : TypeId) (vs : List Value) (hg : o.guard = none) (y z : Operand) (ho : o.op = .store ty y z) {off : Nat} (hx : a.eval y = .pointer (some ⟨g, off, none⟩)) (hy : a.eval z = .agg vs.toArray) (hv : Var w g cs) (hn : off + vs.length ≤ cs.length) (hs : (Tryz.prog.info? ty).map (·.size) = some vs.length) (h1 : ∀ u ∈ vs, u.oneCell' = true)
    (h : ∀ w', Var w' g (setv cs off vs) → Below g w w' → Oth g w w' → Hid (w'.heap.size = w.heap.size) → wpList Tryz.prog ops Q rest (a.put o.dst undef) w') : wpList Tryz.prog ops Q (o :: rest) a w :=
  wpList_store_mid hg ty y z ho g off vs.toArray hx hy (hv.there (by simpa using hn)) (by simpa using hs) (all_oneCell_toArray h1) (h _ (hv.set off vs hn) (setCells_oth g _ _ _).1 (setCells_oth g _ _ _).2 (hid (setCells_size _ _ _ _)))
theorem run_store1 (ty : TypeId) (g k : Nat) (v : Value) (w : World) (hs : (Tryz.prog.info? ty).map (·.size) = some 1) (hc : v.cells = #[v]) (h1 : v.oneCell' = true) (ht : w.there g k 1) : (Instr.storeAt ty (.pointer (some ⟨g, k, none⟩)) v).run Tryz.prog w = .ok () (w.setCells g k [v]) := by
  have := run_storeCells_cells (P := Tryz.prog) g k [v] 0 w (fun i hi => by simpa using (ht i (by simpa using hi)).1) (fun i hi => by simpa using (ht i (by simpa using hi)).2) (fun u hu => by simp at hu; rw [hu]; exact h1)
  cases hq : Tryz.prog.info? ty with
  | none => simp [hq] at hs
  | some i =>
    have hz : i.size = 1 := by simpa [hq] using hs
    simp only [Nat.add_zero] at this
    simp [Instr.storeAt, Instr.sureAddr, storeVar, sizeOf, typeInfo, hq, hc, hz, this]
theorem wpList_gst1 (ty : TypeId) (v : Value) (hg : o.guard = none) (y z : Operand) (ho : o.op = .store ty y z) {off : Nat} (hx : a.eval y = .pointer (some ⟨g, off, none⟩)) (hy : a.eval z = v) (hv : Var w g cs) (hn : off < cs.length) (hs : (Tryz.prog.info? ty).map (·.size) = some 1) (hc : v.cells = #[v]) (h1 : v.oneCell' = true)
    (h : ∀ w', Var w' g (setv cs off [v]) → Below g w w' → Oth g w w' → Hid (w'.heap.size = w.heap.size) → wpList Tryz.prog ops Q rest (a.put o.dst undef) w') : wpList Tryz.prog ops Q (o :: rest) a w := by
  refine wpList_plain hg fun K hK => ?_
  have := run_store1 ty g off v w hs hc h1 (hv.there (by omega))
  unfold Oper.wp execOp
  simp only [ho, hx, hy, Sem.run_bind, Sem.run_pure, Result.andThen_ok, this]
  exact hK _ _ (h _ (hv.set off [v] (by simp; omega)) (setCells_oth g _ _ _).1 (setCells_oth g _ _ _).2 (hid (setCells_size _ _ _ _)))
/-- A cell of a variable loaded. -/
theorem run_load1 (ty : TypeId) (p : Addr) (v : Value) (w : World) (ha : (isAgg ty).run Tryz.prog w = .ok false w) (hc : w.cell? p = some v) : (Instr.loadAt ty (.pointer (some p))).run Tryz.prog w = .ok v w := by
  simp [Instr.loadAt, Instr.sureAddr, loadVar, ha, hc]
/-! ### A node at work -/
theorem wpList_ws1 (y : Nd) (off : Nat) (v : Value) (ty : TypeId) (hg : o.guard = none) (p z : Operand) (ho : o.op = .store ty p z) (hx : a.eval p = .pointer (some ⟨g, off, none⟩)) (hy : a.eval z = v) (hv : Wk w K base g x m l) (hs : (Tryz.prog.info? ty).map (·.size) = some 1) (hc : v.cells = #[v]) (h1 : v.oneCell' = true)
    (hd : y.dv = x.dv) (he : ∀ A n c B k d, encw y A n c m B k d = setv (encw x A n c m B k d) off [v]) (hn : off < 20)
    (h : ∀ w', Wk w' K base g y m l → Kept K w w' → wpList Tryz.prog ops Q rest (a.put o.dst undef) w') : wpList Tryz.prog ops Q (o :: rest) a w := by
  refine wpList_plain hg fun K' hK => ?_
  have ht : w.there g off 1 := by
    obtain ⟨A, n, c, B, k, d, h1, _⟩ := hv
    exact h1.there (by show off + 1 ≤ 20; omega)
  have := run_store1 ty g off v w hs hc h1 ht
  obtain ⟨r1, r2⟩ := hv.set y off [v] hd he (by simp; omega)
  unfold Oper.wp execOp
  simp only [ho, hx, hy, Sem.run_bind, Sem.run_pure, Result.andThen_ok, this]
  exact hK _ _ (h _ r1 r2)
theorem wpList_wsn (y : Nd) (off : Nat) (vs : List Value) (ty : TypeId) (hg : o.guard = none) (p z : Operand) (ho : o.op = .store ty p z) (hx : a.eval p = .pointer (some ⟨g, off, none⟩)) (hy : a.eval z = .agg vs.toArray) (hv : Wk w K base g x m l) (hs : (Tryz.prog.info? ty).map (·.size) = some vs.length) (h1 : ∀ u ∈ vs, u.oneCell' = true)
    (hd : y.dv = x.dv) (he : ∀ A n c B k d, encw y A n c m B k d = setv (encw x A n c m B k d) off vs) (hn : off + vs.length ≤ 20)
    (h : ∀ w', Wk w' K base g y m l → Kept K w w' → wpList Tryz.prog ops Q rest (a.put o.dst undef) w') : wpList Tryz.prog ops Q (o :: rest) a w := by
  have ht : w.there g off vs.toArray.size := by
    obtain ⟨A, n, c, B, k, d, h1, _⟩ := hv
    exact h1.there (by show off + vs.toArray.size ≤ 20; simpa using hn)
  obtain ⟨r1, r2⟩ := hv.set y off vs hd he hn
  exact wpList_store_mid hg ty p z ho g off vs.toArray hx hy ht (by simpa using hs) (all_oneCell_toArray h1) (h _ r1 r2)
/-! ### Append -/
/-- A slice literal of one act, of one number. -/
theorem wpList_bsA (y : Operand) (ho : o.op = .buildSlice 37 1 #[(0, y)]) (hw : Region.wanted o (yielded ops a.tmps) = true) {x : Ac} (hx : a.eval y = av x)
    (h : wpList Tryz.prog ops Q rest (a.put o.dst (.slice (some ⟨w.heap.size, 0, none⟩) 1 1)) (w.alloc (.cells (enca x).toArray 66))) : wpList Tryz.prog ops Q (o :: rest) a w := by
  refine wpList_step fun _ hK => ?_
  rw [if_pos hw]
  unfold av enca at hx
  unfold enca at h
  unfold Oper.wp execOp
  simp only [ho, List.map_toArray, List.map_cons, List.map_nil, hx]
  simp [go_sem]
  exact hK _ _ h
theorem wpList_bsI (y : Operand) (ho : o.op = .buildSlice 30 1 #[(0, y)]) (hw : Region.wanted o (yielded ops a.tmps) = true) {v : Int} (hx : a.eval y = .int .i64 v)
    (h : wpList Tryz.prog ops Q rest (a.put o.dst (.slice (some ⟨w.heap.size, 0, none⟩) 1 1)) (w.alloc (.cells #[.int .i64 v] 2))) : wpList Tryz.prog ops Q (o :: rest) a w := by
  refine wpList_step fun _ hK => ?_
  rw [if_pos hw]
  unfold Oper.wp execOp
  simp only [ho, List.map_toArray, List.map_cons, List.map_nil, hx]
  simp [go_sem]
  exact hK _ _ h
/-- append of one onto a slice of the call's own. -/
theorem wpList_gpush (T e : TypeId) (size bytes : Nat) (z : Value) (cs : List Value) (ht : Tryz.prog.underlying T = some (.slice e)) (hi : (Tryz.prog.info? e).map (fun i => (i.zero, i.size, i.bytes)) = some (some z, size, bytes)) (hz : z.cells.size = size) (hs0 : 0 < size) (hb0 : bytes ≤ 1000) (hcs : cs.length = size) (h1 : ∀ u ∈ cs, u.oneCell' = true)
    (hgd : o.guard = none) (s y : Operand) (ho : o.op = .call { callee := .builtin .append, args := #[s, y], argTypes := #[T, T] }) {base n c : Nat} {A : Option Addr} {vs : List Value} (hs : a.eval s = .slice A n c) (hown : OwnR w base e size A n c vs)
    (hx : a.eval y = .slice (some ⟨w.heap.size, 0, none⟩) 1 1) (hn : n ≤ 100000) (hbase : base ≤ w.heap.size)
    (h : ∀ A' c' w', OwnR w' base e size A' (n + 1) c' (vs ++ cs) → w.grownBy w' (ob A) → (ob A' = ob A ∨ ob A' = some (w.heap.size + 1)) → wpList Tryz.prog ops Q rest (a.put o.dst (.slice A' (n + 1) c')) w') :
    wpList Tryz.prog ops Q (o :: rest) a (w.alloc (.cells cs.toArray e)) := by
  refine wpList_plain hgd fun _ hK => ?_
  obtain ⟨i, hi0, hi1, hi2, hi3⟩ := info_parts hi
  have hmul : (n + 1) * bytes ≤ 140737488355328 := by
    have : (n + 1) * bytes ≤ 100001 * 1000 := Nat.mul_le_mul (by omega) hb0
    omega
  obtain ⟨v', w', hrun, h2, h3, _, h5⟩ := run_append_own_at (P := Tryz.prog) (w.alloc (.cells cs.toArray e)) base T o.type e i z size bytes ht hi0 hi1 hi2 hi3 hz hs0 (.slice A n c) n vs (hown.alloc _) ⟨w.heap.size, 0, none⟩ 1 1 cs (by omega)
    (fun j u hu => by
      rw [T9.plain_add]
      have := (var_new w cs e).1 j u hu
      exact this)
    h1 (by unfold maxLen; omega) hmul (by simp; omega)
  have hsz : (w.alloc (.cells cs.toArray e)).heap.size = w.heap.size + 1 := by simp
  rw [ob_of] at h3 h5
  have hg : w.grownBy w' (ob A) := ⟨h3.os, h3.tape, h3.output, by have := h3.size; rw [hsz] at this; omega, fun k hk hne => (h3.block k (by rw [hsz]; omega) hne).trans (Below.heap_alloc _ _ _ hk)⟩
  have hfin : ∃ A' c', v' = .slice A' (n + 1) c' := by
    rcases h2.2 with ⟨rfl, h0⟩ | ⟨g, cap, cur, rfl, r⟩
    · omega
    · exact ⟨_, _, rfl⟩
  obtain ⟨A', c', rfl⟩ := hfin
  rw [ob_of, hsz] at h5
  unfold Oper.wp execOp
  simp only [ho, resolve, invoke, builtin, Sem.run_bind, Sem.run_pure, Result.andThen_ok, List.map_toArray, List.map_cons, List.map_nil, hs, hx, hrun]
  exact hK _ _ (h A' c' w' h2 hg h5)
theorem wpList_pushA (hgd : o.guard = none) (s y : Operand) (ho : o.op = .call { callee := .builtin .append, args := #[s, y], argTypes := #[37, 37] }) {n c : Nat} {A : Option Addr} {l : List Ac} {v : Ac} (hs : a.eval s = .slice A n c) (hown : OwnR w base 66 8 A n c (flat l))
    (hx : a.eval y = .slice (some ⟨w.heap.size, 0, none⟩) 1 1) (hn : n ≤ 100000) (hbase : base ≤ w.heap.size)
    (h : ∀ A' c' w', OwnR w' base 66 8 A' (n + 1) c' (flat (l ++ [v])) → w.grownBy w' (ob A) → (ob A' = ob A ∨ ob A' = some (w.heap.size + 1)) → wpList Tryz.prog ops Q rest (a.put o.dst (.slice A' (n + 1) c')) w') :
    wpList Tryz.prog ops Q (o :: rest) a (w.alloc (.cells (enca v).toArray 66)) :=
  wpList_gpush 37 66 8 64 (av az) (enca v) Tryz.underlying37 info66 rfl (by omega) (by omega) rfl (enca_one v) hgd s y ho hs hown hx hn hbase fun A' c' w' h1 h2 h3 => h A' c' w' ((show flat l ++ enca v = flat (l ++ [v]) by rw [flat_app]; simp [flat]) ▸ h1) h2 h3
theorem wpList_pushI (hgd : o.guard = none) (s y : Operand) (ho : o.op = .call { callee := .builtin .append, args := #[s, y], argTypes := #[30, 30] }) {n c : Nat} {A : Option Addr} {l : List Int} {v : Int} (hs : a.eval s = .slice A n c) (hown : OwnR w base 2 1 A n c (sv l))
    (hx : a.eval y = .slice (some ⟨w.heap.size, 0, none⟩) 1 1) (hn : n ≤ 100000) (hbase : base ≤ w.heap.size)
    (h : ∀ A' c' w', OwnR w' base 2 1 A' (n + 1) c' (sv (l ++ [v])) → w.grownBy w' (ob A) → (ob A' = ob A ∨ ob A' = some (w.heap.size + 1)) → wpList Tryz.prog ops Q rest (a.put o.dst (.slice A' (n + 1) c')) w') :
    wpList Tryz.prog ops Q (o :: rest) a (w.alloc (.cells #[.int .i64 v] 2)) :=
  wpList_gpush 30 2 1 8 (.int .i64 0) [.int .i64 v] Tryz.underlying30 T9.info2 rfl (by omega) (by omega) rfl (by intro u hu; simp at hu; subst hu; rfl) hgd s y ho hs hown hx hn hbase fun A' c' w' h1 h2 h3 => h A' c' w' ((show sv l ++ [.int .i64 v] = sv (l ++ [v]) by simp [sv]) ▸ h1) h2 h3
end
end Go.Proofs.YtlgedfljmgedfaaGreat
namespace Go.Proofs.YtlgedfljmgedfaaGreat
open Go Go.RowKit
open M10 (hid Md encm mv mz Oth range_keep there_keep range_other there_other setCells_oth setCells_size there_set Ty enct tv tz Fr encf fv fz)
open O6 (Oc enco ov oz)
open T9 (sv)
/-- What a method of a node at work leaves. -/
def RetW (K : Nat → Prop) (base g : Nat) (y : Nd) (m : Md) (l : List Ac) (v : Value) (w : World) (e : Ending) (w' : World) : Prop := e = .returned v ∧ Wk w' K base g y m l ∧ Kept K w w'
/-- An act more, the list stored. -/
theorem pushed {K : Nat → Prop} {base g : Nat} {x : Nd} {m : Md} {l : List Ac} {A B B' : Option Addr} {n c k d d' : Nat} {v : Ac} {w w2 w3 : World}
    (h1 : Var w g (encw x A n c m B k d)) (h2 : OwnR w base 2 1 A n c (sv x.dv)) (h4 : base ≤ g) (h5 : ¬ K g) (h6 : ∀ b, ob A = some b → ¬ K b ∧ b ≠ g ∧ ob B ≠ some b) (h7 : ∀ b, ob B = some b → ¬ K b ∧ b ≠ g) (h8 : ∀ b, K b → b < w.heap.size) (_h9 : base ≤ w.heap.size)
    (o2 : OwnR w2 base 66 8 B' (k + 1) d' (flat (l ++ [v]))) (g2 : w.grownBy w2 (ob B)) (e2 : ob B' = ob B ∨ ob B' = some (w.heap.size + 1))
    (v3 : Var w3 g (setv (encw x A n c m B k d) 19 [.slice B' (k + 1) d'])) (b3 : Below g w2 w3) (t3 : Oth g w2 w3) (s3 : w3.heap.size = w2.heap.size) : Wk w3 K base g x m (l ++ [v]) ∧ Kept K w w3 := by
  have hgs := h1.lt (by show 0 < 20; omega)
  have hB : ∀ b, ob B' = some b → ¬ K b ∧ b ≠ g := fun b hb => by
    rcases e2 with e | e
    · exact h7 b (e ▸ hb)
    · have : b = w.heap.size + 1 := by rw [e] at hb; injection hb with hb; exact hb.symm
      exact ⟨fun hk => by have := h8 b hk; omega, by omega⟩
  have hne : ∀ b, K b → some b ≠ ob B := fun b hb e => (h7 b e.symm).1 hb
  refine ⟨⟨A, n, c, B', k + 1, d', v3, ?_, o2.oth t3 (fun e => (hB g e).2 rfl), h4, h5, fun b hb => ⟨(h6 b hb).1, (h6 b hb).2.1, fun e => ?_⟩, hB, fun b hb => ?_, ?_⟩, ?_⟩
  · refine (h2.kept g2 ?_).oth t3 (fun e => (h6 g e).2.1 rfl)
    cases hA : ob A with
    | none => exact .inl rfl
    | some b => exact .inr fun e => (h6 b hA).2.2 e.symm
  · rcases e2 with e' | e'
    · exact (h6 b hb).2.2 (e' ▸ e)
    · have : b = w.heap.size + 1 := by rw [e'] at e; injection e with e; exact e.symm
      have := (h2.lt hb).2
      omega
  · have := h8 b hb; have := g2.size; omega
  · have := g2.size; omega
  · exact (Kept.grown g2 h8 hne).trans (Kept.oth b3 t3 h5)
set_option maxRecDepth 100000 in
theorem note_any (K : Nat → Prop) (base g : Nat) (x : Nd) (m : Md) (l : List Ac) (k b : Int) (w : World) (h : Wk w K base g x m l) (hl : l.length ≤ 1000) :
    Calls Tryz.prog 72 #[.pointer (some ⟨g, 0, none⟩), .int .i64 k, .int .i64 b] w (RetW K base g x m (l ++ [note k b]) (.tuple #[]) w) := by
  obtain ⟨A, n, c, B, kk, d, h1, h2, h3, h4, h5, h6, h7, h8, h9⟩ := h
  have hk : kk ≤ 1000 := by have := h3.len; rw [flat_len] at this; omega
  have hgs := h1.lt (by show 0 < 20; omega)
  have c19 : w.cell? ⟨g, 19, none⟩ = some (.slice B kk d) := h1.cell rfl
  have H1 := hid h1
  have H3 := hid h3
  clear h1 h3
  go_enter Tryz.func72, Tryz.ntmps72
  go_wp2_with (first
    | (refine wpList_gst1 37 (.slice B' (kk + 1) d') rfl (.tmp 17) (.tmp 15) rfl rfl rfl V2.out (by show 19 < 20; omega) (by kernel_rfl) rfl rfl ?_; intro w3 v3 b3 t3 s3)
    | (refine wpList_pushA rfl (.tmp 10) (.tmp 14) rfl rfl H3.out rfl (by omega) h9 ?_; intro B' d' w2 o2 g2 e2; have V2 : Hid (Var w2 g (encw x A n c m B kk d)) := hid (H1.out.same (g2.block g hgs (fun e => (h7 g e.symm).2 rfl))); clear c19)
    | (refine wpList_bsA (x := note k b) (.tmp 13) rfl rfl rfl ?_))
  first | go_end0 | refine bodyPost_ret (results_none rfl _ _ _) rfl ?_
  exact ⟨rfl, pushed H1.out h2 h4 h5 h6 h7 h8 h9 o2 g2 e2 v3 b3 t3 s3.out⟩
end Go.Proofs.YtlgedfljmgedfaaGreat
namespace Go.Proofs.YtlgedfljmgedfaaGreat
open Go Go.RowKit
open M10 (hid Md encm mv mz Oth range_keep there_keep range_other there_other setCells_oth setCells_size there_set Ty enct tv tz Fr encf fv fz)
open O6 (Oc enco ov oz)
open T9 (sv)
section
variable {w : World} {K : Nat → Prop} {base g : Nat} {x : Nd} {m : Md} {l : List Ac}
/-! ### In a quiet region -/
theorem wpQuiet_gld (ty : TypeId) (cs : List Value) {ops : Array Oper} {Q : Act → Prop} {o : Oper} {rest : List Oper} {a : Act} {y : Operand} {b off : Nat} (hw : Region.wanted o (yielded ops a.tmps) = true) (ho : o.op = .load ty y)
    (hx : a.eval y = .pointer (some ⟨b, off, none⟩)) (hr : w.rangeAt b off cs) {d : TypeDesc} (hu : Tryz.prog.underlying ty = some d) (hd : d.isRow = true) (hs : (Tryz.prog.info? ty).map (·.size) = some cs.length)
    (h : wpQuiet Tryz.prog ops (fun w' => ∃ p : Regrown, w' = Sort.grow (redrawn w p.d) p.os) Q rest (a.put o.dst (.agg cs.toArray))) : wpQuiet Tryz.prog ops (fun w' => ∃ p : Regrown, w' = Sort.grow (redrawn w p.d) p.os) Q (o :: rest) a := by
  unfold wpQuiet
  rw [if_pos hw]
  refine ⟨.agg cs.toArray, fun w' hw' => ?_, h⟩
  unfold Oper.quietAt
  have hr' : w'.rangeAt b off cs := fun j v hv => by obtain ⟨p, rfl⟩ := hw'; exact cell_regrown (hr j v hv) p.d p.os
  have : (execOp a.eval o).run Tryz.prog w' = .ok (.value (.agg cs.toArray)) w' := by
    unfold execOp
    have := run_loadAt_mid w' b off ty cs d hr' hu hd hs
    simp only [ho, hx, Sem.run_bind, Sem.run_pure, Result.andThen_ok, this]
  rw [this]
  exact ⟨rfl, rfl⟩
theorem wpQuiet_gl1 (ty : TypeId) {ops : Array Oper} {Q : Act → Prop} {o : Oper} {rest : List Oper} {a : Act} {y : Operand} {p : Addr} {v : Value} (hw : Region.wanted o (yielded ops a.tmps) = true) (ho : o.op = .load ty y)
    (hx : a.eval y = .pointer (some p)) (ha : ∀ w, (isAgg ty).run Tryz.prog w = .ok false w) (hr : w.cell? p = some v) (h : wpQuiet Tryz.prog ops (fun w' => ∃ p : Regrown, w' = Sort.grow (redrawn w p.d) p.os) Q rest (a.put o.dst v)) : wpQuiet Tryz.prog ops (fun w' => ∃ p : Regrown, w' = Sort.grow (redrawn w p.d) p.os) Q (o :: rest) a := by
  unfold wpQuiet
  rw [if_pos hw]
  refine ⟨v, fun w' hw' => ?_, h⟩
  unfold Oper.quietAt
  have hc : w'.cell? p = some v := by obtain ⟨q, rfl⟩ := hw'; exact cell_regrown hr q.d q.os
  have : (execOp a.eval o).run Tryz.prog w' = .ok (.value v) w' := by
    unfold execOp
    simp only [ho, hx, Sem.run_bind, Sem.run_pure, Result.andThen_ok, run_load1 ty p v w' (ha w') hc]
  rw [this]
  exact ⟨rfl, rfl⟩
/-- The three structs of a node at work, and its numbers. -/
theorem wpQuiet_wm {ops : Array Oper} {Q : Act → Prop} {o : Oper} {rest : List Oper} {a : Act} {y : Operand} (hw : Region.wanted o (yielded ops a.tmps) = true) (ho : o.op = .load 23 y) (hx : a.eval y = .pointer (some ⟨g, 14, none⟩)) (hv : Wk w K base g x m l)
    (h : wpQuiet Tryz.prog ops (fun w' => ∃ p : Regrown, w' = Sort.grow (redrawn w p.d) p.os) Q rest (a.put o.dst (mv m))) : wpQuiet Tryz.prog ops (fun w' => ∃ p : Regrown, w' = Sort.grow (redrawn w p.d) p.os) Q (o :: rest) a :=
  wpQuiet_gld 23 (encm m) hw ho hx hv.md Tryz.underlying23 rfl (by rw [size23]; rfl) h
theorem wpQuiet_wo {ops : Array Oper} {Q : Act → Prop} {o : Oper} {rest : List Oper} {a : Act} {y : Operand} (hw : Region.wanted o (yielded ops a.tmps) = true) (ho : o.op = .load 26 y) (hx : a.eval y = .pointer (some ⟨g, 4, none⟩)) (hv : Wk w K base g x m l)
    (h : wpQuiet Tryz.prog ops (fun w' => ∃ p : Regrown, w' = Sort.grow (redrawn w p.d) p.os) Q rest (a.put o.dst (ov x.o))) : wpQuiet Tryz.prog ops (fun w' => ∃ p : Regrown, w' = Sort.grow (redrawn w p.d) p.os) Q (o :: rest) a :=
  wpQuiet_gld 26 (enco x.o) hw ho hx hv.osc Tryz.underlying26 rfl (by rw [size26]; rfl) h
theorem own_okm {y : Md} (k : Int) (w : World) (hm : M10.Ok y) (hk : 0 ≤ k) (hk2 : k ≤ 4294967296) : Calls Tryz.prog 25 #[mv y, .int .u64 k] w fun r w' => r = .returned (.tuple #[.int .i64 (k % y.n), .int .i64 0]) ∧ Below w.heap.size w w' := by
  obtain ⟨n, s, ll, f, d⟩ := y
  exact M10.own_ok n s ll f d k _ w hm hk hk2 rfl
end
set_option maxRecDepth 100000 in
theorem owner_w (K : Nat → Prop) (base g : Nat) (x : Nd) (m : Md) (l : List Ac) (w : World) (h : Wk w K base g x m l) (hm : M10.Ok m) (h0 : 0 ≤ x.sl) (h1 : x.sl ≤ 4294967296) :
    Calls Tryz.prog 39 #[.pointer (some ⟨g, 0, none⟩)] w fun e w' => e = .returned (.int .i64 (x.sl % m.n)) ∧ Below w.heap.size w w' := by
  have V := hid h
  have c2 : Hid (w.cell? ⟨g, 2, none⟩ = some (.int .u64 x.sl)) := hid (h.cell fun _ _ _ _ _ _ => rfl)
  have T0 := hid (fun (d : Nat) (os : Array Obj) => Calls.regrown_of (d := d) (os := os) (own_okm x.sl (Sort.grow (redrawn w d) os) hm h0 h1))
  generalize x.sl % m.n = O at *
  clear h hm h0 h1
  generalize hs : x.sl = s at *
  clear hs
  go_enter Tryz.func39, Tryz.ntmps39
  go_wp2_with fail
  refine wp_region_quiet_below (by kernel_rfl) (by kernel_rfl) ?_
  repeat (first | refine wpQuiet_wm rfl rfl rfl V.out ?_ | refine wpQuiet_gl1 24 rfl rfl rfl Tryz.isAgg24 c2.out ?_ | quiet_step (with_reducible exact T0.out _ _))
  refine wpQuiet_nil ?_
  intro _ hw'
  obtain ⟨⟨dq, osq⟩, hw''⟩ := hw'
  subst hw''
  go_wp2
  go_ret
  exact ⟨rfl, below_regrown _ dq osq⟩
set_option maxRecDepth 100000 in
theorem length_w (K : Nat → Prop) (base g : Nat) (x : Nd) (m : Md) (l : List Ac) (w : World) (h : Wk w K base g x m l) (T : Int) (hT : m.s + x.co = T) (T0 : -9223372036854775808 ≤ T) (T1 : T ≤ 9223372036854775807) :
    Calls Tryz.prog 78 #[.pointer (some ⟨g, 0, none⟩)] w fun e w' => e = .returned (.int .i64 T) ∧ Below w.heap.size w w' := by
  have c7 : Hid (w.cell? ⟨g, 7, none⟩ = some (.int .i64 x.co)) := hid (h.cell fun _ _ _ _ _ _ => rfl)
  have c15 : Hid (w.cell? ⟨g, 15, none⟩ = some (.int .i64 m.s)) := hid (h.cell fun _ _ _ _ _ _ => rfl)
  have hW : IntKind.i64.wrap (m.s + x.co) = T := by rw [hT, IntKind.wrap_i64]; omega
  clear h hT
  generalize m.s = s at *
  generalize x.co = c at *
  go_enter Tryz.func78, Tryz.ntmps78
  go_wp2_with fail
  refine wp_region_quiet_below (by kernel_rfl) (by kernel_rfl) ?_
  repeat (first | refine wpQuiet_gl1 2 rfl rfl rfl Tryz.isAgg2 c7.out ?_ | refine wpQuiet_gl1 2 rfl rfl rfl Tryz.isAgg2 c15.out ?_ | quiet_step (fail))
  refine wpQuiet_nil ?_
  intro _ hw'
  obtain ⟨⟨dq, osq⟩, hw''⟩ := hw'
  subst hw''
  go_wp2
  go_ret
  exact ⟨rfl, below_regrown _ dq osq⟩
end Go.Proofs.YtlgedfljmgedfaaGreat
namespace Go.Proofs.YtlgedfljmgedfaaGreat
open Go Go.RowKit
open M10 (hid Md encm mv mz Oth range_keep there_keep range_other there_other setCells_oth setCells_size there_set Ty enct tv tz Fr encf fv fz)
open O6 (Oc enco ov oz)
open T9 (sv)
theorem zero26 (w : World) : (zeroValue 26).run Tryz.prog w = .ok (ov oz) w := by kernel_rfl
theorem results_1o1 {w : World} {g : Nat} {fn : Func} {p q r : Tmp} {y : Oc} (h : fn.results = #[.tmp q, .cell p 26, .tmp r]) (tmps : Array Value) (hp : tmps.getD p undef = .pointer (some ⟨g, 0, none⟩)) (hx : w.rangeAt g 0 (enco y)) :
    (results fn tmps).run Tryz.prog w = .ok (.tuple #[tmps.getD q undef, ov y, tmps.getD r undef]) w := by
  have := run_loadVar_mid (P := Tryz.prog) w g 0 26 (enco y) _ hx Tryz.underlying26 rfl (by rw [size26]; rfl)
  have hp' : tmps[p]?.getD undef = .pointer (some ⟨g, 0, none⟩) := by simpa using hp
  simp only [results, h]
  simp [Result.andThen, hp', this, asAddr, ov]
set_option maxRecDepth 100000 in
set_option maxHeartbeats 1000000 in
theorem time_w (K : Nat → Prop) (base g : Nat) (x : Nd) (m : Md) (l : List Ac) (n ps T E p d r : Int) (w : World) (h : Wk w K base g x m l)
    (HR : ∀ w : World, Calls Tryz.prog 91 #[ov x.o, .int .i64 n] w fun e w' => e = .returned (.tuple #[.int .i64 ps, ov ⟨p, d, r⟩, .int .i64 0]) ∧ Below w.heap.size w w')
    (HA : ∀ w : World, Calls Tryz.prog 124 #[.int .i64 x.st, .int .i64 ps] w fun e w' => e = .returned (.tuple #[.int .i64 T, .int .i64 E]) ∧ Below w.heap.size w w') :
    Calls Tryz.prog 79 #[.pointer (some ⟨g, 0, none⟩), .int .i64 n] w fun e w' => e = .returned (.tuple #[.int .i64 T, ov ⟨p, d, r⟩, .int .i64 E]) ∧ Below w.heap.size w w' := by
  have V := hid h
  have HR := hid HR
  have HA := hid HA
  have hgl : g < w.heap.size := by obtain ⟨A, n, c, B, k, d, h1, _⟩ := h; exact h1.lt (by show 0 < 20; omega)
  clear h
  go_enter Tryz.func79, Tryz.ntmps79
  go_wp2_with (first
    | (go_at_call 124; (with_reducible refine (HA.out w4).mono ?_); rintro e w5 ⟨rfl, b5⟩)
    | (refine wpList_gst 26 (enco ⟨p, d, r⟩) rfl (.tmp 8) (.tmp 21) rfl rfl rfl v3 (by show 0 + 3 ≤ 3; omega) (by rw [size26]; rfl) (O6.enco_one _) ?_; intro w4 v4 b4 o4 s4; have c3 : w4.cell? ⟨g, 3, none⟩ = some (.int .i64 x.st) := Wk.cell (V.out.below (B3.out.trans (b4.mono B2.out.size))) fun _ _ _ _ _ _ => rfl)
    | (refine wpList_galloc 26 (enco oz) zero26 rfl rfl ?_; intro w3 v3 b3 s3; have B3 : Hid (Below w.heap.size w w3) := hid (B2.out.trans (b3.mono B2.out.size)))
    | (go_at_call 91; (with_reducible refine (HR.out w1).mono ?_); rintro e w2 ⟨rfl, b2⟩; have B2 : Hid (Below w.heap.size w w2) := hid (B1.out.trans (b2.mono B1.out.size)))
    | (refine wpList_lo (.tmp 16) rfl rfl (Wk.osc (V.out.below B1.out)) rfl ?_)
    | (refine wpList_galloc 26 (enco oz) zero26 rfl rfl ?_; intro w1 v1 b1 s1; have B1 : Hid (Below w.heap.size w w1) := hid b1))
  have v5 : Var w5 w2.heap.size (enco ⟨p, d, r⟩) := v4.below b5 (by have := v3.lt (by show 0 < 3; omega); rw [s4.out]; exact this)
  have u5 : Var w5 w.heap.size (enco oz) := (((v1.below b2 (v1.lt (by show 0 < 3; omega))).below b3 (by have := B2.out.size; have := b2.size; have := v1.lt (by show 0 < 3; omega); omega)).below b4 (by have := b2.size; have := v1.lt (by show 0 < 3; omega); omega)).below b5 (by have := b2.size; have := v1.lt (by show 0 < 3; omega); have := b3.size; rw [s4.out]; omega)
  have ne : w.heap.size ≠ w2.heap.size := by have := b2.size; have := v1.lt (by show 0 < 3; omega); omega
  have ne' : w2.heap.size ≠ w.heap.size := Ne.symm ne
  have B5 : Hid (Below w.heap.size w w5) := hid ((B3.out.trans (b4.mono B2.out.size)).trans (b5.mono (by rw [s4.out]; exact B3.out.size)))
  have l0 : w5.cell? ⟨w2.heap.size, 0, none⟩ = some (.int .i64 p) := v5.cell rfl
  have l1 : w5.cell? ⟨w2.heap.size, 1, none⟩ = some (.int .i64 d) := v5.cell rfl
  have l2 : w5.cell? ⟨w2.heap.size, 2, none⟩ = some (.int .i64 r) := v5.cell rfl
  have t0 : w5.cell? ⟨w.heap.size, 0, none⟩ = some (.int .i64 0) := u5.cell rfl
  have t1 : w5.cell? ⟨w.heap.size, 1, none⟩ = some (.int .i64 0) := u5.cell rfl
  have t2 : w5.cell? ⟨w.heap.size, 2, none⟩ = some (.int .i64 0) := u5.cell rfl
  have f0 := u5.frozen (k := 0) (by show 0 < 3; omega)
  have f1 := u5.frozen (k := 1) (by show 1 < 3; omega)
  have f2 := u5.frozen (k := 2) (by show 2 < 3; omega)
  have U5 := hid u5
  clear v5 u5 v1 b1 s1 B1 b2 B2 v3 b3 s3 B3 v4 b4 o4 s4 c3 b5 HR HA V hgl
  go_region_held3 (fun w' => w'.cell? ⟨w2.heap.size, 0, none⟩ = some (.int .i64 p) ∧ w'.cell? ⟨w2.heap.size, 1, none⟩ = some (.int .i64 d) ∧ w'.cell? ⟨w2.heap.size, 2, none⟩ = some (.int .i64 r)) (go_keep) (fail)
  go_wp2_with fail
  have hv := U5.out.set 0 (enco ⟨p, d, r⟩) (by show 0 + 3 ≤ 3; omega)
  refine bodyPost_ret (results_1o1 (y := ⟨p, d, r⟩) (g := w.heap.size) Tryz.results79 _ rfl ?_) rfl ⟨rfl, ?_⟩
  · exact hv.1
  · exact (B5.out.trans ((setCells_oth w.heap.size (enco ⟨p, d, r⟩) 0 w5).1)).drew
set_option maxRecDepth 100000 in
set_option maxHeartbeats 1000000 in
theorem timer_w (K : Nat → Prop) (base g : Nat) (x : Nd) (m : Md) (l : List Ac) (n T E : Int) (z : Oc) (w : World) (h : Wk w K base g x m l) (hl : l.length ≤ 1000)
    (HT : ∀ w : World, Wk w K base g x m l → Calls Tryz.prog 79 #[.pointer (some ⟨g, 0, none⟩), .int .i64 n] w fun e w' => e = .returned (.tuple #[.int .i64 T, ov z, .int .i64 E]) ∧ Below w.heap.size w w') :
    Calls Tryz.prog 73 #[.pointer (some ⟨g, 0, none⟩), .int .i64 n] w (RetW K base g x m (l ++ [timr T]) (.int .i64 E) w) := by
  have V := hid h
  have HT := hid (HT w h)
  clear h
  go_enter Tryz.func73, Tryz.ntmps73
  go_wp2_with (first
    | (refine wpList_gst1 37 (.slice B' (kk + 1) d') rfl (.tmp 25) (.tmp 23) rfl rfl rfl V5.out (by show 19 < 20; omega) (by kernel_rfl) rfl rfl ?_; intro w6 v6 b6 t6 s6)
    | (refine wpList_pushA rfl (.tmp 19) (.tmp 22) rfl rfl H3.out rfl (by omega) h9 ?_; intro B' d' w5 o5 g5 e5; have V5 : Hid (Var w5 g (encw x A n' c m B kk d)) := hid (H1.out.same (g5.block g hgs (fun e => (h7 g e.symm).2 rfl))); clear c19)
    | (refine wpList_bsA (x := timr T) (.tmp 21) rfl rfl rfl ?_)
    | (refine wpList_gst 26 (enco z) rfl (.tmp 6) (.tmp 13) rfl rfl rfl v3 (by show 0 + 3 ≤ 3; omega) size26 (O6.enco_one _) ?_; intro w4 v4 b4 o4 s4; have B4 : Hid (Below w.heap.size w w4) := hid ((b2.trans (b3.mono b2.size)).trans (b4.mono b2.size)); have W4 := hid (V.out.below B4.out); have KK := hid (V.out.keptb B4.out); obtain ⟨A, n', c, B, kk, d, h1, h2, h3, h4, h5, h6, h7, h8, h9⟩ := W4.out; have hk : kk ≤ 1000 := (by have := h3.len; rw [flat_len] at this; omega); have hgs := h1.lt (Nat.zero_lt_succ 19); have c19 : w4.cell? ⟨g, 19, none⟩ = some (.slice B kk d) := h1.cell rfl; have H1 := hid h1; have H3 := hid h3; clear h1 h3 v3 v4 b4 o4 s4 b2 b3 s3)
    | (refine wpList_galloc 26 (enco oz) zero26 rfl rfl ?_; intro w3 v3 b3 s3)
    | (go_at_call 79; (with_reducible refine (HT.out).mono ?_); rintro e w2 ⟨rfl, b2⟩))

  go_ret
  obtain ⟨r1, r2⟩ := pushed H1.out h2 h4 h5 h6 h7 h8 h9 o5 g5 e5 v6 b6 t6 s6.out
  exact ⟨rfl, r1, KK.out.trans r2⟩
end Go.Proofs.YtlgedfljmgedfaaGreat
