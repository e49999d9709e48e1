/-
  kernel.Check at a queue whose heap reads as a list; what it tells in plain words. What is asked: at most 4096 things, whose numbers are of 64 bits.
-/
import Derived.Test.YtpfidohneddgkaaKC
namespace Go.Proofs.Ytpfidohneddgkaa
open Go Go.RowKit Go.Maps

/-! ### Plain -/
/-- Was the number of the k-th met ahead of it? -/
def cnt (xs : List It) (k : Nat) : Int := if (xs.take k).any (fun y => sq y == sq (nth xs k)) then 1 else 0
/-- No thing of them is wrong. -/
def itemsB (nx nw : Int) (xs : List It) : Bool := (List.range xs.length).all fun k => !badB nx nw (cnt xs k) (nth xs k)
def GoodIt (nx nw : Int) (x : It) : Prop := sq x < nx ∧ fitB x.1 x.2.1 = true ∧ nw ≤ x.1
/-- The queue may be. -/
def okB (nx nw hz : Int) (xs : List It) : Bool := (timeB nw && timeB hz) && (decide (0 ≤ nw) && (decide (nw ≤ hz) && (chk xs && itemsB nx nw xs)))
def okE (nx nw hz : Int) (xs : List It) : Int := if okB nx nw hz xs then 0 else 1

theorem badB_false {nx nw c : Int} {x : It} : badB nx nw c x = false ↔ c ≤ 0 ∧ GoodIt nx nw x := by
  unfold badB GoodIt
  cases fitB x.1 x.2.1 <;> simp <;> omega
theorem cnt_le {xs : List It} {k : Nat} : cnt xs k ≤ 0 ↔ ∀ j, j < k → j < xs.length → sq (nth xs j) ≠ sq (nth xs k) := by
  unfold cnt
  constructor
  · intro h j hj hl e
    have : (xs.take k).any (fun y => sq y == sq (nth xs k)) = true := List.any_eq_true.2 ⟨nth xs j, by
      refine List.mem_of_getElem? (i := j) ?_
      rw [List.getElem?_take_of_lt hj, nth_get hl], by simpa using e⟩
    rw [if_pos this] at h; omega
  · intro h
    by_cases hh : (xs.take k).any (fun y => sq y == sq (nth xs k)) = true
    · obtain ⟨y, hy, e⟩ := List.any_eq_true.1 hh
      obtain ⟨j, hj⟩ := List.mem_iff_getElem?.1 hy
      have hjk : j < k := by
        have := (List.getElem?_eq_some_iff.1 hj).1
        rw [List.length_take] at this; omega
      rw [List.getElem?_take_of_lt hjk] at hj
      have hl := (List.getElem?_eq_some_iff.1 hj).1
      exact absurd (by rw [nth_of hj]; simpa using e) (h j hjk hl)
    · rw [if_neg hh]; omega
theorem itemsB_iff {nx nw : Int} {xs : List It} : itemsB nx nw xs = true ↔ (xs.map sq).Nodup ∧ ∀ x ∈ xs, GoodIt nx nw x := by
  unfold itemsB
  rw [List.all_eq_true]
  constructor
  · intro h
    have h' : ∀ k, k < xs.length → cnt xs k ≤ 0 ∧ GoodIt nx nw (nth xs k) := fun k hk => badB_false.1 (by simpa using h k (List.mem_range.2 hk))
    constructor
    · rw [List.Nodup, List.pairwise_map, List.pairwise_iff_getElem]
      intro i j hi hj hij
      have := cnt_le.1 (h' j hj).1 i hij hi
      rw [nth_of (List.getElem?_eq_getElem hi), nth_of (List.getElem?_eq_getElem hj)] at this
      exact this
    · intro x hx
      obtain ⟨i, hi, rfl⟩ := mem_nth hx
      exact (h' i hi).2
  · rintro ⟨h1, h2⟩ k hk
    have hk := List.mem_range.1 hk
    rw [List.Nodup, List.pairwise_map, List.pairwise_iff_getElem] at h1
    have := badB_false.2 ⟨cnt_le.2 fun j hj hl => by
      rw [nth_of (List.getElem?_eq_getElem hk), nth_of (List.getElem?_eq_getElem hl)]
      exact h1 j k hl hk hj, h2 _ (nth_mem hk)⟩
    rw [this]; rfl
theorem items_perm {nx nw : Int} {xs ys : List It} (h : xs.Perm ys) : itemsB nx nw xs = itemsB nx nw ys := by
  rw [Bool.eq_iff_iff, itemsB_iff, itemsB_iff, (h.map sq).nodup_iff]
  constructor
  · exact fun ⟨a, b⟩ => ⟨a, fun x hx => b x (h.mem_iff.2 hx)⟩
  · exact fun ⟨a, b⟩ => ⟨a, fun x hx => b x (h.mem_iff.1 hx)⟩

/-! ### The walk -/
theorem Row.grown {w w' : World} {B n : Nat} {A : Option Addr} {xs : List It} {row : Option Nat} (h : Row w B A n xs) (hg : w.grownBy w' row) (hr : ∀ k, row = some k → B ≤ k) : Row w' B A n xs :=
  ⟨h.1, fun hn => by
    obtain ⟨b, o, e, hb, hc⟩ := h.2 hn
    exact ⟨b, o, e, hb, fun j u hu => hg.cell (hc j u hu) (fun e => by have := hr b e.symm; omega)⟩⟩
/-- The map knows just the numbers of the first k. -/
def Knows (w : World) (B : Nat) (xs : List It) (k : Nat) : Prop := ∃ D : DataW Unit, Met w B k D ∧ ∀ s : Int, D.atKey (.int .u64 s) (.lit (.int .i64 0)) = .lit (.int .i64 (if (xs.take k).any (fun y => sq y == s) then 1 else 0))
theorem Knows.step {w w' : World} {B k : Nat} {xs : List It} {D : DataW Unit} (hk : k < xs.length) (h : ∀ s : Int, D.atKey (.int .u64 s) (.lit (.int .i64 0)) = .lit (.int .i64 (if (xs.take k).any (fun y => sq y == s) then 1 else 0)))
    (h0 : Met w B k D) (hkey : keyOf Try.prog 23 (.int .u64 (sq (nth xs k))) = some (.int .u64 (sq (nth xs k)))) (h1 : Met w' B (k + 1) (D.put (.int .u64 (sq (nth xs k))) (.lit (.int .i64 (cnt xs k + 1))))) (hc : cnt xs k ≤ 0) : Knows w' B xs (k + 1) := by
  have hz : cnt xs k = 0 := by unfold cnt at hc ⊢; split at hc <;> simp_all
  rw [hz, Int.zero_add] at h1
  refine ⟨_, h1, fun s => ?_⟩
  have et : xs.take (k + 1) = xs.take k ++ [nth xs k] := by rw [List.take_add_one, nth_get hk]; rfl
  by_cases e : s = sq (nth xs k)
  · subst e
    rw [atKey_put_same (World.ownsMap.isMap h0) (key23.key hkey), et]
    simp
  · rw [atKey_put_other (by intro h; injection h with _ h; exact e h), h s, et]
    have : (sq (nth xs k) == s) = false := by simpa using fun h => e h.symm
    rw [List.any_append]
    simp only [List.any_cons, List.any_nil, this, Bool.or_false]

def IdxC (w : World) (B : Nat) (nx nw : Int) (xs : List It) (e : Ending) (w' : World) : Prop := ∃ r : Int, e = .returned (.int .i64 r) ∧ decide (0 ≤ r) = !itemsB nx nw xs ∧ w.grownBy w' (some B)

set_option maxRecDepth 100000 in
set_option maxHeartbeats 1000000 in
theorem cidx_any (A : Option Addr) (n c Bd gm gq B : Nat) (q : Qu) (xs : List It) (w : World) (ha : Row w Bd A n xs) (hB : Bd ≤ B) (hn : n ≤ 4096) (hs : ∀ x ∈ xs, 0 ≤ sq x ∧ sq x ≤ 18446744073709551615)
    (hm : w.cell? ⟨gm, 0, none⟩ = some (.map (some B))) (hq : VarQ w gq q) (h0 : Knows w B xs 0) (hn1 : gm ≠ B) (hn2 : gq ≠ B) :
    Calls Try.prog 59 #[.slice A n c, .func (.func 45) #[] #[.pointer (some ⟨gm, 0, none⟩), .pointer (some ⟨gq, 0, none⟩)]] w (IdxC w B q.nx q.nw xs) := by
  have HA := hid ha
  have HL := hid ha.1
  have HS := hid hs
  have HM := hid hm
  have HQ := hid hq
  have H0 := hid h0
  clear ha hs hm hq h0
  go_enter Try.func59, Try.ntmps59
  go_wp2
  go_loopw [8] (fun t wr => ∃ i : Nat, t = .int .i64 (i : Int) ∧ i ≤ n ∧ w.grownBy wr (some B) ∧ Knows wr B xs i ∧ ∀ j, j < i → badB q.nx q.nw (cnt xs j) (nth xs j) = false) (fun t _ => n - (intOf t).toNat)
  case atStart => exact ⟨0, rfl, by omega, World.grownBy.refl _ _, H0.out, fun j hj => by omega⟩
  case round =>
    obtain ⟨i, rfl, hi, gr, kn, ok⟩ := hrel
    have G1 := hid gr
    have K1 := hid kn
    have OK := hid ok
    clear gr kn ok H0
    by_cases i1 : i < n
    · have HR : Hid (Row wr Bd A n xs) := hid (HA.out.grown G1.out (fun k e => by injection e with e; omega))
      obtain ⟨b, o, rfl, hb, hcc⟩ := HR.out.all (by omega)
      have R1 := hid (hcc i (by omega))
      have i2 : (i : Int) < (n : Int) := by omega
      have il : i < xs.length := by rw [HL.out]; exact i1
      obtain ⟨D, hD1, hD2⟩ := K1.out
      have HX := hid (HS.out _ (nth_mem il))
      have HKey : Hid (keyOf Try.prog 23 (.int .u64 (sq (nth xs i))) = some (.int .u64 (sq (nth xs i)))) := hid (keyOf_int_mk Try.underlying23 (WalkArith.wf_u64 HX.out))
      have TT := hid (check1_any (nth xs i) gm gq B i q D (cnt xs i) wr HX.out (G1.out.cell HM.out (by simpa using hn1)) (HQ.out.grown G1.out (by simpa using hn2)) hD1 (by omega) (hD2 _) (by unfold cnt; split <;> omega) (by unfold cnt; split <;> omega) hn1 hn2)
      have HST := hid (fun w' => Knows.step (w' := w') il hD2 hD1 HKey.out)
      have HNO : Hid (badB q.nx q.nw (cnt xs i) (nth xs i) = true → itemsB q.nx q.nw xs = false) := hid fun h => by
        unfold itemsB; rw [List.all_eq_false]; exact ⟨i, List.mem_range.2 il, by rw [h]; simp⟩
      have HY : Hid (badB q.nx q.nw (cnt xs i) (nth xs i) = false → cnt xs i ≤ 0 ∧ ∀ j, j < i + 1 → badB q.nx q.nw (cnt xs j) (nth xs j) = false) := hid fun h => ⟨(badB_false.1 h).1, fun j hj => by
        by_cases e : j = i
        · subst e; exact h
        · exact OK.out j (by omega)⟩
      clear hcc hD1 hD2 il HKey HX
      generalize badB q.nx q.nw (cnt xs i) (nth xs i) = R at *
      generalize cnt xs i = C at *
      generalize nth xs i = x at *
      cases R
      · have HY1 := hid (HY.out rfl).1
        have HY2 := hid (HY.out rfl).2
        clear HY HNO
        go_wp2_with (first
          | (refine wpList_ld rfl (.tmp 14) rfl rfl R1.out ?_)
          | (go_at_call 45; refine TT.out.mono ?_; rintro e w1 ⟨rfl, gr1, met1⟩))
        go_roundw
        case rel => exact ⟨i + 1, by go_num, by omega, G1.out.trans gr1, HST.out _ met1 HY1.out, HY2.out⟩
        case measure => simp [intOf]; omega
      · have HF := hid (HNO.out rfl)
        clear HNO
        go_wp2_with (first
          | (refine wpList_ld rfl (.tmp 14) rfl rfl R1.out ?_)
          | (go_at_call 45; refine TT.out.mono ?_; rintro e w1 ⟨rfl, gr1, met1⟩))
        go_ret
        exact ⟨(i : Int), rfl, by rw [HF.out]; simp, G1.out.trans gr1⟩
    · have HF : Hid (itemsB q.nx q.nw xs = true) := hid (by
        unfold itemsB; rw [List.all_eq_true]; intro k hk; rw [OK.out k (by have := List.mem_range.1 hk; rw [HL.out] at this; omega)]; rfl)
      go_wp2
      go_ret
      exact ⟨-1, rfl, by rw [HF.out]; decide, G1.out⟩

theorem ccontains_any (A : Option Addr) (n c Bd gm gq B : Nat) (q : Qu) (xs : List It) (r : Bool) (w : World) (ha : Row w Bd A n xs) (hB : Bd ≤ B) (hn : n ≤ 4096) (hs : ∀ x ∈ xs, 0 ≤ sq x ∧ sq x ≤ 18446744073709551615)
    (hm : w.cell? ⟨gm, 0, none⟩ = some (.map (some B))) (hq : VarQ w gq q) (h0 : Knows w B xs 0) (hn1 : gm ≠ B) (hn2 : gq ≠ B) (hr : itemsB q.nx q.nw xs = r) :
    Calls Try.prog 44 #[.slice A n c, .func (.func 45) #[] #[.pointer (some ⟨gm, 0, none⟩), .pointer (some ⟨gq, 0, none⟩)]] w fun e w' => e = .returned (.bool (!r)) ∧ w.grownBy w' (some B) := by
  have HI := hid (cidx_any A n c Bd gm gq B q xs w ha hB hn hs hm hq h0 hn1 hn2)
  have HR := hid hr
  clear ha hs hm hq h0 hr
  go_enter Try.func44, Try.ntmps44
  go_wp2_with fail
  refine HI.out.mono ?_
  rintro e w' ⟨r1, rfl, hr1, gr⟩
  have HQ := hid hr1
  clear hr1
  go_wp2
  go_ret
  exact ⟨ret_bool (by rw [← HR.out, ← HQ.out]), gr⟩

theorem okE_bad {nx nw hz : Int} {xs : List It} (h : okB nx nw hz xs = false) : okE nx nw hz xs = 1 := by unfold okE; rw [h]; rfl
theorem okE_ok {nx nw hz : Int} {xs : List It} (h : okB nx nw hz xs = true) : okE nx nw hz xs = 0 := by unfold okE; rw [h]; rfl

/-- The map is new: it knows nothing. -/
theorem knows_new (w : World) (xs : List It) : Knows (w.alloc (.map #[] 0)) w.heap.size xs 0 :=
  ⟨.map [], World.ownsMap_made w _ _ _, fun s => by simp [DataW.atKey]⟩
theorem Knows.grown {w w' : World} {B k : Nat} {xs : List It} {row : Option Nat} (h : Knows w B xs k) (hg : w.grownBy w' row) (hne : some B ≠ row) : Knows w' B xs k := by
  obtain ⟨D, h1, h2⟩ := h; exact ⟨D, World.ownsMap.kept h1 hg hne, h2⟩
theorem Knows.lt {w : World} {B k : Nat} {xs : List It} (h : Knows w B xs k) : B < w.heap.size := by obtain ⟨D, h1, _⟩ := h; exact World.ownsMap.lt h1
/-- A variable of one cell. -/
def VarM (w : World) (g : Nat) (v : Value) : Prop := w.cell? ⟨g, 0, none⟩ = some v ∧ w.frozen? ⟨g, 0, none⟩ = false
theorem size66 : (Try.prog.info? 66).map (·.size) = some 1 := by kernel_rfl
theorem zero66 (w : World) : (zeroValue 66).run Try.prog w = .ok (.map none) w := by kernel_rfl
section
variable {w : World} {ops : Array Oper} {rest : List Oper} {o : Oper} {a : Act} {Q : Exit → Act → World → Prop}
theorem wpList_mm (hg : o.guard = none) (x : Operand) (ho : o.op = .makeMap 66 (some x)) (k : Int) (hx : a.eval x = .int .i64 k)
    (h : ∀ w', (∀ xs, Knows w' w.heap.size xs 0) → Below w.heap.size w w' → Hid (w'.heap.size = w.heap.size + 1) → wpList Try.prog ops Q rest (a.put o.dst (.map (some w.heap.size))) w') : wpList Try.prog ops Q (o :: rest) a w := by
  refine wpList_plain hg fun K hK => ?_
  have hrun : (Instr.makeMap 66 (some (.int .i64 k))).run Try.prog w = .ok (.map (some w.heap.size)) (w.alloc (.map #[] 0)) := by
    simp [Instr.makeMap, run_underlying Try.underlying66, asInt, asIntOf]
  unfold Oper.wp execOp
  simp only [ho, Option.map_some, hx, Sem.run_bind, hrun, Sem.run_pure, Result.andThen_ok]
  exact hK _ _ (h _ (knows_new w) ((Below.refl _ _).alloc (Nat.le_refl _) _) (hid (by simp)))
theorem wpList_alm (hg : o.guard = none) (ho : o.op = .alloc 66)
    (h : ∀ w', VarM w' w.heap.size (.map none) → Below w.heap.size w w' → Hid (w'.heap.size = w.heap.size + 1) → wpList Try.prog ops Q rest (a.put o.dst (.pointer (some ⟨w.heap.size, 0, none⟩))) w') : wpList Try.prog ops Q (o :: rest) a w := by
  refine wpList_plain hg fun K hK => ?_
  unfold Oper.wp execOp
  simp only [ho, Sem.run_bind, Instr.alloc, zero66, newVar, newRow, run_newObj_alloc, Sem.run_pure, Result.andThen_ok]
  exact hK _ _ (h _ ⟨one_new w (.map none) 66, frozen_of_row _ _ _ _ _ (heap_alloc_new w _)⟩ ((Below.refl _ _).alloc (Nat.le_refl _) _) (hid (by simp)))
theorem wpList_svm (hg : o.guard = none) (x y : Operand) (ho : o.op = .store 66 x y) {g : Nat} {u : Value} {b : Nat} (hx : a.eval x = .pointer (some ⟨g, 0, none⟩)) (hy : a.eval y = .map (some b)) (hv : VarM w g u)
    (h : ∀ w', VarM w' g (.map (some b)) → Below g w w' → Oth g w w' → Hid (w'.heap.size = w.heap.size) → wpList Try.prog ops Q rest (a.put o.dst undef) w') : wpList Try.prog ops Q (o :: rest) a w := by
  refine wpList_plain hg fun K hK => ?_
  have ht : w.there g 0 1 := fun i hi => by
    obtain rfl : i = 0 := by omega
    exact ⟨by rw [show 0 + 0 = 0 from rfl, hv.1]; rfl, hv.2⟩
  have hz := run_storeCells_cells (P := Try.prog) g 0 [.map (some b)] 0 w (fun i hi => by simpa using (ht i (by simpa using hi)).1) (fun i hi => by simpa using (ht i (by simpa using hi)).2) (fun u hu => by simp at hu; rw [hu]; rfl)
  have hs := size66
  unfold Oper.wp execOp
  cases hq : Try.prog.info? 66 with
  | none => simp [hq] at hs
  | some i =>
    have hz1 : i.size = 1 := by simpa [hq] using hs
    simp only [Nat.add_zero] at hz
    have hsv : (storeVar 66 ⟨g, 0, none⟩ (.map (some b))).run Try.prog w = .ok () (w.setCells g 0 [.map (some b)]) := by
      simp [storeVar, sizeOf, typeInfo, hq, Value.cells, hz1, hz]
    simp only [ho, hx, hy, Instr.storeAt, Instr.sureAddr, Sem.run_bind, Sem.run_pure, Result.andThen_ok, hsv]
    refine hK _ _ (h _ ⟨?_, ?_⟩ (setCells_oth g _ _ _).1 (setCells_oth g _ _ _).2 (hid (setCells_size _ _ _ _)))
    · exact World.rangeAt_setCells_same w g 0 [.map (some b)] ht 0 _ rfl
    · exact ((World.there_setCells ht g 0 [.map (some b)]) 0 (by omega)).2
end
theorem VarM.below {w w' : World} {g B : Nat} {v : Value} (h : VarM w g v) (hk : Below B w w') (hb : g < B) : VarM w' g v := ⟨(hk.cell (p := ⟨g, 0, none⟩) hb).trans h.1, (hk.frozen (p := ⟨g, 0, none⟩) hb).trans h.2⟩
theorem VarM.lt {w : World} {g : Nat} {v : Value} (h : VarM w g v) : g < w.heap.size := World.block_lt_of_cell? w _ h.1

set_option maxRecDepth 100000 in
set_option maxHeartbeats 2000000 in
theorem kcheck_any (q : Qu) (B : Nat) (xs : List It) (w : World) (ha : Row w B q.A q.n xs) (hB : B ≤ w.heap.size) (hn : q.n ≤ 4096) (hs : ∀ x ∈ xs, 0 ≤ sq x ∧ sq x ≤ 18446744073709551615) :
    Calls Try.prog 27 #[qv q] w fun e w' => e = .returned (.int .i64 (okE q.nx q.nw q.hz xs)) ∧ Below w.heap.size w w' := by
  have HA := hid ha
  have HS := hid hs
  have HE : Hid (okB q.nx q.nw q.hz xs = ((timeB q.nw && timeB q.hz) && (decide (0 ≤ q.nw) && (decide (q.nw ≤ q.hz) && (chk xs && itemsB q.nx q.nw xs))))) := hid rfl
  obtain ⟨M, hM⟩ : ∃ M, (timeB q.nw && timeB q.hz) = M := ⟨_, rfl⟩
  obtain ⟨I, hI⟩ : ∃ I, itemsB q.nx q.nw xs = I := ⟨_, rfl⟩
  obtain ⟨Ch, hCh⟩ : ∃ Ch, chk xs = Ch := ⟨_, rfl⟩
  rw [hM, hI, hCh] at HE
  have HM := hid hM
  have HI := hid hI
  have HCh := hid hCh
  obtain ⟨A, n, c, nx, nw, hz⟩ := q
  change Hid (Row w B A n xs) at HA
  change n ≤ 4096 at hn
  clear ha hs hM hI hCh
  go_enter Try.func27, Try.ntmps27
  go_wp2_with (first
    | (refine wpList_boxq (q := ⟨A, n, c, nx, nw, hz⟩) rfl (.tmp 0) rfl rfl ?_; intro w1 v1 b1 s1; have c0 : w1.cell? ⟨w.heap.size, 0, none⟩ = some (.slice A n c) := v1.c0; have c2 : w1.cell? ⟨w.heap.size, 2, none⟩ = some (.int .i64 nw) := v1.c2; have c3 : w1.cell? ⟨w.heap.size, 3, none⟩ = some (.int .i64 hz) := v1.c3; have B1 : Hid (Below w.heap.size w w1) := hid b1; have V1 := hid v1)
    | (go_at_call 42; have t2 := two_new w1 (.int .i64 nw) (.int .i64 hz) 2; have b2 := (Below.refl w1.heap.size w1).alloc (Nat.le_refl _) (.cells #[.int .i64 nw, .int .i64 hz] 2); refine (may_2 w1.heap.size 2 nw hz M HM.out _ t2.1 t2.2).mono ?_; rintro e w2 ⟨rfl, rfl⟩; have B2 : Hid (Below w.heap.size w (w1.alloc (.cells #[.int .i64 nw, .int .i64 hz] 2))) := hid (B1.out.trans (b2.mono B1.out.size)); have V2 := hid (V1.out.below b2 V1.out.lt); clear b2 t2 c0 c2 c3 b1 v1; generalize w1.alloc (.cells #[.int .i64 nw, .int .i64 hz] 2) = w2 at *; have c0 : w2.cell? ⟨w.heap.size, 0, none⟩ = some (.slice A n c) := V2.out.c0; have c2 : w2.cell? ⟨w.heap.size, 2, none⟩ = some (.int .i64 nw) := V2.out.c2; have c3 : w2.cell? ⟨w.heap.size, 3, none⟩ = some (.int .i64 hz) := V2.out.c3)
    | (go_at_call 43; refine (check_any A n c B xs w2 (HA.out.below (B2.out.mono hB)) (Nat.le_trans hB B2.out.size) hn).mono ?_; rw [HCh.out]; rintro e w3 ⟨rfl, b3⟩; have B3 : Hid (Below w.heap.size w w3) := hid (B2.out.trans (b3.mono B2.out.size)); have V3 := hid (V2.out.below b3 V2.out.lt); have d0 : w3.cell? ⟨w.heap.size, 0, none⟩ = some (.slice A n c) := V3.out.c0)
    | (refine wpList_mm rfl (.tmp 32) rfl _ rfl ?_; intro w4 k4 b4 _; have B4 : Hid (Below w.heap.size w w4) := hid (B3.out.trans (b4.mono B3.out.size)); have K4 := hid (k4 xs); have V4 := hid (V3.out.below b4 V3.out.lt); have L3 : Hid (w.heap.size < w3.heap.size) := hid V3.out.lt; clear k4)
    | (refine wpList_alm rfl rfl ?_; intro w5 m5 b5 _; have B5 : Hid (Below w.heap.size w w5) := hid (B4.out.trans (b5.mono B4.out.size)); have K5 := hid (K4.out.grown (grown_below (World.grownBy.refl w4 none) b5) (by simp)); have V5 := hid (V4.out.below b5 V4.out.lt); have L4 : Hid (w3.heap.size < w4.heap.size) := hid K4.out.lt)
    | (refine wpList_svm rfl (.tmp 3) (.tmp 33) rfl rfl rfl m5 ?_; intro w6 m6 b6 o6 _; have B6 : Hid (Below w.heap.size w w6) := hid (B5.out.trans (b6.mono B4.out.size)); have K6 := hid (K5.out.grown (row := some w4.heap.size) ⟨b6.os, b6.tape, b6.output, b6.size, fun i hi hne => o6 i (fun e => hne (by rw [e]))⟩ (by have := L4.out; simp; omega)); have V6 := hid (V5.out.below b6 (Nat.lt_trans L3.out L4.out)); have e0 : w6.cell? ⟨w.heap.size, 0, none⟩ = some (.slice A n c) := V6.out.c0)
    | (go_at_call 44; refine (ccontains_any A n c B w4.heap.size w.heap.size w3.heap.size ⟨A, n, c, nx, nw, hz⟩ xs I w6 (HA.out.below (B6.out.mono hB)) (Nat.le_trans hB B3.out.size) hn HS.out m6.1 V6.out K6.out (by have := L4.out; omega) (by have := L3.out; omega) HI.out).mono ?_; rintro e w7 ⟨rfl, g7⟩; have B7 : Hid (Below w.heap.size w w7) := hid (B6.out.grown g7 B6.out.size (fun k e => by injection e with e; rw [← e]; exact B3.out.size))))
  all_goals
    first
      | (go_ret; exact ⟨ret_int (okE_bad (by rw [HE.out]; clear HE HM HI HCh; cases M <;> cases Ch <;> cases I <;> simp_all <;> omega)).symm, B7.out⟩)
      | (go_ret; exact ⟨ret_int (okE_ok (by rw [HE.out]; clear HE HM HI HCh; cases M <;> cases Ch <;> cases I <;> simp_all <;> omega)).symm, B7.out⟩)
      | (go_ret; exact ⟨ret_int (okE_bad (by rw [HE.out]; clear HE HM HI HCh; cases M <;> cases Ch <;> cases I <;> simp_all <;> omega)).symm, B3.out⟩)
      | (go_ret; exact ⟨ret_int (okE_bad (by rw [HE.out]; clear HE HM HI HCh; cases M <;> cases Ch <;> cases I <;> simp_all <;> omega)).symm, B2.out⟩)
end Go.Proofs.Ytpfidohneddgkaa
