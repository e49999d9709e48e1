/-
  Two things are the same; the document's own Sorted, Same, Find: what they answer at slices that read as lists. What is asked: lengths that fit.
-/
import Derived.Test.YtpfidohneddgkaaK
import Derived.Laws.StructEq
namespace Go.Proofs.Ytpfidohneddgkaa
open Go Go.RowKit
theorem fo24 : Try.prog.underlying 36 = some (.struct (Try.prog.fieldsOf 36)) := by kernel_rfl
theorem si24 : Try.prog.stoodInHeld 36 = false := by kernel_rfl
theorem eg24 : Try.prog.eqGuardType Try.prog.depth 36 = false := by kernel_rfl
theorem eqIn (x y : It) (w : World) : (Op.equalIn 10000 36 (itv x) (itv y)).run Try.prog w = .ok (decide (x = y)) w := by
  obtain ⟨x1, x2, x3, x4, x5, x6⟩ := x
  obtain ⟨y1, y2, y3, y4, y5, y6⟩ := y
  unfold itv enc
  rw [run_equalIn_agg w 9999 36 _ _ fo24 si24]
  simp [go_sem]
  by_cases h1 : x1 = y1 <;> by_cases h2 : x2 = y2 <;> by_cases h3 : x3 = y3 <;> by_cases h4 : x4 = y4 <;> by_cases h5 : x5 = y5 <;> by_cases h6 : x6 = y6 <;> simp [h1, h2, h3, h4, h5, h6]
theorem eqItv (x y : It) (w : World) : (binOp .eql 36 (itv x) (itv y)).run Try.prog w = .ok (.bool (decide (x = y))) w := by
  have := eqIn x y w
  unfold itv at this ⊢
  rw [run_eql_struct, this]; rfl
theorem neItv (x y : It) (w : World) : (binOp .neq 36 (itv x) (itv y)).run Try.prog w = .ok (.bool (!decide (x = y))) w := by
  have := eqIn x y w
  unfold itv at this ⊢
  rw [run_neq_struct, this]; rfl
theorem guItv (op : BinOp) (a b : Operand) (x y : It) (w : World) : (eqGuard op 36 a b (itv x) (itv y)).run Try.prog w = .ok () w := run_eqGuard_agg w op 36 a b _ _ eg24

def SortRel (w : World) (xs : List It) (n : Nat) (t8 t3 : Value) (wr : World) : Prop :=
  ∃ (i : Nat) (A : Option Addr) (c : Nat), t8 = .int .i64 (i : Int) ∧ t3 = .slice A i c ∧ i ≤ n ∧ Own wr w.heap.size A i c ((xs.take i).foldl put []) ∧ Below w.heap.size w wr
theorem fold_next {xs : List It} {i : Nat} (h : i < xs.length) : (xs.take (i + 1)).foldl put [] = put ((xs.take i).foldl put []) (nth xs i) := by
  have : xs.take (i + 1) = xs.take i ++ [nth xs i] := by
    rw [List.take_add_one, nth_get h]; rfl
  rw [this, List.foldl_append]; rfl
set_option maxHeartbeats 1000000 in
theorem refsorted_any (A : Option Addr) (n c B : Nat) (xs : List It) (w : World) (ha : Row w B A n xs) (hB : B ≤ w.heap.size) (hn : n ≤ 10000) :
    Calls Try.prog 36 #[.slice A n c] w (RetS w.heap.size n (· = srt xs) w) := by
  have HA := hid ha
  have HL := hid ha.1
  clear ha
  go_enter Try.func36, Try.ntmps36
  go_wp2
  go_loopw [8, 3] (SortRel w xs n) (fun t _ _ => n - (intOf t).toNat)
  case atStart => exact ⟨0, none, 0, rfl, rfl, by omega, Own.nil _ _, Below.refl _ _⟩
  case round =>
    obtain ⟨i, A1, c1, rfl, rfl, hi, own, bel⟩ := hrel
    have OW := hid own
    have BW := hid bel
    clear own bel
    by_cases hlt : i < n
    · have HRR : Hid (Row wr B A n xs) := hid (HA.out.below (BW.out.mono hB))
      obtain ⟨b, o, rfl, hb, hc⟩ := HRR.out.all (by omega)
      have r1 := hid (hc i hlt)
      have i1 : (i : Int) < (n : Int) := by omega
      have HF := hid (fold_next (xs := xs) (i := i) (by rw [HL.out]; exact hlt))
      generalize nth xs i = x at *
      generalize (xs.take i).foldl put [] = l at *
      clear hc
      go_wp2_with (first
        | (refine wpList_ld rfl (.tmp 10) rfl rfl r1.out ?_)
        | (refine wpList_sv rfl (.tmp 5) (.tmp 11) rfl rfl rfl (there_new wr zr) ?_; intro w1 r2 bel1 _; replace bel1 := ((Below.refl wr.heap.size wr).alloc (Nat.le_refl _) _).trans bel1)
        | (refine wpList_ld rfl (.tmp 5) rfl rfl r2 ?_)
        | (go_at_call 35; refine (put_any A1 i c1 w1.heap.size l x w1 (OW.out.below bel1).row OW.out.cap (Nat.le_refl _) (by omega)).mono ?_; rintro e w2 ⟨A2, c2, l2, rfl, rfl, own2, bel2⟩))
      have B1 : Below w.heap.size w w1 := BW.out.trans (bel1.mono BW.out.size)
      go_roundw
      case rel => exact ⟨i + 1, A2, c2, by go_num, rfl, by omega, by rw [HF.out]; exact own2.base_le B1.size, B1.trans (bel2.mono B1.size)⟩
      case measure => simp [intOf]; omega
    · obtain rfl : i = n := by omega
      have HE : Hid ((xs.take i).foldl put [] = srt xs) := hid (by rw [List.take_of_length_le (by rw [HL.out]; exact Nat.le_refl _)]; rfl)
      go_wp2
      go_ret
      exact ⟨A1, c1, _, rfl, HE.out, OW.out, BW.out⟩
theorem ext_nth {a b : List It} (hl : a.length = b.length) (h : ∀ j, j < a.length → nth a j = nth b j) : a = b := by
  refine List.ext_getElem? fun j => ?_
  by_cases hj : j < a.length
  · rw [nth_get hj, nth_get (by omega), h j hj]
  · rw [List.getElem?_eq_none (by omega), List.getElem?_eq_none (by omega)]
set_option maxHeartbeats 1000000 in
theorem same_any (A A2 : Option Addr) (n c m c2 B B2 : Nat) (a b : List It) (r : Bool) (w : World) (ha : Row w B A n a) (hb : Row w B2 A2 m b) (hB : B ≤ w.heap.size) (hB2 : B2 ≤ w.heap.size) (hn : n ≤ 1000000000) (hm : m ≤ 1000000000) (hr : decide (a = b) = r) :
    Calls Try.prog 24 #[.slice A n c, .slice A2 m c2] w fun e w' => e = .returned (.bool r) ∧ Below w.heap.size w w' := by
  have HA := hid ha
  have HB := hid hb
  have HR := hid hr
  have LA := hid ha.1
  have LB := hid hb.1
  clear ha hb hr
  by_cases hnm : n = m
  · subst hnm
    go_enter Try.func24, Try.ntmps24
    go_wp2
    go_loopw [13] (fun t wr => ∃ i : Nat, t = .int .i64 (i : Int) ∧ i ≤ n ∧ (∀ j, j < i → nth a j = nth b j) ∧ Below w.heap.size w wr) (fun t _ => n - (intOf t).toNat)
    case atStart => exact ⟨0, rfl, by omega, fun j hj => absurd hj (by omega), Below.refl _ _⟩
    case round =>
      obtain ⟨i, rfl, hi, hj, bel⟩ := hrel
      have HJ := hid hj
      have BW := hid bel
      clear hj bel
      by_cases hlt : i < n
      · have RA : Hid (Row wr B A n a) := hid (HA.out.below (BW.out.mono hB))
        have RB : Hid (Row wr B2 A2 n b) := hid (HB.out.below (BW.out.mono hB2))
        obtain ⟨b1, o1, rfl, _, hc1⟩ := RA.out.all (by omega)
        obtain ⟨b2, o2, rfl, _, hc2⟩ := RB.out.all (by omega)
        have r1 := hid (hc1 i hlt)
        have r2 := hid (hc2 i hlt)
        have HY : Hid (decide (nth a i = nth b i) = true → ∀ j, j < i + 1 → nth a j = nth b j) := hid fun h j hj => by
          by_cases e : j = i
          · subst e; simpa using h
          · exact HJ.out j (by omega)
        have HN : Hid (decide (nth a i = nth b i) = false → r = false) := hid fun h => by
          rw [← HR.out, decide_eq_false_iff_not]
          rintro rfl
          simp at h
        have q1 := fun w => neItv (nth a i) (nth b i) w
        have q2 := fun p q w => guItv .neq p q (nth a i) (nth b i) w
        clear hc1 hc2
        generalize decide (nth a i = nth b i) = R at *
        generalize nth a i = x at *
        generalize nth b i = y at *
        have i1 : (i : Int) < (n : Int) := by omega
        go_wp2_with fail
        refine wp_region_quiet_below (by kernel_rfl) (by kernel_rfl) ?_
        repeat (first | refine wpQuiet_ld rfl rfl rfl r1.out ?_ | refine wpQuiet_ld rfl rfl rfl r2.out ?_ | quiet_step (fail))
        refine wpQuiet_nil ?_
        intro _ hw'
        obtain ⟨⟨dq, osq⟩, hw''⟩ := hw'
        subst hw''
        have HW : Hid (Below wr.heap.size wr (Sort.grow (redrawn wr dq) osq)) := hid (below_regrown wr dq osq)
        generalize Sort.grow (redrawn wr dq) osq = w2 at *
        clear r1 r2 q1 q2
        have HB2 : Hid (Below w.heap.size w w2) := hid (BW.out.trans (HW.out.mono BW.out.size))
        cases R
        · have HN' := hid (HN.out rfl)
          clear HN HY
          go_wp2
          go_ret
          exact ⟨ret_bool HN'.out.symm, HB2.out⟩
        · have HY' := hid (HY.out rfl)
          clear HN HY
          go_wp2
          go_roundw
          case rel => exact ⟨i + 1, by go_num, by omega, HY'.out, HB2.out⟩
          case measure => simp [intOf]; omega
      · have HE : Hid (r = true) := hid (by
          rw [← HR.out, decide_eq_true_eq]
          exact ext_nth (by rw [LA.out, LB.out]) fun j hj => HJ.out j (by rw [LA.out] at hj; omega))
        go_wp2
        go_ret
        exact ⟨ret_bool HE.out.symm, BW.out⟩
  · have HE : Hid (r = false) := hid (by
      rw [← HR.out, decide_eq_false_iff_not]
      rintro rfl
      exact hnm (by rw [← LA.out, ← LB.out]))
    have t1 : ((n : Int) != (m : Int)) = true := by simp; omega
    go_enter Try.func24, Try.ntmps24
    go_wp2
    go_ret
    exact ⟨ret_bool HE.out.symm, Below.refl _ _⟩
set_option maxHeartbeats 1000000 in
theorem reffind_yes (A : Option Addr) (n c B k : Nat) (xs : List It) (s : Int) (w : World) (ha : Row w B A n xs) (hB : B ≤ w.heap.size) (hn : n ≤ 1000000000) (hk : First xs s k) :
    Calls Try.prog 53 #[.slice A n c, .int .u64 s] w fun e w' => e = .returned (.tuple #[.int .i64 (k : Int), .bool true]) ∧ Below w.heap.size w w' := by
  have HA := hid ha
  have hkn : k < n := by rw [← ha.1]; exact hk.1
  have HK := hid hk
  clear ha hk
  go_enter Try.func53, Try.ntmps53
  go_wp2
  go_loopw [10] (fun t wr => ∃ i : Nat, t = .int .i64 (i : Int) ∧ i ≤ k ∧ Below w.heap.size w wr) (fun t _ => n - (intOf t).toNat)
  case atStart => exact ⟨0, rfl, by omega, Below.refl _ _⟩
  case round =>
    obtain ⟨i, rfl, hi, bel⟩ := hrel
    have BW := hid bel
    have HR : Hid (Row wr B A n xs) := hid (HA.out.below (bel.mono hB))
    obtain ⟨b, o, rfl, hb, hcc⟩ := HR.out.all (by omega)
    have R1 := hid (hcc i (by omega))
    have i1 : i < n := by omega
    have i2 : (i : Int) < (n : Int) := by omega
    have HS : Hid (i < k → (sq (nth xs i) == s) = false) := hid fun h => by simpa using HK.out.2.2 i h
    have HE : Hid (i = k → (sq (nth xs i) == s) = true) := hid fun h => by subst h; simpa using HK.out.2.1
    clear bel hcc
    generalize nth xs i = x at *
    by_cases hik : i < k
    · have HS' := HS.out hik
      clear HS HE
      go_wp2_with (first
        | (refine wpList_ld rfl (.tmp 13) rfl rfl R1.out ?_)
        | (refine wpList_sv rfl (.tmp 7) (.tmp 14) rfl rfl rfl (there_new wr zr) ?_; intro w1 r2 bel1 _; replace bel1 := ((Below.refl wr.heap.size wr).alloc (Nat.le_refl _) _).trans bel1; have cc := six_at r2))
      go_roundw
      case rel => exact ⟨i + 1, by go_num, by omega, BW.out.trans (bel1.mono BW.out.size)⟩
      case measure => simp [intOf]; omega
    · have HE' := HE.out (by omega)
      obtain rfl : i = k := by omega
      clear HS HE
      go_wp2_with (first
        | (refine wpList_ld rfl (.tmp 13) rfl rfl R1.out ?_)
        | (refine wpList_sv rfl (.tmp 7) (.tmp 14) rfl rfl rfl (there_new wr zr) ?_; intro w1 r2 bel1 _; replace bel1 := ((Below.refl wr.heap.size wr).alloc (Nat.le_refl _) _).trans bel1; have cc := six_at r2))
      go_ret2
      exact ⟨rfl, BW.out.trans (bel1.mono BW.out.size)⟩
set_option maxHeartbeats 1000000 in
theorem reffind_no (A : Option Addr) (n c B : Nat) (xs : List It) (s : Int) (w : World) (ha : Row w B A n xs) (hB : B ≤ w.heap.size) (hn : n ≤ 1000000000) (hk : NoSq xs s) :
    Calls Try.prog 53 #[.slice A n c, .int .u64 s] w fun e w' => e = .returned (.tuple #[.int .i64 0, .bool false]) ∧ Below w.heap.size w w' := by
  have HA := hid ha
  have HL := hid ha.1
  have HK := hid hk
  clear ha hk
  go_enter Try.func53, Try.ntmps53
  go_wp2
  go_loopw [10] (fun t wr => ∃ i : Nat, t = .int .i64 (i : Int) ∧ i ≤ n ∧ Below w.heap.size w wr) (fun t _ => n - (intOf t).toNat)
  case atStart => exact ⟨0, rfl, by omega, Below.refl _ _⟩
  case round =>
    obtain ⟨i, rfl, hi, bel⟩ := hrel
    have BW := hid bel
    clear bel
    by_cases i1 : i < n
    · have HR : Hid (Row wr B A n xs) := hid (HA.out.below (BW.out.mono hB))
      obtain ⟨b, o, rfl, hb, hcc⟩ := HR.out.all (by omega)
      have R1 := hid (hcc i (by omega))
      have i2 : (i : Int) < (n : Int) := by omega
      have HS' : (sq (nth xs i) == s) = false := by simpa using HK.out i (by rw [HL.out]; exact i1)
      clear hcc
      generalize nth xs i = x at *
      go_wp2_with (first
        | (refine wpList_ld rfl (.tmp 13) rfl rfl R1.out ?_)
        | (refine wpList_sv rfl (.tmp 7) (.tmp 14) rfl rfl rfl (there_new wr zr) ?_; intro w1 r2 bel1 _; replace bel1 := ((Below.refl wr.heap.size wr).alloc (Nat.le_refl _) _).trans bel1; have cc := six_at r2))
      go_roundw
      case rel => exact ⟨i + 1, by go_num, by omega, BW.out.trans (bel1.mono BW.out.size)⟩
      case measure => simp [intOf]; omega
    · go_wp2
      go_ret2
      exact ⟨rfl, BW.out⟩
end Go.Proofs.Ytpfidohneddgkaa
