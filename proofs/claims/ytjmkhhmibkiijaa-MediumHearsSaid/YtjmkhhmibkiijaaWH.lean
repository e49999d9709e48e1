/-
  The walk of MediumHears, whatever came in.
-/
import Derived.Test.YtjmkhhmibkiijaaHP
import Derived.Test.YtjmkhhmibkiijaaSM
import Derived.Test.YtjmkhhmibkiijaaG
import Derived.Test.YtjmkhhmibkiijaaR
namespace Go.Proofs.Ytjmkhhmibkiijaa
open Go Go.RowKit

/-- append, in a region that draws. -/
theorem step_ap8 {w : World} {base n : Nat} {ops : Array Oper} {o : Oper} {a : Act} {K : Act → World → Prop} {Q : Exit → Act → World → Prop} {E : Prop} (hgd : o.guard = none) (s x : Operand)
    (ho : o.op = .call { callee := .builtin .append, args := #[s, x], argTypes := #[34, 34] }) {A A2 : Option Addr} {c m c2 B : Nat} {l xs : List Ar} (hs : a.eval s = .slice A n c) (hown : Ow w base A n c l) (hx : a.eval x = .slice A2 m c2) (hr : Rw w B A2 m xs)
    (hb : n + m ≤ 1000000000) (hbase : base ≤ w.heap.size)
    (h : ∀ A' c' w', Ow w' base A' (n + m) c' (l ++ xs) → Below base w w' → K (a.put o.dst (.slice A' (n + m) c')) w') : if Region.wanted o (yielded ops a.tmps) = true then Oper.wp Try.prog o a w K Q else E := by
  have hw : Region.wanted o (yielded ops a.tmps) = true := by simp [Region.wanted, hgd]
  rw [if_pos hw]
  obtain ⟨A', c', w', hrun, h2, h3⟩ := run_ap8 (c2 := c2) o.type hown hr hb hbase
  unfold Oper.wp execOp
  simp only [ho, resolve, invoke, builtin, Sem.run_bind, Sem.run_pure, Result.andThen_ok, List.map_toArray, List.map_cons, List.map_nil, hs, hx, hrun]
  exact h A' c' w' h2 h3
theorem step_ap80 {w : World} {ops : Array Oper} {o : Oper} {a : Act} {K : Act → World → Prop} {Q : Exit → Act → World → Prop} {E : Prop} (hgd : o.guard = none) (x : Operand)
    (ho : o.op = .call { callee := .builtin .append, args := #[.const (.slice none 0 0), x], argTypes := #[34, 34] }) {A2 : Option Addr} {m c2 B : Nat} {xs : List Ar} (hx : a.eval x = .slice A2 m c2) (hr : Rw w B A2 m xs)
    (hb : m ≤ 1000000000)
    (h : ∀ A' c' w', Ow w' w.heap.size A' m c' xs → Below w.heap.size w w' → K (a.put o.dst (.slice A' m c')) w') : if Region.wanted o (yielded ops a.tmps) = true then Oper.wp Try.prog o a w K Q else E :=
  step_ap8 hgd (.const (.slice none 0 0)) x ho rfl (Ow.nil w w.heap.size) hx hr (by omega) (Nat.le_refl _) fun A' c' w' h1 h2 => by
    rw [Nat.zero_add] at h1 ⊢
    exact h A' c' w' h1 h2
def HsRel (w : World) (ls : List Ar) (k : Nat) (L : Int) (t54 t7 : Value) (wr : World) : Prop :=
  ∃ (i m c : Nat) (A : Option Addr) (xs : List Ar), t54 = .int .i64 (i : Int) ∧ (i : Int) ≤ L ∧ t7 = .slice A m c ∧ RA wr wr.heap.size A m xs ∧ hst ls k i m xs ∧ Below w.heap.size w wr
set_option maxRecDepth 100000 in
set_option maxHeartbeats 4000000 in
theorem hears_row {w : World} (A : Option Addr) (n c : Nat) (ls : List Ar) (ha : RA w w.heap.size A n ls) (hnc : n ≤ c) (hc : c ≤ 9223372036854775807) (ho : ∀ x ∈ ls, AirOk x) (k0 : Int) (_h1 : -9223372036854775808 ≤ k0) (_h2 : k0 ≤ 9223372036854775807) :
    Calls Try.prog 5 #[.slice A n c, .int .i64 k0] w fun e w' => e = .returned (.bool true) ∧ Below w.heap.size w w' := by
  have HA := hid ha
  have HL := hid ha.1.1
  have HO := hid ho
  have HNC := hid hnc
  have HF : Hid (∀ w', Below w.heap.size w w' → Calls Try.prog 14 #[.slice A n c] w' fun e w'' => e = .returned (.bool (fewB ls)) ∧ Below w'.heap.size w' w'') := hid fun w' h => few_any A n c w.heap.size ls w' (HA.out.1.below h) h.size (by omega)
  have HFW : Hid (fewB ls = true → n ≤ 300) := hid fun h => by
    unfold fewB at h
    rw [Bool.and_eq_true, decide_eq_true_eq] at h
    rw [← HL.out]; exact h.2
  clear ha ho _h1 _h2
  generalize fewB ls = F at *
  cases F with
  | false =>
    clear hnc hc HFW
    go_enter Try.func5, Try.ntmps5
    go_wp2_with (first
      | (go_at_call 14; refine (HF.out w1 b1).mono ?_; rintro e w2 ⟨rfl, b2⟩; have B2 : Hid (Below w.heap.size w w2) := hid (b1.trans (b2.mono b1.size)))
      | (go_at_call 8; refine (live_any w).mono ?_; rintro e w1 ⟨rfl, b1⟩))
    go_ret
    exact ⟨rfl, B2.out⟩
  | true =>
  have hn300 := HFW.out rfl
  clear HFW
  by_cases hn0 : n = 0
  · have d : ((n : Int) == 0) = true := by simp [hn0]
    clear hnc hc hn300 hn0
    go_enter Try.func5, Try.ntmps5
    go_wp2_with (first
      | (go_at_call 14; refine (HF.out w1 b1).mono ?_; rintro e w2 ⟨rfl, b2⟩; have B2 : Hid (Below w.heap.size w w2) := hid (b1.trans (b2.mono b1.size)))
      | (go_at_call 8; refine (live_any w).mono ?_; rintro e w1 ⟨rfl, b1⟩))
    go_ret
    exact ⟨rfl, B2.out⟩
  have d : ((n : Int) == 0) = false := by simp [hn0]
  have HK1 : Hid (∀ w', Below w.heap.size w w' → Calls Try.prog 17 #[.slice A n c] w' fun e w'' => e = .returned (.int .i64 (okE ls)) ∧ Below w'.heap.size w' w'') := hid fun w' h => check_any A n c w.heap.size ls w' (HA.out.1.below h) h.size (by omega)
  cases hok : okA ls with
  | false =>
    rw [okE_no hok] at HK1
    clear hnc hc hn300 hn0 hok
    go_enter Try.func5, Try.ntmps5
    go_wp2_with (first
      | (go_at_call 17; refine (HK1.out w2 B2.out).mono ?_; rintro e w3 ⟨rfl, b3⟩; have B3 : Hid (Below w.heap.size w w3) := hid (B2.out.trans (b3.mono B2.out.size)))
      | (go_at_call 14; refine (HF.out w1 b1).mono ?_; rintro e w2 ⟨rfl, b2⟩; have B2 : Hid (Below w.heap.size w w2) := hid (b1.trans (b2.mono b1.size)))
      | (go_at_call 8; refine (live_any w).mono ?_; rintro e w1 ⟨rfl, b1⟩))
    go_ret
    exact ⟨rfl, B3.out⟩
  | true =>
  rw [okE_one hok] at HK1
  have HOK := hid hok
  have hn256 : n ≤ 256 := by have := okA_len hok; rw [HL.out] at this; exact this
  have hn1 : ¬ (n : Int) = 0 := by omega
  obtain ⟨r, e1⟩ : ∃ r, k0.tmod (n : Int) = r := ⟨_, rfl⟩
  have r0 : -(n : Int) < r := by rw [← e1]; have := Int.tmod_lt_of_pos k0 (b := (n : Int)) (by omega); have := Int.lt_tmod_of_pos k0 (b := (n : Int)) (by omega); omega
  have r1 : r < (n : Int) := by rw [← e1]; exact Int.tmod_lt_of_pos k0 (by omega)
  obtain ⟨k, hk⟩ : ∃ k : Nat, (r + (n : Int)).tmod (n : Int) = (k : Int) := by
    rw [Int.tmod_eq_emod_of_nonneg (by omega)]
    exact ⟨((r + (n : Int)) % (n : Int)).toNat, by rw [Int.toNat_of_nonneg (Int.emod_nonneg _ (by omega))]⟩
  have hkn : k < n := by
    have := Int.tmod_lt_of_pos (r + (n : Int)) (b := (n : Int)) (by omega)
    rw [hk] at this; omega
  clear hok hn0
  obtain ⟨b, o, hA1, hb, hcell⟩ := HA.out.1.all (by omega)
  subst hA1
  have hlk : 1 ≤ (nth ls k).lf ∧ (nth ls k).lf ≤ 16 := lf_of (okA_may HOK.out _ (nth_mem (by rw [HL.out]; exact hkn)))
  have HCK : Hid (w.rangeAt b (o + k * 8) (enc (nth ls k))) := hid (hcell k hkn)
  have HBL : Hid (b < w.heap.size) := hid hb
  clear hcell hb
  obtain ⟨x, hx⟩ : ∃ x, nth ls k = x := ⟨_, rfl⟩
  have HXX := hid hx
  rw [hx] at HCK hlk
  have hkin : (k : Int) < (n : Int) := by omega
  clear hx
  go_enter Try.func5, Try.ntmps5
  go_wp2_with (first
    | (go_at_call 17; refine (HK1.out w2 B2.out).mono ?_; rintro e w3 ⟨rfl, b3⟩; have B3 : Hid (Below w.heap.size w w3) := hid (B2.out.trans (b3.mono B2.out.size)); have q0 : w3.cell? ⟨b, o + k * 8, none⟩ = some (.int .u64 x.id) := range_keep HCK.out HBL.out B3.out 0 _ rfl; have q7 : w3.cell? ⟨b, o + k * 8 + 7, none⟩ = some (.int .i64 x.lf) := range_keep HCK.out HBL.out B3.out 7 _ rfl)
    | (go_at_call 14; refine (HF.out w1 b1).mono ?_; rintro e w2 ⟨rfl, b2⟩; have B2 : Hid (Below w.heap.size w w2) := hid (b1.trans (b2.mono b1.size)))
    | (go_at_call 8; refine (live_any w).mono ?_; rintro e w1 ⟨rfl, b1⟩))
  have HLK := hid hlk
  clear q0 q7 b1 b2 b3 B2 HF HK1 hnc hc
  go_loopw [54, 7] (HsRel w ls k x.lf) (fun t _ _ => x.lf.toNat - (intOf t).toNat)
  case atStart =>
    exact ⟨0, n, c, some ⟨b, o, none⟩, ls, rfl, by omega, rfl, (HA.out.below B3.out).more B3.out.size, by have := hst_zero HOK.out (show k < ls.length by rw [HL.out]; exact hkn); rwa [HL.out] at this, B3.out⟩
  case round =>
    obtain ⟨i, m, c1, A1, xs, rfl, hi, rfl, hra, hst1, hbel⟩ := hrel
    have HB := hid hbel
    have HX := hid hra
    have HS := hid hst1
    have hks : k < ls.length := by rw [HL.out]; exact hkn
    have HKS := hid hks
    have HXOK := hid (hst_ok HOK.out hks hst1)
    clear hbel hra hst1 B3
    have HH := HB.out.size
    by_cases hlt : (i : Int) < x.lf
    · obtain ⟨hm, hkm, ⟨A0, c0, hxk⟩, hne⟩ := hst_at HOK.out hks HS.out (by rw [HXX.out]; exact hlt)
      rw [HXX.out] at hxk hne
      have HNX : Hid (∀ l5 m5, l5.length = m5 → heardP xs k m5 l5 → hst ls k (i + 1) m5 l5) := hid fun l5 m5 h1 h2 => hst_next HOK.out HKS.out HS.out (by rw [HXX.out]; exact hlt) h1 h2
      have HHE : Hid (∀ w', Below wr.heap.size wr w' → Calls Try.prog 18 #[.slice A1 m c1, .int .u64 x.id] w' (RetH w' xs k)) := hid fun w' h => heard_yes A1 m c1 wr.heap.size xs w' x.id k (HX.out.below h) h.size HXOK.out hkm (by rw [hxk]) hne
      obtain ⟨LI, hLI⟩ : ∃ LI, x.lf - (i : Int) = LI := ⟨_, rfl⟩
      have hwr : IntKind.i64.wrap (x.lf - (i : Int)) = LI := by rw [← hLI, IntKind.wrap_i64]; have := HLK.out; omega
      rw [hLI] at hxk
      have HXK := hid hxk
      have hLK := HLK.out
      have z1 : (x.id != x.id) = false := by simp
      have z2 : (LI != LI) = false := by simp
      have z3 : (x.bad != x.bad) = false := by simp
      clear hxk hLI hm hkm hne hks
      go_upto_region 11 with (first
        | (refine wpList_sva (x := { x with A := Av, c := cv, lf := LI }) rfl (.tmp 10) (.tmp 62) rfl rfl rfl v3 ?_; intro w4 v4 b4 o4 s4; have B4 : Hid (Below w2.heap.size w2 w4) := hid (b3.trans b4); have k0 := v4.c0; have k6 := v4.c6; have k7 := v4.c7; have BW4 : Hid (Below w.heap.size w w4) := hid (BW2.out.trans (B4.out.mono BW2.out.size)); have l7 : w4.cell? ⟨b, o + k * 8 + 7, none⟩ = some (.int .i64 x.lf) := range_keep HCK.out HBL.out BW4.out 7 _ rfl; have l6 : w4.cell? ⟨b, o + k * 8 + 6, none⟩ = some (.bool x.bad) := range_keep HCK.out HBL.out BW4.out 6 _ rfl; clear v4 b3 b4 o4 s4)
        | (refine wpList_ala rfl rfl ?_; intro w3 v3 b3 s3)
        | (go_at_call 18; refine (HHE.out wr (Below.refl _ _)).mono ?_; rintro e w2 ⟨A5, m5, c5, l5, Av, cv, he, p5, ra5, b5⟩; rw [HXK.out] at he; subst he; have BW2 : Hid (Below w.heap.size w w2) := hid (HB.out.trans (b5.mono HH)); have P5 := hid p5; have RA5 := hid ra5; clear p5 ra5 b5))
      go_quiet (fail)
      go_wp2
      refine ⟨⟨i + 1, m5, c5, A5, l5, by go_num, by omega, rfl, ?_, HNX.out l5 m5 RA5.out.1.1 P5.out, bel_drewN BW4.out _⟩, by simp [intOf]; omega⟩
      exact (RA5.out.below (bel_drewN B4.out _)).more (bel_drewN B4.out _).size
    · obtain ⟨hm, hne, hcont⟩ := hst_gone HOK.out hks HS.out (by rw [HXX.out]; exact hlt)
      rw [HXX.out] at hne
      obtain ⟨j, hj⟩ : ∃ j, j = k + 1 := ⟨_, rfl⟩
      have hm2 : m = k + (n - j) := by rw [hm, HL.out]; omega
      subst hm2
      have hwrj : IntKind.i64.wrap ((k : Int) + 1) = (j : Int) := by rw [IntKind.wrap_i64]; omega
      have hkj : (k : Int) + 1 = (j : Int) := by omega
      have hwj : IntKind.i64.wrap (j : Int) = (j : Int) := by rw [IntKind.wrap_i64]; omega
      have HFI : Hid (∀ w', Below wr.heap.size wr w' → Calls Try.prog 19 #[.slice A1 (k + (n - j)) c1, .int .u64 x.id] w' fun e w'' => e = .returned (.tuple #[itv az, .bool false]) ∧ Below w'.heap.size w' w'') := hid fun w' h => find_no A1 _ c1 wr.heap.size x.id xs w' (HX.out.1.below h) h.size (by omega) hne
      have HHN : Hid (∀ w', Below wr.heap.size wr w' → Calls Try.prog 18 #[.slice A1 (k + (n - j)) c1, .int .u64 x.id] w' fun e w'' => e = .returned (.tuple #[.slice none 0 0, itv az, .int .i64 8]) ∧ Below w'.heap.size w' w'') := hid fun w' h => heard_none A1 _ c1 wr.heap.size xs w' x.id (HX.out.1.below h) h.size HXOK.out hne
      obtain ⟨A9, hA9⟩ : ∃ A9, (if c = j then (some ⟨b, o, none⟩ : Option Addr) else some ⟨b, o + j * 8, none⟩) = A9 := ⟨_, rfl⟩
      have hnc := HNC.out
      have HT1 : Hid (∀ w', Below w.heap.size w w' → Rw w' w.heap.size (some ⟨b, o, none⟩) k (ls.take k)) := hid fun w' h => by
        have := (HA.out.1.below h).cut (l := 0) (r := k) (c := c) (by omega) (by omega) hnc
        rw [if_neg (by omega), Nat.sub_zero, List.drop_zero] at this
        simpa [plain_add] using this
      have HT2 : Hid (∀ w', Below w.heap.size w w' → Rw w' w.heap.size A9 (n - j) (ls.drop j)) := hid fun w' h => by
        have := (HA.out.1.below h).cut (l := j) (r := n) (c := c) (by omega) (Nat.le_refl _) hnc
        rw [List.take_of_length_le (by rw [HL.out]; omega)] at this
        rw [← hA9]
        by_cases q : c = j
        · rw [if_pos q] at this ⊢; exact this
        · rw [if_neg q] at this ⊢; simpa [plain_add] using this
      have HLS : Hid (∀ q, q < k + (n - j) → Oct (nth xs q).b) := hid fun q hq => by
        obtain ⟨A, c, e⟩ := hcont q hq
        rw [e]
        exact (HO.out _ (nth_mem (l := ls) (k := if q < k then q else q + 1) (by rw [HL.out]; split <;> omega))).oct
      have HSS : Hid (∀ q, q < k + (n - j) → ∃ A c, nth (ls.take k ++ ls.drop j) q = { nth xs q with A := A, c := c }) := hid fun q hq => by
        obtain ⟨A, c, e⟩ := hcont q hq
        have e2 : nth (ls.take k ++ ls.drop j) q = nth ls (if q < k then q else q + 1) := by
          rw [hj]
          have := nth_without (l := ls) (k := k) (j := q) hks
          unfold without at this
          rw [this]; split <;> rfl
        exact ⟨_, _, by rw [e2, e]⟩
      have HBA : Hid (Ba w w.heap.size (ls.take k ++ ls.drop j)) := hid fun y hy => by
        rcases List.mem_append.1 hy with h | h
        · exact HA.out.2 y (List.mem_of_mem_take h)
        · exact HA.out.2 y (List.mem_of_mem_drop h)
      have hkc : k ≤ c := by omega
      have hjn : (j : Int) ≤ (n : Int) := by omega
      have hjn2 : j ≤ n := by omega
      have hkn2 : (k : Int) ≤ (n : Int) := by omega
      have hkc2 : (k : Int) ≤ (c : Int) := by omega
      have HJ := hid hj
      clear hj hm hne hcont hks
      go_upto_region 17 with (first
        | (refine wpList_sva (x := az) rfl (.tmp 15) (.tmp 107) rfl rfl rfl v6 ?_; intro w7 v7 b7 o7 s7; have B7 : Hid (Below wr.heap.size wr w7) := hid (B6.out.trans (b7.mono B5.out.size)))
        | (go_at_call 18; refine (HHN.out w4 B4.out).mono ?_; rintro e w5 ⟨rfl, b5⟩; have B5 : Hid (Below wr.heap.size wr w5) := hid (B4.out.trans (b5.mono B4.out.size)))
        | (refine wpList_sva (x := az) rfl (.tmp 12) (.tmp 100) rfl rfl rfl v3 ?_; intro w4 v4 b4 o4 s4; have B4 : Hid (Below wr.heap.size wr w4) := hid (B3.out.trans (b4.mono B2.out.size)))
        | (refine wpList_ala rfl rfl ?_; intro w6 v6 b6 s6; have B6 : Hid (Below wr.heap.size wr w6) := hid (B5.out.trans (b6.mono B5.out.size)))
        | (refine wpList_ala rfl rfl ?_; intro w3 v3 b3 s3; have B3 : Hid (Below wr.heap.size wr w3) := hid (B2.out.trans (b3.mono B2.out.size)))
        | (go_at_call 19; refine (HFI.out wr (Below.refl _ _)).mono ?_; rintro e w2 ⟨rfl, b2⟩; have B2 : Hid (Below wr.heap.size wr w2) := hid b2))
      have BW7 : Hid (Below w.heap.size w w7) := hid (HB.out.trans (B7.out.mono HH))
      clear v3 v4 v6 v7 b2 b3 b4 b5 b6 b7 o4 o7 s3 s4 s6 s7
      go_region_law (first
        | (refine step_ap80 (A2 := some ⟨b, o, none⟩) (m := k) (c2 := c) rfl (.tmp 111) rfl (by simp [Act.eval, Act.put]) (HT1.out _ BW7.out.drew) (by omega) ?_; intro A5 c5 w8 own8 b8)
        | (refine step_ap8 (A := A5) (n := k) (c := c5) (A2 := A9) (m := n - j) (c2 := c - j) rfl (.tmp 112) (.tmp 116) rfl (by simp [Act.eval]) own8 (by simp [Act.eval]) (HT2.out _ ((BW7.out.drew).trans (b8.mono BW7.out.size))) (by omega) b8.size ?_; intro A6 c6 w9 own9 b9))
      all_goals
        have BW9 : Hid (Below w.heap.size w w9) := hid (((BW7.out.drew).trans (b8.mono BW7.out.size)).trans (b9.mono BW7.out.size))
        have BR9 : Hid (Below wr.heap.size wr w9) := hid (((B7.out.drew).trans (b8.mono B7.out.size)).trans (b9.mono B7.out.size))
        have HSA := hid (same_true A1 A6 (k + (n - j)) c1 c6 wr.heap.size w9.heap.size xs (ls.take k ++ ls.drop j) w9 (HX.out.below BR9.out) ⟨own9.row, (HBA.out.below BW9.out).more BW9.out.size⟩ BR9.out.size (Nat.le_refl _) (by omega) HLS.out HSS.out)
        go_wp2_with (go_at_call 20; refine HSA.out.mono ?_; rintro e w10 ⟨rfl, b10⟩)
        go_ret
        exact ⟨rfl, BW9.out.trans (b10.mono BW9.out.size)⟩
end Go.Proofs.Ytjmkhhmibkiijaa
