/-
  The walk of HeapOrders: at any list of things and any bytes it answers true.
-/
import Derived.Test.YtopdklmhiglehaaM
import Derived.Test.YtopdklmhiglehaaS
namespace Go.Proofs.Ytopdklmhiglehaa
open Go Go.RowKit

/-- append onto a slice of the call's own, with what stays. -/
theorem run_apg {w : World} {base n : Nat} (ty : TypeId) {A A2 : Option Addr} {c m c2 B : Nat} {l xs : List It} (hown : Own w base A n c l) (hr : Row w B A2 m xs) (hp : 0 < m) (hb : n + m ≤ 1000000000) (hbase : base ≤ w.heap.size) :
    ∃ A' c' w', (Builtin.append_ #[25, 25] ty #[.slice A n c, .slice A2 m c2]).run Try.prog w = .ok (.slice A' (n + m) c') w' ∧ Own w' base A' (n + m) c' (l ++ xs) ∧ Below base w w' ∧ w.grownBy w' (Value.ownBlock (.slice A n c)) := by
  obtain ⟨i, hi0, hi1, hi2, hi3⟩ := info_parts info24
  obtain ⟨b, o, rfl, _, hc⟩ := hr.2 hp
  obtain ⟨v', w', hrun, h2, h3, _, _⟩ := run_append_own_at (P := Try.prog) w base 25 ty 24 i (itv zr) 6 48 Try.underlying25 hi0 hi1 hi2 hi3 rfl (by omega) (.slice A n c) n (flat l) hown ⟨b, o, none⟩ m c2 (flat xs) (by rw [flat_len, hr.1]) (fun j u hu => by rw [plain_add]; exact hc j u hu) (flat_one xs) (by unfold maxLen; omega) (by omega) hbase
  have hbel : Below base w w' := (Below.refl _ _).grown h3 hbase (fun k hk => (World.ownsRow.lt hown k hk).1)
  rw [← flat_app] at h2
  rcases h2.2 with ⟨rfl, h0⟩ | ⟨g, cap, cur, rfl, r⟩
  · omega
  · exact ⟨_, _, w', hrun, h2, hbel, h3⟩
theorem wpList_apg {w : World} {base n : Nat} {ops : Array Oper} {rest : List Oper} {o : Oper} {a : Act} {Q : Exit → Act → World → Prop} (hgd : o.guard = none) (s x : Operand)
    (ho : o.op = .call { callee := .builtin .append, args := #[s, x], argTypes := #[25, 25] }) {A A2 : Option Addr} {c m c2 B : Nat} {l xs : List It} (hs : a.eval s = .slice A n c) (hown : Own w base A n c l) (hx : a.eval x = .slice A2 m c2) (hr : Row w B A2 m xs) (hp : 0 < m)
    (hb : n + m ≤ 1000000000) (hbase : base ≤ w.heap.size)
    (h : ∀ A' c' w', Own w' base A' (n + m) c' (l ++ xs) → Below base w w' → w.grownBy w' (Value.ownBlock (.slice A n c)) → wpList Try.prog ops Q rest (a.put o.dst (.slice A' (n + m) c')) w') : wpList Try.prog ops Q (o :: rest) a w := by
  obtain ⟨A', c', w', hrun, h2, h3, h4⟩ := run_apg (c2 := c2) o.type hown hr hp hb hbase
  refine wpList_plain hgd fun _ hK => ?_
  unfold Oper.wp execOp
  simp only [ho, resolve, invoke, builtin, Sem.run_bind, Sem.run_pure, Result.andThen_ok, List.map_toArray, List.map_cons, List.map_nil, hs, hx, hrun]
  exact hK _ _ (h A' c' w' h2 h3 h4)
/-- A row that is newer than the one that was appended to stays. -/
theorem Own.apart {w w' w0 : World} {b bl n c nl cl : Nat} {A Al : Option Addr} {l ll : List It} (hl : Own w bl Al nl cl ll) (hg : w.grownBy w' (Value.ownBlock (.slice A n c))) (ho : Own w0 b A n c l) (hs : w0.heap.size ≤ bl) : Own w' bl Al nl cl ll := by
  refine ⟨hl.1, ?_⟩
  rcases hl.2 with h0 | ⟨g, cap, cur, hv, hb, hh, r⟩
  · exact .inl h0
  · refine .inr ⟨g, cap, cur, hv, hb, ?_, r⟩
    have hlt : g < w.heap.size := (Array.getElem?_eq_some_iff.1 hh).1
    rw [hg.block g hlt (fun e => by have := (World.ownsRow.lt ho g e.symm).2; omega)]
    exact hh

theorem wpList_bs {w : World} {ops : Array Oper} {rest : List Oper} {op : Oper} {a : Act} {Q : Exit → Act → World → Prop} (hgd : op.guard = none) (x : Operand) (ho : op.op = .buildSlice 25 1 #[(0, x)]) {v : It} (hx : a.eval x = itv v)
    (h : wpList Try.prog ops Q rest (a.put op.dst (.slice (some ⟨w.heap.size, 0, none⟩) 1 1)) (w.alloc (.cells (enc v).toArray 24))) : wpList Try.prog ops Q (op :: rest) a w :=
  wpList_plain hgd fun _ hK => by
    obtain ⟨v1, v2, v3, v4, v5, v6⟩ := v
    unfold itv enc at hx
    unfold enc at h
    unfold Oper.wp execOp
    simp only [ho, List.map_toArray, List.map_cons, List.map_nil, hx]
    simp [go_sem]
    exact hK _ _ h
theorem row_one (w : World) (x : It) : Row (w.alloc (.cells (enc x).toArray 24)) (w.heap.size + 1) (some ⟨w.heap.size, 0, none⟩) 1 [x] := by
  refine ⟨rfl, fun _ => ⟨w.heap.size, 0, rfl, by omega, fun j u hu => ?_⟩⟩
  have e : flat [x] = enc x := by simp [flat]
  rw [e] at hu
  exact range_new w x 24 j u hu
theorem lt_of_range {w : World} {b o : Nat} {x : It} (h : w.rangeAt b o (enc x)) : b < w.heap.size := World.block_lt_of_cell? w ⟨b, o + 0, none⟩ (h 0 _ rfl)
/-- What was pushed: a heap, and what was popped. -/
def St (w wx : World) (ys : List It) (t6 t7 : Value) : Prop :=
  ∃ (A : Option Addr) (m c : Nat) (L : List It) (A2 : Option Addr) (k c2 : Nat) (O : List It), t6 = .slice A m c ∧ t7 = .slice A2 k c2 ∧ Own wx w.heap.size A m c L ∧ Own wx w.heap.size A2 k c2 O ∧ Hp L ∧ (O ++ L).Perm ys ∧ k + m = ys.length ∧ Below w.heap.size w wx
def OrdRel (w : World) (xs : List It) (n : Nat) (t30 t6 t7 : Value) (wr : World) : Prop := ∃ i : Nat, t30 = .int .i64 (i : Int) ∧ i ≤ n ∧ St w wr (xs.take i) t6 t7
def PopRel (w : World) (ys : List It) (q : Nat) (t53 t6 t7 : Value) (wr : World) : Prop := ∃ j : Nat, t53 = .int .u8 (j : Int) ∧ j ≤ q ∧ St w wr ys t6 t7
def EndRel (w : World) (xs : List It) (k0 : Nat) (t6 t7 : Value) (wx : World) : Prop :=
  ∃ (A : Option Addr) (m c : Nat) (L : List It) (A2 : Option Addr) (k c2 : Nat) (O : List It), t6 = .slice A m c ∧ t7 = .slice A2 k c2 ∧ Own wx w.heap.size A m c L ∧ Own wx w.heap.size A2 k c2 O ∧ Hp L ∧ (O ++ L).Perm xs ∧ k + m = xs.length ∧ k0 ≤ k ∧ (k0 < k → ∀ z, z ∈ L → lt z (nth O (k - 1)) = false) ∧ Below w.heap.size w wx
def lenV : Value → Nat
  | .slice _ n _ => n
  | _ => 0
def OutIs (w : World) (xs : List It) (t7 : Value) (wx : World) : Prop := ∃ (A : Option Addr) (k c : Nat) (O : List It), t7 = .slice A k c ∧ Own wx w.heap.size A k c O ∧ O.Perm xs ∧ Below w.heap.size w wx
theorem mem_popped {L l : List It} {x : It} (h : Hp L) (hp : L.Perm (nth L 0 :: l)) (hx : nth L 0 = x) (i : Nat) (hi : i < l.length) : lt (nth l i) x = false := by
  rw [← hx]
  exact h.least (hp.mem_iff.2 (List.mem_cons_of_mem _ (nth_mem hi)))
set_option maxRecDepth 100000 in
set_option maxHeartbeats 8000000 in
theorem orders_any (A : Option Addr) (n c : Nat) (xs : List It) (P : Option Addr) (np cp : Nat) (zs : List Nat) (w : World) (ha : Row w w.heap.size A n xs) (hn63 : n ≤ 9223372036854775807) (hz : Bytes w P np zs) (hnp : np ≤ 9223372036854775807) :
    Calls Try.prog 6 #[.slice A n c, .slice P np cp] w fun e w' => e = .returned (.bool true) ∧ Below w.heap.size w w' := by
  have HA := hid ha
  have HL := hid ha.1
  have HZ := hid hz
  clear ha hz
  by_cases hbig : 100 < n
  · have t1 : decide (100 < n) = true := decide_eq_true hbig
    have t1' : decide (100 < (n : Int)) = true := decide_eq_true (by omega)
    go_enter Try.func6, Try.ntmps6
    go_wp2_with (go_at_call 10; refine (live_any _).mono ?_; rintro e w1 ⟨rfl, bel1⟩)
    go_ret
    exact ⟨rfl, bel1⟩
  · have hn : n ≤ 100 := by omega
    have t1 : decide (100 < n) = false := decide_eq_false hbig
    have t1' : decide (100 < (n : Int)) = false := decide_eq_false (by omega)
    clear hbig
    go_enter Try.func6, Try.ntmps6
    go_upto_block 0 with (go_at_call 10; refine (live_any _).mono ?_; rintro e w1 ⟨rfl, bel1⟩)
    have B1 := hid bel1
    clear bel1
    go_cut [6, 7] (fun t6 t7 wx => St w wx xs t6 t7)
    case first =>
      go_wp2_with fail
      go_loopw [30, 6, 7] (OrdRel w xs n) (fun t _ _ _ => n - (intOf t).toNat)
      case atStart => exact ⟨0, rfl, by omega, none, 0, 0, [], none, 0, 0, [], rfl, rfl, Own.nil _ _, Own.nil _ _, fun i h1 h2 => by simp at h2, by simp, by simp, B1.out⟩
      case round =>
        obtain ⟨i, rfl, hi, Ah, m, ch, L, Ao, k, co, O, rfl, rfl, owh, owo, hh, hp, hlen, bel⟩ := hrel
        have OH := hid owh
        have OO := hid owo
        have HH := hid hh
        have HP := hid hp
        have BW := hid bel
        have hkm : k + m = i := by rw [hlen, List.length_take, HL.out]; omega
        have HKM := hid hkm
        have hk1 : k + m ≤ i := by omega
        clear owh owo hh hp bel hlen hkm
        by_cases hlt : i < n
        · have r1 : Hid (Row wr w.heap.size A n xs) := hid (HA.out.below BW.out)
          obtain ⟨b, o, rfl, hb, hc⟩ := r1.out.all (by omega)
          have R1 := hid (hc i hlt)
          have i1 : (i : Int) < (n : Int) := by omega
          clear hc r1
          have HTK : Hid (xs.take (i + 1) = xs.take i ++ [nth xs i]) := hid (by rw [List.take_add_one, nth_get (by rw [HL.out]; exact hlt)]; rfl)
          generalize nth xs i = x at *
          go_upto_block 1 with fail
          go_cut [6, 7] (fun t6 t7 wx => St w wx (xs.take (i + 1)) t6 t7)
          case first =>
            go_upto_region 14 with (first
              | (refine wpList_ld rfl (.tmp 33) rfl rfl R1.out ?_)
              | (refine wpList_sv rfl (.tmp 9) (.tmp 34) rfl rfl rfl (there_new wr zr) ?_; intro w1 r2 bel1 _; replace bel1 := ((Below.refl wr.heap.size wr).alloc (Nat.le_refl _) _).trans bel1)
              | (refine wpList_ld rfl (.tmp 9) rfl rfl r2 ?_)
              | (go_at_call 23; refine (push_ok Ah m ch w1.heap.size L x w1 (OH.out.below bel1).row (Nat.le_refl _) (by omega) HH.out).mono ?_; rintro e w2 ⟨A2, c2, l2, rfl, ⟨hh2, hp2⟩, own2, bel2⟩))
            have B2 : Hid (Below w.heap.size w w2) := hid (BW.out.trans ((bel1.mono BW.out.size).trans (bel2.mono (Nat.le_trans BW.out.size bel1.size))))
            have hz2 : Hid (wr.heap.size ≤ w1.heap.size) := hid bel1.size
            have OH2 : Hid (Own w2 w.heap.size A2 (m + 1) c2 l2) := hid (own2.base_le (Nat.le_trans BW.out.size bel1.size))
            have OO2 : Hid (Own w2 w.heap.size Ao k co O) := hid ((OO.out.below bel1).below bel2)
            have HP2 : Hid ((O ++ l2).Perm (xs.take (i + 1))) := hid (by
              rw [HTK.out]
              refine List.Perm.trans ?_ (HP.out.append_right [x])
              rw [List.append_assoc]
              refine List.Perm.append_left O (hp2.trans ?_)
              exact (List.perm_append_comm (l₁ := [x]) (l₂ := L)))
            have HH2 := hid hh2
            have HK2 : Hid (k + (m + 1) = (xs.take (i + 1)).length) := hid (by rw [List.length_take, HL.out]; have := HKM.out; omega)
            clear r2 bel1 bel2 own2 hh2 hp2 OH OO HH HP BW HKM HTK
            generalize m + 1 = m1 at *
            by_cases hpi : i < np
            · have t2 : decide (np ≤ i) = false := decide_eq_false (by omega)
              have t2' : decide ((np : Int) ≤ (i : Int)) = false := decide_eq_false (by omega)
              obtain ⟨b2, o2, rfl, hb2, hc2⟩ := HZ.out.2.2 (by omega)
              have cz : w2.cell? ⟨b2, o2 + i, none⟩ = some (.int .u8 ((zs.getD i 0 : Nat) : Int)) := (B2.out.cell (p := ⟨b2, o2 + i, none⟩) hb2).trans (hc2 i hpi)
              clear hc2
              have hz1 : zs.getD i 0 < 256 := by
                by_cases hq : i < zs.length
                · exact HZ.out.2.1 _ (by simp [List.getD, List.getElem?_eq_getElem hq])
                · simp [List.getD, List.getElem?_eq_none (by omega : zs.length ≤ i)]
              generalize zs.getD i 0 = z at *
              have i2 : (i : Int) < (np : Int) := by omega
              go_upto_block 2 with fail
              obtain ⟨q, hq⟩ : ∃ q : Nat, ((z : Int) % 3) = (q : Int) := ⟨z % 3, by omega⟩
              have hq2 : q ≤ 2 := by omega
              rw [hq]
              clear hq
              go_wp2_with fail
              obtain ⟨w0, rfl⟩ : ∃ w0, w0 = wr := ⟨_, rfl⟩
              go_loopw [53, 6, 7] (PopRel w (xs.take (i + 1)) q) (fun t _ _ _ => q - (intOf t).toNat)
              case atStart => exact ⟨0, rfl, by omega, A2, m1, c2, l2, Ao, k, co, O, rfl, rfl, OH2.out, OO2.out, HH2.out, HP2.out, HK2.out, B2.out⟩
              case round =>
                clear OH2 OO2 HH2 HP2 HK2 B2 cz R1
                obtain ⟨j, rfl, hj, Ah, m, ch, L, Ao, k, co, O, rfl, rfl, owh, owo, hh, hp, hlen, bel⟩ := hrel
                have OH := hid owh
                have OO := hid owo
                have HH := hid hh
                have HP := hid hp
                have BW := hid bel
                have hk1 : k + m ≤ 100 := by rw [hlen, List.length_take]; omega
                have HKM := hid hlen
                clear owh owo hh hp bel hlen
                by_cases hjq : j < q
                · have j1 : (j : Int) < (q : Int) := by omega
                  by_cases hm0 : m = 0
                  · subst hm0
                    go_wp2_with (first
                      | (go_at_call 25; refine (pop_none Ah ch wr).mono ?_; rintro e w1 ⟨rfl, bel1⟩)
                      | (refine wpList_sv rfl (.tmp 12) (.tmp 58) rfl rfl rfl (there_new w1 zr) ?_; intro w3 r3 bel3 _; replace bel3 := ((Below.refl w1.heap.size w1).alloc (Nat.le_refl _) _).trans bel3))
                    go_meet
                    exact ⟨Ah, 0, ch, L, Ao, k, co, O, rfl, rfl, (OH.out.below bel1).below bel3, (OO.out.below bel1).below bel3, HH.out, HP.out, HKM.out, BW.out.trans ((bel1.mono BW.out.size).trans (bel3.mono (Nat.le_trans BW.out.size bel1.size)))⟩
                  · obtain ⟨m', rfl⟩ : ∃ m', m = m' + 1 := ⟨m - 1, by omega⟩
                    clear hm0
                    obtain ⟨y, hy⟩ : ∃ y, nth L 0 = y := ⟨_, rfl⟩
                    have PC := hid (pop_ok Ah m' ch wr.heap.size L y wr OH.out.row (Nat.le_refl _) (by omega) HH.out hy)
                    have HY := hid hy
                    clear hy
                    obtain ⟨mm, hmm⟩ : ∃ mm, mm = m' + 1 := ⟨_, rfl⟩
                    rw [← hmm] at PC HKM ⊢
                    have HMM := hid hmm
                    have tm : ((mm : Int) == 0) = false := by simp; omega
                    have hm1 : m' + 1 + k ≤ 100 := by omega
                    clear hmm hk1
                    go_upto_block 4 with (first
                      | (go_at_call 25; refine PC.out.mono ?_; rintro e w1 ⟨A1, c1, l1, rfl, ⟨hh1, hp1⟩, own1, bel1⟩)
                      | (refine wpList_sv rfl (.tmp 12) (.tmp 58) rfl rfl rfl (there_new w1 zr) ?_; intro w3 r3 bel3 _; replace bel3 := ((Below.refl w1.heap.size w1).alloc (Nat.le_refl _) _).trans bel3))
                    have hz3 : Hid (w1.heap.size < w3.heap.size) := hid (lt_of_range r3)
                    have O1 : Hid (Own w3 wr.heap.size A1 m' c1 l1) := hid (own1.below bel3)
                    have OO3 : Hid (Own w3 w.heap.size Ao k co O) := hid ((OO.out.below bel1).below bel3)
                    have B3 : Hid (Below w.heap.size w w3) := hid (BW.out.trans ((bel1.mono BW.out.size).trans (bel3.mono (Nat.le_trans BW.out.size bel1.size))))
                    have R3 := hid r3
                    have H1 := hid hh1
                    have HP1 : Hid (L.Perm (y :: l1)) := hid hp1
                    have HLT : Hid (∀ i, i < l1.length → lt (nth l1 i) y = false) := hid (fun i hi => mem_popped HH.out (by rw [HY.out]; exact hp1) HY.out i hi)
                    have LL := hid own1.len
                    clear r3 hh1 hp1 own1 bel1 bel3 PC OH
                    go_cut [] (fun wx => Below w3.heap.size w3 wx)
                    case first =>
                      go_wp2_with fail
                      obtain ⟨w9, rfl⟩ : ∃ w9, w9 = wr := ⟨_, rfl⟩
                      go_loopw [70] (fun t wr => ∃ a : Nat, t = .int .i64 (a : Int) ∧ a ≤ m' ∧ Below w3.heap.size w3 wr) (fun t _ => m' - (intOf t).toNat)
                      case atStart => exact ⟨0, rfl, by omega, Below.refl _ _⟩
                      case round =>
                        obtain ⟨a, rfl, ha, bel⟩ := hrel
                        have BB := hid bel
                        clear bel
                        by_cases hal : a < m'
                        · have RR : Hid (Row wr wr.heap.size A1 m' l1) := hid (O1.out.below BB.out).row
                          obtain ⟨b5, o5, rfl, hb5, hc5⟩ := RR.out.all (by omega)
                          have r5 := hid (hc5 a hal)
                          have ry : Hid (wr.rangeAt w1.heap.size 0 (enc y)) := hid (range_keep R3.out hz3.out BB.out)
                          have hltz : Hid (w1.heap.size < wr.heap.size) := hid (Nat.lt_of_lt_of_le hz3.out BB.out.size)
                          have LS := hid (fun w => refless_any (nth l1 a) y w)
                          have HLA := HLT.out a (by rw [LL.out]; exact hal)
                          rw [HLA] at LS
                          have i5 : (a : Int) < (m' : Int) := by omega
                          clear hc5 HLA
                          generalize nth l1 a = z5 at *
                          go_wp2_with (first
                            | (refine wpList_ld rfl (.tmp 72) rfl rfl r5.out ?_)
                            | (refine wpList_sv rfl (.tmp 16) (.tmp 73) rfl rfl rfl (there_new wr zr) ?_; intro w6 r6 bel6 _; replace bel6 := ((Below.refl wr.heap.size wr).alloc (Nat.le_refl _) _).trans bel6)
                            | (refine wpList_ld rfl (.tmp 16) rfl rfl r6 ?_)
                            | (refine wpList_ld rfl (.tmp 12) rfl rfl (range_keep ry.out hltz.out bel6) ?_)
                            | (go_at_call 16; refine (LS.out _).mono ?_; rintro e w7 ⟨rfl, bel7⟩))
                          go_roundw
                          case rel => exact ⟨a + 1, by go_num, by omega, BB.out.trans ((bel6.mono BB.out.size).trans (bel7.mono (Nat.le_trans BB.out.size bel6.size)))⟩
                          case measure => simp [intOf]; omega
                        · go_wp2
                          go_meet
                          exact BB.out
                    case rest =>
                      have BB := hid hcut
                      have O4 : Hid (Own wc wr.heap.size A1 m' c1 l1) := hid (O1.out.below hcut)
                      have OO4 : Hid (Own wc w.heap.size Ao k co O) := hid (OO3.out.below hcut)
                      have R4 : Hid (wc.rangeAt w1.heap.size 0 (enc y)) := hid (range_keep R3.out hz3.out hcut)
                      have B4 : Hid (Below w.heap.size w wc) := hid (B3.out.trans (hcut.mono B3.out.size))
                      clear hcut O1 OO3 R3 BB B3
                      have BA : Hid (Below wc.heap.size wc (wc.alloc (.cells (enc y).toArray 24))) := hid ((Below.refl _ _).alloc (Nat.le_refl _) _)
                      have R5 := hid (row_one wc y)
                      go_wp2_with (first
                        | (refine wpList_ld rfl (.tmp 12) rfl rfl R4.out ?_)
                        | (refine wpList_bs rfl (.tmp 79) rfl rfl ?_)
                        | (at_builtin; refine wpList_apg rfl (.tmp 78) (.tmp 80) rfl rfl (OO4.out.below BA.out) rfl R5.out (by omega) (by omega) (Nat.le_trans B4.out.size BA.out.size) ?_; intro A7 c7 w9 own9 bel9 gr9))
                      have O9 : Hid (Own w9 w.heap.size A1 m' c1 l1) := hid (((O4.out.below BA.out).apart gr9 OO.out (Nat.le_refl _)).base_le BW.out.size)
                      have OO9 := hid own9
                      have B9 : Hid (Below w.heap.size w w9) := hid (B4.out.trans ((BA.out.mono B4.out.size).trans bel9))
                      clear own9 bel9 gr9
                      go_roundw
                      case rel =>
                        refine ⟨j + 1, by go_num, by omega, A1, m', c1, l1, A7, k + 1, c7, O ++ [y], rfl, rfl, O9.out, OO9.out, H1.out, ?_, by have := HKM.out; have := HMM.out; omega, B9.out⟩
                        rw [List.append_assoc]
                        exact (List.Perm.append_left O HP1.out.symm).trans HP.out
                      case measure => simp [intOf]; omega
                · go_wp2
                  go_meet
                  exact ⟨Ah, m, ch, L, Ao, k, co, O, rfl, rfl, OH.out, OO.out, HH.out, HP.out, HKM.out, BW.out⟩
            · have t2 : decide (np ≤ i) = true := decide_eq_true (by omega)
              have t2' : decide ((np : Int) ≤ (i : Int)) = true := decide_eq_true (by omega)
              go_wp2
              go_meet
              exact ⟨A2, m1, c2, l2, Ao, k, co, O, rfl, rfl, OH2.out, OO2.out, HH2.out, HP2.out, HK2.out, B2.out⟩
          case rest =>
            obtain ⟨Ah, m, ch, L, Ao, k, co, O, rfl, rfl, owh, owo, hh, hp, hlen, bel⟩ := hcut
            have OH := hid owh
            have OO := hid owo
            have HH := hid hh
            have HP := hid hp
            have BW := hid bel
            have HKM := hid hlen
            clear owh owo hh hp bel hlen
            go_wp2
            go_roundw
            case rel => exact ⟨i + 1, by go_num, by omega, Ah, m, ch, L, Ao, k, co, O, rfl, rfl, OH.out, OO.out, HH.out, HP.out, HKM.out, BW.out⟩
            case measure => simp [intOf]; omega
        · have HT : Hid (xs.take i = xs) := hid (List.take_of_length_le (by rw [HL.out]; omega))
          rw [HT.out] at HP
          go_wp2
          go_meet
          exact ⟨Ah, m, ch, L, Ao, k, co, O, rfl, rfl, OH.out, OO.out, HH.out, HP.out, by rw [HL.out, HKM.out]; omega, BW.out⟩
    case rest =>
      obtain ⟨Ah, m, ch, L, Ao, k0, co, O, rfl, rfl, owh, owo, hh, hp, hlen, bel⟩ := hcut
      have OH := hid owh
      have OO := hid owo
      have HH := hid hh
      have HP := hid hp
      have BW := hid bel
      have HKM := hid hlen
      have hk0 : k0 ≤ 100 := by rw [HL.out] at hlen; omega
      clear owh owo hh hp bel hlen
      go_upto_block 6 with fail
      go_cut [7] (OutIs w xs)
      case first =>
        go_wp2_with fail
        go_loopw [6, 7] (EndRel w xs k0) (fun t _ _ => lenV t)
        case atStart => exact ⟨Ah, m, ch, L, Ao, k0, co, O, rfl, rfl, OH.out, OO.out, HH.out, HP.out, HKM.out, Nat.le_refl _, fun h => absurd h (by omega), BW.out⟩
        case round =>
          clear OH OO HH HP BW HKM
          obtain ⟨Ah, m, ch, L, Ao, k, co, O, rfl, rfl, owh, owo, hh, hp, hlen, hkk, hlast, bel⟩ := hrel
          have OH := hid owh
          have OO := hid owo
          have HH := hid hh
          have HP := hid hp
          have BW := hid bel
          have HKM := hid hlen
          have HLA := hid hlast
          have hk1 : k + m ≤ 100 := by rw [HL.out] at hlen; omega
          clear owh owo hh hp bel hlen hlast
          by_cases hm0 : m = 0
          · subst hm0
            have hL0 : Hid (L = []) := hid (List.eq_nil_of_length_eq_zero OH.out.len)
            go_wp2
            go_meet
            exact ⟨Ao, k, co, O, rfl, OO.out, by have := HP.out; rw [hL0.out, List.append_nil] at this; exact this, BW.out⟩
          · obtain ⟨m', rfl⟩ : ∃ m', m = m' + 1 := ⟨m - 1, by omega⟩
            clear hm0
            obtain ⟨y, hy⟩ : ∃ y, nth L 0 = y := ⟨_, rfl⟩
            have PC := hid (pop_ok Ah m' ch wr.heap.size L y wr OH.out.row (Nat.le_refl _) (by omega) HH.out hy)
            have HY := hid hy
            have HYM : Hid (y ∈ L) := hid (by rw [← hy]; exact nth_mem (by rw [OH.out.len]; omega))
            clear hy
            obtain ⟨mm, hmm⟩ : ∃ mm, mm = m' + 1 := ⟨_, rfl⟩
            rw [← hmm] at PC HKM ⊢
            have HMM := hid hmm
            have tm : decide ((0 : Int) < (mm : Int)) = true := decide_eq_true (by omega)
            have tm' : decide (0 < mm) = true := decide_eq_true (by omega)
            have hm1 : m' + 1 + k ≤ 100 := by omega
            have em : (mm : Int) - 1 = (m' : Int) := by omega
            have hmb : mm ≤ 101 := by omega
            clear hmm hk1
            go_upto_region 36 with (first
              | (go_at_call 25; refine PC.out.mono ?_; rintro e w1 ⟨A1, c1, l1, rfl, ⟨hh1, hp1⟩, own1, bel1⟩)
              | (refine wpList_sv rfl (.tmp 18) (.tmp 93) rfl rfl rfl (there_new w1 zr) ?_; intro w3 r3 bel3 _; replace bel3 := ((Below.refl w1.heap.size w1).alloc (Nat.le_refl _) _).trans bel3))
            have hz3 : Hid (w1.heap.size < w3.heap.size) := hid (lt_of_range r3)
            have O1 : Hid (Own w3 wr.heap.size A1 m' c1 l1) := hid (own1.below bel3)
            have OO3 : Hid (Own w3 w.heap.size Ao k co O) := hid ((OO.out.below bel1).below bel3)
            have B3 : Hid (Below w.heap.size w w3) := hid (BW.out.trans ((bel1.mono BW.out.size).trans (bel3.mono (Nat.le_trans BW.out.size bel1.size))))
            have R3 := hid r3
            have H1 := hid hh1
            have HP1 : Hid (L.Perm (y :: l1)) := hid hp1
            have HLT : Hid (∀ z, z ∈ l1 → lt z y = false) := hid (fun z hz => by
              have := HH.out.least (hp1.mem_iff.2 (List.mem_cons_of_mem y hz))
              rwa [HY.out] at this)
            clear r3 hh1 hp1 own1 bel1 bel3 PC OH
            go_cut [121] (fun t wx => t = .bool false ∧ Below w3.heap.size w3 wx)
            case first =>
              by_cases hkk0 : k0 < k
              · obtain ⟨kk, hkq⟩ : ∃ kk, k = kk + 1 := ⟨k - 1, by omega⟩
                have RR := OO3.out.row
                obtain ⟨b5, o5, rfl, hb5, hc5⟩ := RR.all (by omega)
                have r5 := hid (hc5 kk (by omega))
                have HL9 : lt y (nth O kk) = false := by have := HLA.out hkk0 y HYM.out; rwa [show k - 1 = kk by omega] at this
                have LS := hid (fun d os => refless_q y (nth O kk) w3 d os)
                rw [HL9] at LS
                clear hc5 HL9 RR
                generalize nth O kk = z5 at *
                have ek : IntKind.i64.wrap ((k : Int) - 1) = (kk : Int) := by rw [show (k : Int) - 1 = (kk : Int) by omega]; exact IntWalk.i64_in _ (by omega)
                have emw : IntKind.i64.wrap ((mm : Int) - 1) = (m' : Int) := by rw [em]; exact IntWalk.i64_in _ (by omega)
                have d1 : decide (k0 < k) = true := decide_eq_true hkk0
                have d2 : decide ((k0 : Int) < (k : Int)) = true := decide_eq_true (by omega)
                have j1 : kk < k := by omega
                have j2 : (kk : Int) < (k : Int) := by omega
                have HKQ := hid hkq
                clear hkq em
                go_wp2_with fail
                refine wp_region_quiet_below (by kernel_rfl) (by kernel_rfl) ?_
                repeat (first | refine wpQuiet_ld rfl rfl rfl R3.out ?_ | refine wpQuiet_ld rfl rfl rfl r5.out ?_ | quiet_step (with_reducible exact LS.out _ _))
                refine wpQuiet_nil ?_
                intro _ hw'
                obtain ⟨⟨dq, osq⟩, hw''⟩ := hw'
                subst hw''
                go_wp2
                go_meet
                exact ⟨rfl, below_regrown w3 dq osq⟩
              · have d1 : decide (k0 < k) = false := decide_eq_false hkk0
                have d2 : decide ((k0 : Int) < (k : Int)) = false := decide_eq_false (by omega)
                go_wp2_with fail
                go_region
                go_wp2
                go_meet
                exact ⟨rfl, (Below.refl _ _).drew⟩
            case rest =>
              obtain ⟨rfl, hcut⟩ := hcut
              have O4 : Hid (Own wc wr.heap.size A1 m' c1 l1) := hid (O1.out.below hcut)
              have OO4 : Hid (Own wc w.heap.size Ao k co O) := hid (OO3.out.below hcut)
              have R4 : Hid (wc.rangeAt w1.heap.size 0 (enc y)) := hid (range_keep R3.out hz3.out hcut)
              have B4 : Hid (Below w.heap.size w wc) := hid (B3.out.trans (hcut.mono B3.out.size))
              have BA : Hid (Below wc.heap.size wc (wc.alloc (.cells (enc y).toArray 24))) := hid ((Below.refl _ _).alloc (Nat.le_refl _) _)
              have R5 := hid (row_one wc y)
              clear hcut O1 OO3 R3 B3 em
              go_wp2_with (first
                | (refine wpList_ld rfl (.tmp 18) rfl rfl R4.out ?_)
                | (refine wpList_bs rfl (.tmp 123) rfl rfl ?_)
                | (at_builtin; refine wpList_apg rfl (.tmp 122) (.tmp 124) rfl rfl (OO4.out.below BA.out) rfl R5.out (by omega) (by omega) (Nat.le_trans B4.out.size BA.out.size) ?_; intro A7 c7 w9 own9 bel9 gr9))
              have O9 : Hid (Own w9 w.heap.size A1 m' c1 l1) := hid (((O4.out.below BA.out).apart gr9 OO.out (Nat.le_refl _)).base_le BW.out.size)
              have OO9 := hid own9
              have B9 : Hid (Below w.heap.size w w9) := hid (B4.out.trans ((BA.out.mono B4.out.size).trans bel9))
              clear own9 bel9 gr9
              go_roundw
              case rel =>
                refine ⟨A1, m', c1, l1, A7, k + 1, c7, O ++ [y], rfl, rfl, O9.out, OO9.out, H1.out, ?_, by have := HKM.out; have := HMM.out; omega, by omega, fun _ z hz => ?_, B9.out⟩
                · rw [List.append_assoc]
                  exact (List.Perm.append_left O HP1.out.symm).trans HP.out
                · have e : nth (O ++ [y]) (k + 1 - 1) = y := nth_of (by rw [Nat.add_sub_cancel, List.getElem?_append_right (by rw [OO.out.len]; exact Nat.le_refl _), OO.out.len, Nat.sub_self]; rfl)
                  rw [e]
                  exact HLT.out z hz
              case measure => have := HMM.out; simp [lenV]; omega
      case rest =>
        obtain ⟨Ao, k, co, O, rfl, owo, hp, bel⟩ := hcut
        have OO := hid owo
        have HP := hid hp
        have BW := hid bel
        have hkn : k ≤ 100 := by have := hp.length_eq; rw [owo.len, HL.out] at this; omega
        clear owo hp bel OH HH HKM
        have HE : Hid (decide (srt O = srt xs) = true) := hid (decide_eq_true (srt_of_perm HP.out))
        go_wp2_with (first
          | (go_at_call 20; ((with_reducible refine (refsorted_any Ao k co wc.heap.size O wc OO.out.row (Nat.le_refl _) (by omega)).mono ?_); rintro e w2 ⟨A3, c3, l3, rfl, hl3, own3, bel3⟩))
          | (go_at_call 20; ((with_reducible refine (refsorted_any A n c w.heap.size xs w2 (HA.out.below (BW.out.trans (bel3.mono BW.out.size))) (Nat.le_trans BW.out.size bel3.size) (by omega)).mono ?_); rintro e w4 ⟨A5, c5, l5, rfl, hl5, own5, bel5⟩))
          | (go_at_call 19; refine (same_any A3 A5 k c3 n c5 w2.heap.size w4.heap.size l3 l5 true w4 (own3.row.below bel5) own5.row bel5.size (Nat.le_refl _) (by omega) (by omega) (by rw [hl3, hl5]; exact HE.out)).mono ?_; rintro e w6 ⟨rfl, bel6⟩))
        go_ret
        exact ⟨rfl, BW.out.trans ((bel3.mono BW.out.size).trans ((bel5.mono (Nat.le_trans BW.out.size bel3.size)).trans (bel6.mono (Nat.le_trans BW.out.size (Nat.le_trans bel3.size bel5.size)))))⟩
theorem orders_row {w : World} (A : Option Addr) (n c : Nat) (xs : List It) (ha : Row w w.heap.size A n xs) (_ : n ≤ c) (hc : c ≤ 9223372036854775807) (P : Option Addr) (np cp : Nat) (zs : List Nat) (hz : Bytes w P np zs ∧ np ≤ 9223372036854775807) :
    Calls Try.prog 6 #[.slice A n c, .slice P np cp] w fun e w' => e = .returned (.bool true) ∧ Below w.heap.size w w' := orders_any A n c xs P np cp zs w ha (by omega) hz.1 hz.2
end Go.Proofs.Ytopdklmhiglehaa
