/-
  The walk of HeapMerges: at any two lists it answers true.
-/
import Derived.Test.YtopdklmhiglehaaM
import Derived.Test.YtopdklmhiglehaaY
import Derived.Test.YtopdklmhiglehaaR
namespace Go.Proofs.Ytopdklmhiglehaa
open Go Go.ChangeShapes Go.WideShapes Go.ChangeAt Go.RowKit

theorem came_itz {H : Type} {hv : TypeId × Value → H} {W : World} {A : Option Addr} {n c : Nat} {d : DataW H} {p : List MemPlace} (h : DataW.Trod hv Try.prog W 0 (fun _ => true) true 25 (.slice A n c) d p) :
    d = .nil ∧ c = 0 ∨ ∃ l r, d = .slice l r ∧ l.length + r.length = c := by
  obtain ⟨fuel, hf⟩ := h
  rcases Deep.open_slice Try.underlying25 hf with ⟨hcs, hx⟩ | ⟨a, len, cap, m, k, D, Pl, hcs, _, hl, hm, hmm, hx, hi⟩
  · simp [Value.cells] at hcs
    obtain ⟨rfl, rfl, rfl⟩ := hcs
    exact .inl ⟨(Prod.mk.inj hx).1, rfl⟩
  · simp [Value.cells] at hcs
    obtain ⟨rfl, rfl, rfl⟩ := hcs
    simp only [if_true] at hmm
    rw [hmm] at hx
    exact .inr ⟨_, _, (Prod.mk.inj hx).1, by simp; omega⟩
theorem wpList_ldx {w : World} {ops : Array Oper} {rest : List Oper} {op : Oper} {a : Act} {Q : Exit → Act → World → Prop} (hgd : Region.wanted op (yielded ops a.tmps) = true) (x : Operand) (ho : op.op = .load 24 x) {b o : Nat} {v : It} (hx : a.eval x = .pointer (some ⟨b, o, none⟩))
    (hr : w.rangeAt b o (enc v)) (h : wpList Try.prog ops Q rest (a.put op.dst (itv v)) w) : wpList Try.prog ops Q (op :: rest) a w :=
  wpList_step fun _ hK => by rw [if_pos hgd]; exact wp_load_mid 24 x ho b o hx (enc v) _ hr Try.underlying24 rfl (by rw [size24]; rfl) (hK _ _ h)
theorem lt_rngx {w : World} {b o : Nat} {x : It} (h : w.rangeAt b o (enc x)) : b < w.heap.size := World.block_lt_of_cell? w ⟨b, o + 0, none⟩ (h 0 _ rfl)
theorem first_srtx {l : List It} (h : Hp l) (hl : 0 < l.length) : nth (srt l) 0 = nth l 0 := by
  have h1 : nth (srt l) 0 ∈ l := (srt_perm l).mem_iff.1 (nth_mem (by rw [srt_len]; exact hl))
  have h2 : nth l 0 ∈ srt l := (srt_perm l).mem_iff.2 (nth_mem hl)
  refine lt_tri (h.least h1) ?_
  obtain ⟨i, hi, e⟩ := mem_nth h2
  rw [← e]
  by_cases h0 : i = 0
  · subst h0; exact lt_irr _
  · have := List.pairwise_iff_getElem.1 (srt_srt l) 0 i (by omega) hi (by omega)
    have e0 : nth (srt l) 0 = (srt l)[0]'(by omega) := nth_of (List.getElem?_eq_getElem _)
    have ei : nth (srt l) i = (srt l)[i] := nth_of (List.getElem?_eq_getElem _)
    rw [e0, ei]; exact this
theorem srt_tailx {l m : List It} {x : It} (h : l.Perm (x :: m)) (hx : nth (srt l) 0 = x) : srt m = (srt l).tail := by
  have hl : 0 < (srt l).length := by rw [srt_len, h.length_eq]; simp
  have e : srt l = x :: (srt l).tail := by
    cases q : srt l with
    | nil => rw [q] at hl; simp at hl
    | cons y t => rw [q] at hx; simp [nth] at hx; subst hx; rfl
  refine srt_uniq (srt_srt m) ?_ ?_
  · have := srt_srt l; rw [e] at this; exact (List.pairwise_cons.1 this).2
  · refine (srt_perm m).trans ?_
    have := ((srt_perm l).trans h)
    rw [e] at this
    exact this.cons_inv.symm

theorem btr {a b c : World} (h : Below a.heap.size a b) (k : Below b.heap.size b c) : Below a.heap.size a c := h.trans (k.mono h.size)
def MerRel (w w5 : World) (xs ys : List It) (m : Nat) (t44 t9 t10 : Value) (wr : World) : Prop :=
  ∃ (i : Nat) (A : Option Addr) (k c : Nat) (l : List It), t44 = .int .i64 (i : Int) ∧ t9 = .slice A k c ∧ t10 = .int .i64 0 ∧ i ≤ m ∧ k = xs.length + i ∧ Own wr w.heap.size A k c l ∧ Hp l ∧ l.Perm (xs ++ ys.take i) ∧ Below w5.heap.size w5 wr
def PopsRel (w : World) (Z : List It) (t84 t9 : Value) (wr : World) : Prop :=
  ∃ (i : Nat) (A : Option Addr) (k c : Nat) (l : List It), t84 = .int .i64 (i : Int) ∧ t9 = .slice A k c ∧ i + k = Z.length ∧ Own wr w.heap.size A k c l ∧ Hp l ∧ srt l = Z.drop i ∧ Below w.heap.size w wr
set_option maxRecDepth 100000 in
set_option maxHeartbeats 8000000 in
theorem merges_any (A D : Option Addr) (n c m d : Nat) (xs ys : List It) (w : World) (ha : Row w w.heap.size A n xs) (hb : Row w w.heap.size D m ys) (hn : n ≤ 140737488351232) (hm : m ≤ 140737488351232) :
    Calls Try.prog 9 #[.slice A n c, .slice D m d] w fun e w' => e = .returned (.bool true) ∧ Below w.heap.size w w' := by
  have HA := hid ha
  have HD := hid hb
  have LA := hid ha.1
  have LD := hid hb.1
  clear ha hb
  by_cases hbig : 150 < n + m
  · have t1 : decide (150 < n + m) = true := decide_eq_true hbig
    have t1' : decide (150 < (n : Int) + (m : Int)) = true := decide_eq_true (by omega)
    go_enter Try.func9, Try.ntmps9
    go_wp2_with (go_at_call 10; refine (live_any _).mono ?_; rintro e w1 ⟨rfl, bel1⟩)
    go_ret
    exact ⟨rfl, bel1⟩
  · have t1 : decide (150 < n + m) = false := decide_eq_false hbig
    have t1' : decide (150 < (n : Int) + (m : Int)) = false := decide_eq_false (by omega)
    have hnm : n + m ≤ 150 := by omega
    clear hbig
    go_enter Try.func9, Try.ntmps9
    go_upto_block 0 with (first
      | (go_at_call 10; refine (live_any _).mono ?_; rintro e w1 ⟨rfl, bel1⟩)
      | (at_builtin; refine wpList_ap rfl (.const (.slice none 0 0)) (.tmp 28) rfl (base := w1.heap.size) (l := []) rfl (Own.nil _ _) rfl (HA.out.below bel1) (by omega) (Nat.le_refl _) ?_; intro A2 c2 w2 own2 bel2; rw [Nat.zero_add, List.nil_append] at own2)
      | (at_builtin; refine wpList_ap rfl (.tmp 29) (.tmp 30) rfl rfl own2 rfl (HD.out.below (bel1.trans (bel2.mono bel1.size))) (by omega) bel2.size ?_; intro A3 c3 w3 own3 bel3)
      | (go_at_call 21; ((with_reducible refine (build_any A3 (n + m) c3 w3.heap.size (xs ++ ys) w3 own3.row (Nat.le_refl _) (by omega)).mono ?_); rintro e w4 ⟨A4, c4, l4, rfl, ⟨hh4, hp4⟩, own4, bel4⟩))
      | (go_at_call 21; refine (build_any A n c w.heap.size xs w4 (HA.out.below (bel1.trans ((bel2.trans (bel3.trans (bel4.mono (Nat.le_trans bel2.size bel3.size)))).mono bel1.size))) (Nat.le_trans bel1.size (Nat.le_trans bel2.size (Nat.le_trans bel3.size bel4.size))) (by omega)).mono ?_; rintro e w5 ⟨A5, c5, l5, rfl, ⟨hh5, hp5⟩, own5, bel5⟩))
    have B3 : Hid (Below w.heap.size w w3) := hid (bel1.trans ((bel2.trans bel3).mono bel1.size))
    have B5 : Hid (Below w.heap.size w w5) := hid (B3.out.trans ((btr bel4 bel5).mono B3.out.size))
    have RA3 : Hid (Row w5 w5.heap.size A3 (n + m) (xs ++ ys)) := hid ((own3.row.below (btr bel4 bel5)).more (btr bel4 bel5).size)
    have RH : Hid (Row w5 w5.heap.size A4 (n + m) l4) := hid ((own4.row.below bel5).more bel5.size)
    have H4 := hid hh4
    have P4 := hid hp4
    have O5 : Hid (Own w5 w.heap.size A5 n c5 l5) := hid (own5.base_le (Nat.le_trans B3.out.size bel4.size))
    have H5 := hid hh5
    have P5 := hid hp5
    clear own2 own3 own4 own5 bel1 bel2 bel3 bel4 bel5 hh4 hp4 hh5 hp5 B3
    go_cut [9, 10] (fun t9 t10 wx => ∃ (Ag : Option Addr) (cg : Nat) (lg : List It), t9 = .slice Ag (n + m) cg ∧ t10 = .int .i64 0 ∧ Own wx w.heap.size Ag (n + m) cg lg ∧ Hp lg ∧ lg.Perm (xs ++ ys) ∧ Below w5.heap.size w5 wx)
    case first =>
      go_wp2_with fail
      go_loopw [44, 9, 10] (MerRel w w5 xs ys m) (fun t _ _ _ => m - (intOf t).toNat)
      case atStart => exact ⟨0, A5, n, c5, l5, rfl, rfl, rfl, by omega, by rw [LA.out]; rfl, O5.out, H5.out, by simpa using P5.out, Below.refl _ _⟩
      case round =>
        obtain ⟨i, Ag, k, cg, l, rfl, rfl, rfl, hi, hk, own, hh, hp, bel⟩ := hrel
        have OW := hid own
        have HH := hid hh
        have HP := hid hp
        have BW := hid bel
        have HK := hid hk
        have hk2 : k ≤ n + i := by rw [LA.out] at hk; omega
        have BWW : Hid (Below w.heap.size w wr) := hid (B5.out.trans (bel.mono B5.out.size))
        clear own hh hp bel hk
        by_cases hlt : i < m
        · have RR : Hid (Row wr w.heap.size D m ys) := hid (HD.out.below BWW.out)
          obtain ⟨b, o, rfl, hb, hc⟩ := RR.out.all (by omega)
          have r1 := hid (hc i hlt)
          have i1 : (i : Int) < (m : Int) := by omega
          have HTK : Hid (ys.take (i + 1) = ys.take i ++ [nth ys i]) := hid (by rw [List.take_add_one, nth_get (by rw [LD.out]; exact hlt)]; rfl)
          generalize nth ys i = x at *
          clear hc
          go_wp2_with (first
            | (refine wpList_ld rfl (.tmp 46) rfl rfl r1.out ?_)
            | (refine wpList_sv rfl (.tmp 12) (.tmp 47) rfl rfl rfl (there_new wr zr) ?_; intro w6 r6 bel6 _; replace bel6 := ((Below.refl wr.heap.size wr).alloc (Nat.le_refl _) _).trans bel6)
            | (refine wpList_ld rfl (.tmp 12) rfl rfl r6 ?_)
            | (go_at_call 23; refine (push_ok Ag k cg w6.heap.size l x w6 (OW.out.below bel6).row (Nat.le_refl _) (by omega) HH.out).mono ?_; rintro e w7 ⟨A7, c7, l7, rfl, ⟨hh7, hp7⟩, own7, bel7⟩))
          go_roundw
          case rel =>
            refine ⟨i + 1, A7, k + 1, c7, l7, by go_num, rfl, rfl, by omega, by rw [HK.out]; omega, own7.base_le (Nat.le_trans BWW.out.size bel6.size), hh7, ?_, btr BW.out (btr bel6 bel7)⟩
            rw [HTK.out, ← List.append_assoc]
            exact hp7.trans ((HP.out.cons x).trans (List.perm_append_comm (l₁ := [x]) (l₂ := xs ++ ys.take i)))
          case measure => simp [intOf]; omega
        · have hkk : Hid (k = n + m) := hid (by rw [HK.out, LA.out]; omega)
          have HT : Hid (ys.take i = ys) := hid (List.take_of_length_le (by rw [LD.out]; omega))
          rw [HT.out] at HP
          have hkk2 := hkk.out
          subst hkk2
          go_wp2
          go_meet
          exact ⟨Ag, cg, l, rfl, rfl, OW.out, HH.out, HP.out, BW.out⟩
    case rest =>
      obtain ⟨Ag, cg, lg, rfl, rfl, owg, hhg, hpg, bel⟩ := hcut
      have OG := hid owg
      have HG := hid hhg
      have PG := hid hpg
      have BW := hid bel
      have BC : Hid (Below w.heap.size w wc) := hid (B5.out.trans (bel.mono B5.out.size))
      have R3 : Hid (Row wc wc.heap.size A3 (n + m) (xs ++ ys)) := hid ((RA3.out.below bel).more bel.size)
      have RHc : Hid (Row wc wc.heap.size A4 (n + m) l4) := hid ((RH.out.below bel).more bel.size)
      have C4 : Hid ((chk l4 && decide (n + m ≤ 4096)) = true) := hid (by rw [(chk_iff _).2 H4.out, decide_eq_true (show n + m ≤ 4096 by omega)]; rfl)
      have CG : Hid ((chk lg && decide (n + m ≤ 4096)) = true) := hid (by rw [(chk_iff _).2 hhg, decide_eq_true (show n + m ≤ 4096 by omega)]; rfl)
      have SE : Hid (srt l4 = srt (xs ++ ys) ∧ srt lg = srt (xs ++ ys)) := hid ⟨srt_of_perm P4.out, srt_of_perm hpg⟩
      obtain ⟨N, hN⟩ : ∃ N, N = n + m := ⟨_, rfl⟩
      have LN : Hid (N = (srt (xs ++ ys)).length) := hid (by rw [srt_len, List.length_append, LA.out, LD.out, hN])
      rw [← hN] at OG R3 RHc C4 CG ⊢
      have hN2 : N ≤ 150 := by omega
      clear owg hhg hpg bel RA3 RH O5 H5 P5 hN BW t1 t1'
      go_upto_block 2 with (first
        | (go_at_call 18; ((with_reducible refine (refcheck_any A4 N c4 wc.heap.size l4 true wc RHc.out (Nat.le_refl _) (by omega) C4.out).mono ?_); rintro e v1 ⟨rfl, be1⟩))
        | (go_at_call 18; ((with_reducible refine (refcheck_any Ag N cg wc.heap.size lg true v1 (OG.out.row.below be1) be1.size (by omega) CG.out).mono ?_); rintro e v2 ⟨rfl, be2⟩; replace be2 := btr be1 be2))
        | (go_at_call 20; ((with_reducible refine (refsorted_any A4 N c4 wc.heap.size l4 v2 (RHc.out.below be2) be2.size (by omega)).mono ?_); rintro e v3 ⟨B1, d1, m1, rfl, hm1, on1, be3⟩))
        | (go_at_call 20; ((with_reducible refine (refsorted_any Ag N cg wc.heap.size lg v3 (OG.out.row.below (btr be2 be3)) (btr be2 be3).size (by omega)).mono ?_); rintro e v4 ⟨B2, d2, m2, rfl, hm2, on2, be4⟩))
        | (go_at_call 19; refine (same_any B1 B2 N d1 N d2 v3.heap.size v4.heap.size m1 m2 true v4 (on1.row.below be4) on2.row be4.size (Nat.le_refl _) (by omega) (by omega) (decide_eq_true (by rw [hm1, hm2, SE.out.1, SE.out.2]))).mono ?_; rintro e v5 ⟨rfl, be5⟩; replace be5 := btr be2 (btr be3 (btr be4 be5)))
        | (go_at_call 12; refine (sorted_any A3 N c3 wc.heap.size (xs ++ ys) v5 (R3.out.below be5) be5.size (by omega)).mono ?_; rintro e v6 ⟨B6, d6, m6, rfl, hm6, on6, be6⟩))
      have BV : Hid (Below w.heap.size w v6) := hid (BC.out.trans ((btr be5 be6).mono BC.out.size))
      have OV : Hid (Own v6 w.heap.size Ag N cg lg) := hid (OG.out.below (btr be5 be6))
      have RV : Hid (Row v6 v6.heap.size B6 N (srt (xs ++ ys))) := hid (by rw [← hm6]; exact on6.row)
      have SG : Hid (srt lg = srt (xs ++ ys)) := hid SE.out.2
      clear on1 on2 on6 hm1 hm2 hm6 be1 be2 be3 be4 be5 be6 R3 RHc C4 CG OG BC SE P4 H4
      generalize srt (xs ++ ys) = Z at *
      go_cut [9] (fun t9 wx => ∃ (Af : Option Addr) (cf9 : Nat), t9 = .slice Af 0 cf9 ∧ Below w.heap.size w wx)
      case first =>
        go_wp2_with fail
        go_loopw [84, 9] (fun t84 t9 wr => PopsRel w Z t84 t9 wr ∧ Below v6.heap.size v6 wr) (fun t _ _ => N - (intOf t).toNat)
        case atStart => exact ⟨⟨0, Ag, N, cg, lg, rfl, rfl, by rw [Nat.zero_add]; exact LN.out, OV.out, HG.out, by simpa using SG.out, BV.out⟩, Below.refl _ _⟩
        case round =>
          clear OV HG SG
          obtain ⟨⟨i, Ap, k, cp, l, rfl, rfl, hik, own, hh, hs, bel⟩, bel2⟩ := hrel
          have OW := hid own
          have HH := hid hh
          have HS := hid hs
          have BW := hid bel
          have B2 := hid bel2
          have HIK := hid hik
          have hik2 : i + k = N := by rw [LN.out]; exact hik
          clear own hh hs bel bel2 hik
          by_cases hlt : i < N
          · obtain ⟨k', hk'⟩ : ∃ k', k = k' + 1 := ⟨k - 1, by omega⟩
            have RR : Hid (Row wr v6.heap.size B6 N Z) := hid (RV.out.below B2.out)
            obtain ⟨b, o, rfl, hb, hc⟩ := RR.out.all (by omega)
            have r1 := hid (hc i hlt)
            have i1 : (i : Int) < (N : Int) := by omega
            have hll : 0 < l.length := by rw [OW.out.len]; omega
            have hz : Hid (nth l 0 = nth Z i) := hid (by
              rw [← first_srtx HH.out hll, HS.out]
              unfold nth List.getD
              rw [List.getElem?_drop, Nat.add_zero])
            obtain ⟨y, hy⟩ : ∃ y, nth Z i = y := ⟨_, rfl⟩
            have PC := hid (fun w6 (be : Below wr.heap.size wr w6) => pop_ok Ap k' cp w6.heap.size l y w6 (by rw [← hk']; exact (OW.out.below be).row) (Nat.le_refl _) (by omega) HH.out (by rw [hz.out, hy]))
            rw [← hk'] at PC
            rw [hy] at r1
            have HY := hid hy
            have HKK := hid hk'
            have q1 : ∀ w, (binOp .neq 24 (itv y) (itv y)).run Try.prog w = .ok (.bool false) w := fun w => by rw [neItv]; simp
            have q2 := fun p q w => guItv .neq p q y y w
            clear hc hy hk'
            go_wp2_with (first
              | (refine wpList_ld rfl (.tmp 86) rfl rfl r1.out ?_)
              | (refine wpList_sv rfl (.tmp 14) (.tmp 87) rfl rfl rfl (there_new wr zr) ?_; intro w6 r6 bel6 _; replace bel6 := ((Below.refl wr.heap.size wr).alloc (Nat.le_refl _) _).trans bel6)
              | (go_at_call 25; refine (PC.out w6 bel6).mono ?_; rintro e w7 ⟨A7, c7, l7, rfl, ⟨hh7, hp7⟩, own7, bel7⟩)
              | (refine wpList_sv rfl (.tmp 15) (.tmp 91) rfl rfl rfl (there_new w7 zr) ?_; intro w8 r8 bel8 _; replace bel8 := ((Below.refl w7.heap.size w7).alloc (Nat.le_refl _) _).trans bel8)
              | (refine wpList_ldx rfl (.tmp 15) rfl rfl r8 ?_)
              | (refine wpList_ldx rfl (.tmp 14) rfl rfl (range_keep r6 (lt_rngx r6) (btr bel7 bel8)) ?_))
            have bel9 := btr bel6 (btr bel7 bel8)
            go_roundw
            case rel =>
              refine ⟨⟨i + 1, A7, k', c7, l7, by go_num, rfl, by have := HIK.out; have := HKK.out; omega, (own7.below bel8).base_le (Nat.le_trans BW.out.size bel6.size), hh7, ?_, BW.out.trans (bel9.mono BW.out.size)⟩, B2.out.trans (bel9.mono B2.out.size)⟩
              have e1 := srt_tailx hp7 (by rw [first_srtx HH.out hll, hz.out, HY.out])
              rw [e1, HS.out, List.tail_drop]
            case measure => simp [intOf]; omega
          · obtain rfl : k = 0 := by omega
            go_wp2
            go_meet
            exact ⟨Ap, cp, rfl, BW.out⟩
      case rest =>
        obtain ⟨Af, cf9, rfl, bel⟩ := hcut
        have BF := hid bel
        clear bel
        go_wp2
        go_ret
        exact ⟨rfl, BF.out⟩
theorem merges_row {w : World} (A : Option Addr) (n c : Nat) (xs : List It) (ha : Row w w.heap.size A n xs) (hn : n ≤ c) (hc : c ≤ 140737488351232) (D : Option Addr) (m d : Nat) (ys : List It) (hb : Row w w.heap.size D m ys) (hm : m ≤ d) (hd : d ≤ 140737488351232) :
    Calls Try.prog 9 #[.slice A n c, .slice D m d] w fun e w' => e = .returned (.bool true) ∧ Below w.heap.size w w' := merges_any A D n c m d xs ys w ha hb (by omega) (by omega)
end Go.Proofs.Ytopdklmhiglehaa
