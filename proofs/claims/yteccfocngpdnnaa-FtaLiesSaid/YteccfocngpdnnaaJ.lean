/-
  The walk of FtaLies: three or more clocks are read by two nodes, each reading off by no more than so much, and one liar tells each of them whatever it will: how far their means are apart.
-/
import Derived.Test.YteccfocngpdnnaaH
namespace Go.Proofs.Yteccfocngpdnnaa
open Go Go.RowKit

/-- What two nodes read, side by side with the clocks. -/
def LiRel (cs : List Int) (w : World) (x y own i : Value) (wr : World) : Prop :=
  ∃ (k c0 c1 c2 : Nat) (A0 A1 A2 : Option Addr) (xs ys : List Int), k ≤ cs.length ∧ i = .int .i64 (k : Int) ∧ own = .slice A0 k c0 ∧ x = .slice A1 k c1 ∧ y = .slice A2 k c2 ∧ Hid (Own wr w.heap.size 2 A0 k c0 (sv (cs.take k))) ∧
    Hid (Own wr w.heap.size 2 A1 k c1 (sv xs)) ∧ Hid (Own wr w.heap.size 2 A2 k c2 (sv ys)) ∧ Hid (Apt A0 A1) ∧ Hid (Apt A0 A2) ∧ Hid (Apt A1 A2) ∧ Hid (Below w.heap.size w wr) ∧ Hid (Near 32768 (cs.take k) xs) ∧ Hid (Near 32768 (cs.take k) ys)
/-- A slice of numbers of a kind that came in, at a place. -/
theorem Row.kth {kd : IntKind} {w : World} {B n : Nat} {A : Option Addr} {l : List Int} (h : Row w B A n (l.map (Value.int kd))) {k : Nat} (hk : k < n) :
    ∃ b o, A = some ⟨b, o, none⟩ ∧ k < l.length ∧ w.cell? ⟨b, o + k, none⟩ = some (.int kd (l.getD k 0)) := by
  have hl : l.length = n := by simpa using h.1
  obtain ⟨b, o, u, e, _, hu, hc⟩ := h.at_ hk
  have hkl : k < l.length := by omega
  refine ⟨b, o, e, hkl, ?_⟩
  rw [List.getElem?_map, List.getElem?_eq_getElem hkl] at hu
  rw [hc, ← hu]
  simp [List.getD, List.getElem?_eq_getElem hkl]
theorem getD_in {l : List Int} {lo hi : Int} (h : ∀ z ∈ l, lo ≤ z ∧ z ≤ hi) {k : Nat} (hk : k < l.length) : lo ≤ l.getD k 0 ∧ l.getD k 0 ≤ hi := h _ (getD_mem hk)
theorem lies_out (A : Option Addr) (n c : Nat) (Aa : Option Addr) (na ca : Nat) (Ab : Option Addr) (nb cb : Nat) (lie other : Int) (w : World) (hn : n ≤ 140737488351232) (h : n < 3 ∨ 40 < n) :
    Calls Try.prog 3 #[.slice A n c, .slice Aa na ca, .slice Ab nb cb, .int .i64 lie, .int .i64 other] w (TrueB w) := by
  rcases h with h | h
  · go_enter Try.func3, Try.ntmps3
    go_wp2_with (go_at_call 6; (with_reducible refine (live_any w).mono ?_); rintro e w1 ⟨rfl, b1⟩; have B1 := hid b1; clear b1)
    go_ret
    exact ⟨rfl, B1.out⟩
  · go_enter Try.func3, Try.ntmps3
    go_wp2_with (go_at_call 6; (with_reducible refine (live_any w).mono ?_); rintro e w1 ⟨rfl, b1⟩; have B1 := hid b1; clear b1)
    go_ret
    exact ⟨rfl, B1.out⟩
set_option maxRecDepth 100000 in
set_option maxHeartbeats 8000000 in
theorem lies_walk (A : Option Addr) (n c : Nat) (cs : List Int) (Aa : Option Addr) (na ca : Nat) (al : List Int) (Ab : Option Addr) (nb cb : Nat) (bs : List Int) (lie other : Int) (w : World)
    (hc : Row w w.heap.size A n (cs.map (Value.int .i32))) (ha : Row w w.heap.size Aa na (al.map (Value.int .i16))) (hb : Row w w.heap.size Ab nb (bs.map (Value.int .i16)))
    (ic : ∀ z ∈ cs, -2147483648 ≤ z ∧ z ≤ 2147483647) (ia : ∀ z ∈ al, -32768 ≤ z ∧ z ≤ 32767) (ib : ∀ z ∈ bs, -32768 ≤ z ∧ z ≤ 32767) (hna : na ≤ 140737488351232) (hnb : nb ≤ 140737488351232)
    (h3 : 3 ≤ n) (h40 : n ≤ 40) :
    Calls Try.prog 3 #[.slice A n c, .slice Aa na ca, .slice Ab nb cb, .int .i64 lie, .int .i64 other] w (TrueB w) := by
  have hl : cs.length = n := by simpa using hc.1
  have HL := hid hl
  have HC := hid hc
  have HA := hid ha
  have HB := hid hb
  have IC := hid ic
  have IA := hid ia
  have IB := hid ib
  clear hc ha hb hl ic ia ib
  obtain ⟨L, hL, L0, L1⟩ : ∃ L, lie.tmod 1125899906842624 = L ∧ -1125899906842624 ≤ L ∧ L ≤ 1125899906842624 := ⟨_, rfl, by have := Int.tmod_lt_of_pos (-lie) (show (0:Int) < 1125899906842624 by omega); rw [Int.neg_tmod] at this; omega, by have := Int.tmod_lt_of_pos lie (show (0:Int) < 1125899906842624 by omega); omega⟩
  obtain ⟨T, hT, T0, T1⟩ : ∃ L, other.tmod 1125899906842624 = L ∧ -1125899906842624 ≤ L ∧ L ≤ 1125899906842624 := ⟨_, rfl, by have := Int.tmod_lt_of_pos (-other) (show (0:Int) < 1125899906842624 by omega); rw [Int.neg_tmod] at this; omega, by have := Int.tmod_lt_of_pos other (show (0:Int) < 1125899906842624 by omega); omega⟩
  go_enter Try.func3, Try.ntmps3
  go_wp2_with (go_at_call 6; (with_reducible refine (live_any w).mono ?_); rintro e w1 ⟨rfl, b1⟩; have B1 := hid b1; clear b1)
  go_loopw [12, 13, 14, 45] (LiRel cs w) (fun _ _ _ i _ => n - (intOf i).toNat)
  case atStart => exact ⟨0, 0, 0, 0, none, none, none, [], [], Nat.zero_le _, rfl, rfl, rfl, rfl, hid (Own.nil _ _ _), hid (Own.nil _ _ _), hid (Own.nil _ _ _), hid (.inl rfl), hid (.inl rfl), hid (.inl rfl), B1, hid trivial, hid trivial⟩
  case round =>
    obtain ⟨k, c0, c1, c2, A0, A1, A2, xs, ys, hk, rfl, rfl, rfl, rfl, O0, O1, O2, P01, P02, P12, BW, N1, N2⟩ := hrel
    have hl := HL.out
    have hkn : k ≤ n := by omega
    clear hl hk
    by_cases hlt : k < n
    · obtain ⟨b, o, rfl, hkl, hcell⟩ := (HC.out.below BW.out).kth hlt
      have hz := getD_in IC.out hkl
      have HT : Hid (cs.take (k + 1) = cs.take k ++ [cs.getD k 0]) := hid (by rw [List.take_succ_eq_append_getElem hkl]; simp [List.getD, List.getElem?_eq_getElem hkl])
      generalize cs.getD k 0 = z at *
      have z0 := hz.1
      have z1 := hz.2
      clear hz hkl
      by_cases ka : k < na
      · obtain ⟨ba, oa, rfl, hka, hca⟩ := (HA.out.below BW.out).kth ka
        have hp := getD_in IA.out hka
        generalize al.getD k 0 = p at *
        have p0 := hp.1
        have p1 := hp.2
        clear hp hka
        by_cases kb : k < nb
        · obtain ⟨bb, obb, rfl, hkb, hcb⟩ := (HB.out.below BW.out).kth kb
          have hq := getD_in IB.out hkb
          generalize bs.getD k 0 = q at *
          have q0 := hq.1
          have q1 := hq.2
          clear hq hkb
          go_wp2_with (first
              | (at_builtin; refine wpList_push rfl (.tmp 80) (.tmp 85) rfl w.heap.size A2 k c2 (ys) rfl U2.out (z + q) rfl (by omega) Bw4.out.size ?_; intro A5 c5 w5 o' b' k'; have X2 : Hid (Own w5 w.heap.size 2 A5 (k + 1) c5 (sv (ys ++ [z + q]))) := hid o'; have Bw5 : Hid (Below w.heap.size w w5) := hid (Bw4.out.trans b'); have kk := k' _ _ _ _ _ U0.out T23.out.symm; have X0 : Hid (Own w5 w.heap.size 2 A3 (k + 1) c3 (sv (cs.take k ++ [z]))) := hid kk.1; have Y05 : Hid (Apt A3 A5) := hid kk.2; clear kk; have kk := k' _ _ _ _ _ U1.out V24.out.symm; have X1 : Hid (Own w5 w.heap.size 2 A4 (k + 1) c4 (sv (xs ++ [z + p]))) := hid kk.1; have Y15 : Hid (Apt A4 A5) := hid kk.2; clear kk; clear o' b' k')
              | (at_builtin; refine wpList_push rfl (.tmp 73) (.tmp 78) rfl w.heap.size A1 k c1 (xs) rfl Q1.out (z + p) rfl (by omega) Bw3.out.size ?_; intro A4 c4 w4 o' b' k'; have U1 : Hid (Own w4 w.heap.size 2 A4 (k + 1) c4 (sv (xs ++ [z + p]))) := hid o'; have Bw4 : Hid (Below w.heap.size w w4) := hid (Bw3.out.trans b'); have kk := k' _ _ _ _ _ Q0.out T13.out.symm; have U0 : Hid (Own w4 w.heap.size 2 A3 (k + 1) c3 (sv (cs.take k ++ [z]))) := hid kk.1; have V04 : Hid (Apt A3 A4) := hid kk.2; clear kk; have kk := k' _ _ _ _ _ Q2.out P12.out.symm; have U2 : Hid (Own w4 w.heap.size 2 A2 k c2 (sv (ys))) := hid kk.1; have V24 : Hid (Apt A2 A4) := hid kk.2; clear kk; clear o' b' k')
              | (at_builtin; refine wpList_push rfl (.tmp 68) (.tmp 71) rfl w.heap.size A0 k c0 (cs.take k) rfl O0.out (z) rfl (by omega) BW.out.size ?_; intro A3 c3 w3 o' b' k'; have Q0 : Hid (Own w3 w.heap.size 2 A3 (k + 1) c3 (sv (cs.take k ++ [z]))) := hid o'; have Bw3 : Hid (Below w.heap.size w w3) := hid (BW.out.trans b'); have kk := k' _ _ _ _ _ O1.out P01.out.symm; have Q1 : Hid (Own w3 w.heap.size 2 A1 k c1 (sv (xs))) := hid kk.1; have T13 : Hid (Apt A1 A3) := hid kk.2; clear kk; have kk := k' _ _ _ _ _ O2.out P02.out.symm; have Q2 : Hid (Own w3 w.heap.size 2 A2 k c2 (sv (ys))) := hid kk.1; have T23 : Hid (Apt A2 A3) := hid kk.2; clear kk; clear o' b' k'))
          · refine ⟨⟨k + 1, c3, c4, c5, A3, A4, A5, xs ++ [z + p], ys ++ [z + q], by rw [HL.out]; omega, by go_num, rfl, rfl, rfl, hid ?_, X1, X2, V04, Y05, Y15, Bw5, hid ?_, hid ?_⟩, by simp [intOf]; omega⟩
            · rw [HT.out]; exact X0.out
            · rw [HT.out]; exact N1.out.snoc (by omega)
            · rw [HT.out]; exact N2.out.snoc (by omega)
        · go_wp2_with (first
              | (at_builtin; refine wpList_push rfl (.tmp 80) (.tmp 85) rfl w.heap.size A2 k c2 (ys) rfl U2.out (z) rfl (by omega) Bw4.out.size ?_; intro A5 c5 w5 o' b' k'; have X2 : Hid (Own w5 w.heap.size 2 A5 (k + 1) c5 (sv (ys ++ [z]))) := hid o'; have Bw5 : Hid (Below w.heap.size w w5) := hid (Bw4.out.trans b'); have kk := k' _ _ _ _ _ U0.out T23.out.symm; have X0 : Hid (Own w5 w.heap.size 2 A3 (k + 1) c3 (sv (cs.take k ++ [z]))) := hid kk.1; have Y05 : Hid (Apt A3 A5) := hid kk.2; clear kk; have kk := k' _ _ _ _ _ U1.out V24.out.symm; have X1 : Hid (Own w5 w.heap.size 2 A4 (k + 1) c4 (sv (xs ++ [z + p]))) := hid kk.1; have Y15 : Hid (Apt A4 A5) := hid kk.2; clear kk; clear o' b' k')
              | (at_builtin; refine wpList_push rfl (.tmp 73) (.tmp 78) rfl w.heap.size A1 k c1 (xs) rfl Q1.out (z + p) rfl (by omega) Bw3.out.size ?_; intro A4 c4 w4 o' b' k'; have U1 : Hid (Own w4 w.heap.size 2 A4 (k + 1) c4 (sv (xs ++ [z + p]))) := hid o'; have Bw4 : Hid (Below w.heap.size w w4) := hid (Bw3.out.trans b'); have kk := k' _ _ _ _ _ Q0.out T13.out.symm; have U0 : Hid (Own w4 w.heap.size 2 A3 (k + 1) c3 (sv (cs.take k ++ [z]))) := hid kk.1; have V04 : Hid (Apt A3 A4) := hid kk.2; clear kk; have kk := k' _ _ _ _ _ Q2.out P12.out.symm; have U2 : Hid (Own w4 w.heap.size 2 A2 k c2 (sv (ys))) := hid kk.1; have V24 : Hid (Apt A2 A4) := hid kk.2; clear kk; clear o' b' k')
              | (at_builtin; refine wpList_push rfl (.tmp 68) (.tmp 71) rfl w.heap.size A0 k c0 (cs.take k) rfl O0.out (z) rfl (by omega) BW.out.size ?_; intro A3 c3 w3 o' b' k'; have Q0 : Hid (Own w3 w.heap.size 2 A3 (k + 1) c3 (sv (cs.take k ++ [z]))) := hid o'; have Bw3 : Hid (Below w.heap.size w w3) := hid (BW.out.trans b'); have kk := k' _ _ _ _ _ O1.out P01.out.symm; have Q1 : Hid (Own w3 w.heap.size 2 A1 k c1 (sv (xs))) := hid kk.1; have T13 : Hid (Apt A1 A3) := hid kk.2; clear kk; have kk := k' _ _ _ _ _ O2.out P02.out.symm; have Q2 : Hid (Own w3 w.heap.size 2 A2 k c2 (sv (ys))) := hid kk.1; have T23 : Hid (Apt A2 A3) := hid kk.2; clear kk; clear o' b' k'))
          · refine ⟨⟨k + 1, c3, c4, c5, A3, A4, A5, xs ++ [z + p], ys ++ [z], by rw [HL.out]; omega, by go_num, rfl, rfl, rfl, hid ?_, X1, X2, V04, Y05, Y15, Bw5, hid ?_, hid ?_⟩, by simp [intOf]; omega⟩
            · rw [HT.out]; exact X0.out
            · rw [HT.out]; exact N1.out.snoc (by omega)
            · rw [HT.out]; exact N2.out.snoc (by omega)
      · by_cases kb : k < nb
        · obtain ⟨bb, obb, rfl, hkb, hcb⟩ := (HB.out.below BW.out).kth kb
          have hq := getD_in IB.out hkb
          generalize bs.getD k 0 = q at *
          have q0 := hq.1
          have q1 := hq.2
          clear hq hkb
          go_wp2_with (first
              | (at_builtin; refine wpList_push rfl (.tmp 80) (.tmp 85) rfl w.heap.size A2 k c2 (ys) rfl U2.out (z + q) rfl (by omega) Bw4.out.size ?_; intro A5 c5 w5 o' b' k'; have X2 : Hid (Own w5 w.heap.size 2 A5 (k + 1) c5 (sv (ys ++ [z + q]))) := hid o'; have Bw5 : Hid (Below w.heap.size w w5) := hid (Bw4.out.trans b'); have kk := k' _ _ _ _ _ U0.out T23.out.symm; have X0 : Hid (Own w5 w.heap.size 2 A3 (k + 1) c3 (sv (cs.take k ++ [z]))) := hid kk.1; have Y05 : Hid (Apt A3 A5) := hid kk.2; clear kk; have kk := k' _ _ _ _ _ U1.out V24.out.symm; have X1 : Hid (Own w5 w.heap.size 2 A4 (k + 1) c4 (sv (xs ++ [z]))) := hid kk.1; have Y15 : Hid (Apt A4 A5) := hid kk.2; clear kk; clear o' b' k')
              | (at_builtin; refine wpList_push rfl (.tmp 73) (.tmp 78) rfl w.heap.size A1 k c1 (xs) rfl Q1.out (z) rfl (by omega) Bw3.out.size ?_; intro A4 c4 w4 o' b' k'; have U1 : Hid (Own w4 w.heap.size 2 A4 (k + 1) c4 (sv (xs ++ [z]))) := hid o'; have Bw4 : Hid (Below w.heap.size w w4) := hid (Bw3.out.trans b'); have kk := k' _ _ _ _ _ Q0.out T13.out.symm; have U0 : Hid (Own w4 w.heap.size 2 A3 (k + 1) c3 (sv (cs.take k ++ [z]))) := hid kk.1; have V04 : Hid (Apt A3 A4) := hid kk.2; clear kk; have kk := k' _ _ _ _ _ Q2.out P12.out.symm; have U2 : Hid (Own w4 w.heap.size 2 A2 k c2 (sv (ys))) := hid kk.1; have V24 : Hid (Apt A2 A4) := hid kk.2; clear kk; clear o' b' k')
              | (at_builtin; refine wpList_push rfl (.tmp 68) (.tmp 71) rfl w.heap.size A0 k c0 (cs.take k) rfl O0.out (z) rfl (by omega) BW.out.size ?_; intro A3 c3 w3 o' b' k'; have Q0 : Hid (Own w3 w.heap.size 2 A3 (k + 1) c3 (sv (cs.take k ++ [z]))) := hid o'; have Bw3 : Hid (Below w.heap.size w w3) := hid (BW.out.trans b'); have kk := k' _ _ _ _ _ O1.out P01.out.symm; have Q1 : Hid (Own w3 w.heap.size 2 A1 k c1 (sv (xs))) := hid kk.1; have T13 : Hid (Apt A1 A3) := hid kk.2; clear kk; have kk := k' _ _ _ _ _ O2.out P02.out.symm; have Q2 : Hid (Own w3 w.heap.size 2 A2 k c2 (sv (ys))) := hid kk.1; have T23 : Hid (Apt A2 A3) := hid kk.2; clear kk; clear o' b' k'))
          · refine ⟨⟨k + 1, c3, c4, c5, A3, A4, A5, xs ++ [z], ys ++ [z + q], by rw [HL.out]; omega, by go_num, rfl, rfl, rfl, hid ?_, X1, X2, V04, Y05, Y15, Bw5, hid ?_, hid ?_⟩, by simp [intOf]; omega⟩
            · rw [HT.out]; exact X0.out
            · rw [HT.out]; exact N1.out.snoc (by omega)
            · rw [HT.out]; exact N2.out.snoc (by omega)
        · go_wp2_with (first
              | (at_builtin; refine wpList_push rfl (.tmp 80) (.tmp 85) rfl w.heap.size A2 k c2 (ys) rfl U2.out (z) rfl (by omega) Bw4.out.size ?_; intro A5 c5 w5 o' b' k'; have X2 : Hid (Own w5 w.heap.size 2 A5 (k + 1) c5 (sv (ys ++ [z]))) := hid o'; have Bw5 : Hid (Below w.heap.size w w5) := hid (Bw4.out.trans b'); have kk := k' _ _ _ _ _ U0.out T23.out.symm; have X0 : Hid (Own w5 w.heap.size 2 A3 (k + 1) c3 (sv (cs.take k ++ [z]))) := hid kk.1; have Y05 : Hid (Apt A3 A5) := hid kk.2; clear kk; have kk := k' _ _ _ _ _ U1.out V24.out.symm; have X1 : Hid (Own w5 w.heap.size 2 A4 (k + 1) c4 (sv (xs ++ [z]))) := hid kk.1; have Y15 : Hid (Apt A4 A5) := hid kk.2; clear kk; clear o' b' k')
              | (at_builtin; refine wpList_push rfl (.tmp 73) (.tmp 78) rfl w.heap.size A1 k c1 (xs) rfl Q1.out (z) rfl (by omega) Bw3.out.size ?_; intro A4 c4 w4 o' b' k'; have U1 : Hid (Own w4 w.heap.size 2 A4 (k + 1) c4 (sv (xs ++ [z]))) := hid o'; have Bw4 : Hid (Below w.heap.size w w4) := hid (Bw3.out.trans b'); have kk := k' _ _ _ _ _ Q0.out T13.out.symm; have U0 : Hid (Own w4 w.heap.size 2 A3 (k + 1) c3 (sv (cs.take k ++ [z]))) := hid kk.1; have V04 : Hid (Apt A3 A4) := hid kk.2; clear kk; have kk := k' _ _ _ _ _ Q2.out P12.out.symm; have U2 : Hid (Own w4 w.heap.size 2 A2 k c2 (sv (ys))) := hid kk.1; have V24 : Hid (Apt A2 A4) := hid kk.2; clear kk; clear o' b' k')
              | (at_builtin; refine wpList_push rfl (.tmp 68) (.tmp 71) rfl w.heap.size A0 k c0 (cs.take k) rfl O0.out (z) rfl (by omega) BW.out.size ?_; intro A3 c3 w3 o' b' k'; have Q0 : Hid (Own w3 w.heap.size 2 A3 (k + 1) c3 (sv (cs.take k ++ [z]))) := hid o'; have Bw3 : Hid (Below w.heap.size w w3) := hid (BW.out.trans b'); have kk := k' _ _ _ _ _ O1.out P01.out.symm; have Q1 : Hid (Own w3 w.heap.size 2 A1 k c1 (sv (xs))) := hid kk.1; have T13 : Hid (Apt A1 A3) := hid kk.2; clear kk; have kk := k' _ _ _ _ _ O2.out P02.out.symm; have Q2 : Hid (Own w3 w.heap.size 2 A2 k c2 (sv (ys))) := hid kk.1; have T23 : Hid (Apt A2 A3) := hid kk.2; clear kk; clear o' b' k'))
          · refine ⟨⟨k + 1, c3, c4, c5, A3, A4, A5, xs ++ [z], ys ++ [z], by rw [HL.out]; omega, by go_num, rfl, rfl, rfl, hid ?_, X1, X2, V04, Y05, Y15, Bw5, hid ?_, hid ?_⟩, by simp [intOf]; omega⟩
            · rw [HT.out]; exact X0.out
            · rw [HT.out]; exact N1.out.snoc (by omega)
            · rw [HT.out]; exact N2.out.snoc (by omega)
    · have hk2 : k = n := by omega
      subst hk2
      have hT1 : cs.take k = cs := List.take_of_length_le (by rw [HL.out]; exact Nat.le_refl _)
      have n1 := N1.out
      have n2 := N2.out
      rw [hT1] at n1 n2 O0
      have hl := HL.out
      have hb0 : B64 cs := fun z hz => by have := IC.out z hz; omega
      have hb1 : ∀ z ∈ xs, -2147483648 - 32768 ≤ z ∧ z ≤ 2147483647 + 32768 := n1.mem IC.out
      have hb2 : ∀ z ∈ ys, -2147483648 - 32768 ≤ z ∧ z ≤ 2147483647 + 32768 := n2.mem IC.out
      have lx := n1.len
      have ly := n2.len
      have hbx : ∀ z ∈ xs ++ [L], -1125899906842624 ≤ z ∧ z ≤ 1125899906842624 := fun z hz => by
        rcases List.mem_append.1 hz with hz | hz
        · have := hb1 z hz; omega
        · obtain rfl := List.mem_singleton.1 hz; omega
      have hby : ∀ z ∈ ys ++ [T], -1125899906842624 ≤ z ∧ z ≤ 1125899906842624 := fun z hz => by
        rcases List.mem_append.1 hz with hz | hz
        · have := hb2 z hz; omega
        · obtain rfl := List.mem_singleton.1 hz; omega
      have hne : cs ≠ [] := fun e => by rw [e] at hl; simp at hl; omega
      have hmx := IC.out _ (mx_mem hne)
      have hmn := IC.out _ (mn_mem hne)
      have hle := mn_le (mx_mem hne)
      obtain ⟨hd1, hd2⟩ := means_near (lie := L) (other := T) n1 n2 (by omega)
      have hm := avg_within (l := xs ++ [L]) (by simp) hbx
      have hn' := avg_within (l := ys ++ [T]) (by simp) hby
      have HM : Hid (∀ w1 A' c', Row w1 w1.heap.size A' (k + 1) (sv (xs ++ [L])) → Calls Try.prog 7 #[.slice A' (k + 1) c'] w1 (RetM (avg (xs ++ [L])) 0 w1)) := hid fun w1 A' c' r1 => average_any A' (k + 1) c' w1.heap.size _ w1 r1 (Nat.le_refl _) (fun z hz => by have := hbx z hz; omega) (by omega) _ 0
        (by unfold mean; rw [if_neg (by rw [List.length_append, lx, hl]; simp; omega), if_neg (by simp)]) (by unfold meanE; rw [if_neg (by rw [List.length_append, lx, hl]; simp; omega), if_neg (by simp)])
      have HN : Hid (∀ w1 A' c', Row w1 w1.heap.size A' (k + 1) (sv (ys ++ [T])) → Calls Try.prog 7 #[.slice A' (k + 1) c'] w1 (RetM (avg (ys ++ [T])) 0 w1)) := hid fun w1 A' c' r1 => average_any A' (k + 1) c' w1.heap.size _ w1 r1 (Nat.le_refl _) (fun z hz => by have := hby z hz; omega) (by omega) _ 0
        (by unfold mean; rw [if_neg (by rw [List.length_append, ly, hl]; simp; omega), if_neg (by simp)]) (by unfold meanE; rw [if_neg (by rw [List.length_append, ly, hl]; simp; omega), if_neg (by simp)])
      have HS : Hid (∀ w1, Row w1 w1.heap.size A0 k (sv cs) → Calls Try.prog 8 #[.slice A0 k c0] w1 (RetU (mx cs - mn cs) 0 w1)) := hid fun w1 r1 => spread_any A0 k c0 w1.heap.size cs w1 r1 hb0 (by omega) _ 0
        (by unfold far; rw [if_neg (by omega), if_neg hne]) (by unfold meanE; rw [if_neg (by omega), if_neg hne])
      generalize avg (xs ++ [L]) = m at *
      generalize avg (ys ++ [T]) = m' at *
      obtain ⟨S, hS⟩ : ∃ S, mx cs - mn cs = S := ⟨_, rfl⟩
      have s0 : 0 ≤ S := by omega
      have s1 : S ≤ 4294967295 := by omega
      rw [hS] at HS hd1 hd2
      clear hS hmx hmn hle hne hbx hby hb0 hb1 hb2 lx ly n1 n2 N1 N2 hT1 hl HC HA HB IC IA IB HL
      have m0 := hm.1
      have m1 := hm.2
      have n0 := hn'.1
      have n1 := hn'.2
      clear hm hn'
      by_cases hd : m - m' < 0
      · go_wp2_with (first
          | (go_at_call 8; (with_reducible refine (HS.out w6 Z6.out.row).mono ?_); rintro e w7 ⟨rfl, e7⟩; rw [e7]; clear e7 w7)
          | (go_at_call 7; (with_reducible refine (HN.out w5 A5 c5 Y5.out.row).mono ?_); rintro e w6 ⟨rfl, b6⟩; have B6 : Hid (Below w.heap.size w w6) := hid (B5.out.trans (b6.mono B5.out.size)); have Z6 := hid (Z5.out.below b6); clear b6)
          | (at_builtin; refine wpList_push rfl (.tmp 97) (.tmp 99) rfl w.heap.size A2 k c2 ys rfl Y4.out T rfl (by omega) B4.out.size ?_; intro A5 c5 w5 o' b' k'; have Y5 : Hid (Own w5 w.heap.size 2 A5 (k + 1) c5 (sv (ys ++ [T]))) := hid o'; have B5 : Hid (Below w.heap.size w w5) := hid (B4.out.trans b'); have kk := k' _ _ _ _ _ Z4.out P02.out; have Z5 : Hid (Own w5 w.heap.size 2 A0 k c0 (sv cs)) := hid kk.1; clear o' b' k' kk)
          | (go_at_call 7; (with_reducible refine (HM.out w3 A3 c3 X3.out.row).mono ?_); rintro e w4 ⟨rfl, b4⟩; have B4 : Hid (Below w.heap.size w w4) := hid (B3.out.trans (b4.mono B3.out.size)); have Y4 := hid (Y3.out.below b4); have Z4 := hid (Z3.out.below b4); clear b4)
          | (at_builtin; refine wpList_push rfl (.tmp 89) (.tmp 91) rfl w.heap.size A1 k c1 xs rfl O1.out L rfl (by omega) BW.out.size ?_; intro A3 c3 w3 o' b' k'; have X3 : Hid (Own w3 w.heap.size 2 A3 (k + 1) c3 (sv (xs ++ [L]))) := hid o'; have B3 : Hid (Below w.heap.size w w3) := hid (BW.out.trans b'); have kk := k' _ _ _ _ _ O2.out P12.out.symm; have Y3 : Hid (Own w3 w.heap.size 2 A2 k c2 (sv ys)) := hid kk.1; have k2 := k' _ _ _ _ _ O0.out P01.out; have Z3 : Hid (Own w3 w.heap.size 2 A0 k c0 (sv cs)) := hid k2.1; clear o' b' k' kk k2))
        go_ret
        exact ⟨ret_bool (decide_eq_true (by omega)), B6.out⟩
      · go_wp2_with (first
          | (go_at_call 8; (with_reducible refine (HS.out w6 Z6.out.row).mono ?_); rintro e w7 ⟨rfl, e7⟩; rw [e7]; clear e7 w7)
          | (go_at_call 7; (with_reducible refine (HN.out w5 A5 c5 Y5.out.row).mono ?_); rintro e w6 ⟨rfl, b6⟩; have B6 : Hid (Below w.heap.size w w6) := hid (B5.out.trans (b6.mono B5.out.size)); have Z6 := hid (Z5.out.below b6); clear b6)
          | (at_builtin; refine wpList_push rfl (.tmp 97) (.tmp 99) rfl w.heap.size A2 k c2 ys rfl Y4.out T rfl (by omega) B4.out.size ?_; intro A5 c5 w5 o' b' k'; have Y5 : Hid (Own w5 w.heap.size 2 A5 (k + 1) c5 (sv (ys ++ [T]))) := hid o'; have B5 : Hid (Below w.heap.size w w5) := hid (B4.out.trans b'); have kk := k' _ _ _ _ _ Z4.out P02.out; have Z5 : Hid (Own w5 w.heap.size 2 A0 k c0 (sv cs)) := hid kk.1; clear o' b' k' kk)
          | (go_at_call 7; (with_reducible refine (HM.out w3 A3 c3 X3.out.row).mono ?_); rintro e w4 ⟨rfl, b4⟩; have B4 : Hid (Below w.heap.size w w4) := hid (B3.out.trans (b4.mono B3.out.size)); have Y4 := hid (Y3.out.below b4); have Z4 := hid (Z3.out.below b4); clear b4)
          | (at_builtin; refine wpList_push rfl (.tmp 89) (.tmp 91) rfl w.heap.size A1 k c1 xs rfl O1.out L rfl (by omega) BW.out.size ?_; intro A3 c3 w3 o' b' k'; have X3 : Hid (Own w3 w.heap.size 2 A3 (k + 1) c3 (sv (xs ++ [L]))) := hid o'; have B3 : Hid (Below w.heap.size w w3) := hid (BW.out.trans b'); have kk := k' _ _ _ _ _ O2.out P12.out.symm; have Y3 : Hid (Own w3 w.heap.size 2 A2 k c2 (sv ys)) := hid kk.1; have k2 := k' _ _ _ _ _ O0.out P01.out; have Z3 : Hid (Own w3 w.heap.size 2 A0 k c0 (sv cs)) := hid k2.1; clear o' b' k' kk k2))
        go_ret
        exact ⟨ret_bool (decide_eq_true (by omega)), B6.out⟩
theorem lies_row {w : World} (A : Option Addr) (n c : Nat) (cs : List Int) (hc : Came .i32 w A n c cs) (mc : c ≤ 140737488351232) (Aa : Option Addr) (na ca : Nat) (al : List Int) (ha : Came .i16 w Aa na ca al) (ma : ca ≤ 140737488351232)
    (Ab : Option Addr) (nb cb : Nat) (bs : List Int) (hb : Came .i16 w Ab nb cb bs) (mb : cb ≤ 140737488351232) (lie : Int) (_ : -9223372036854775808 ≤ lie) (_ : lie ≤ 9223372036854775807) (other : Int) (_ : -9223372036854775808 ≤ other) (_ : other ≤ 9223372036854775807) :
    Calls Try.prog 3 #[.slice A n c, .slice Aa na ca, .slice Ab nb cb, .int .i64 lie, .int .i64 other] w fun e w' => e = .returned (.bool true) ∧ Below w.heap.size w w' := by
  have hn : n ≤ 140737488351232 := Nat.le_trans hc.2.1 mc
  by_cases h : n < 3 ∨ 40 < n
  · exact lies_out A n c Aa na ca Ab nb cb lie other w hn h
  · exact lies_walk A n c cs Aa na ca al Ab nb cb bs lie other w hc.2.2.1 ha.2.2.1 hb.2.2.1 (fun z hz => by have := bounds_i32 (hc.2.2.2 z hz); omega) (fun z hz => by have := bounds_i16 (ha.2.2.2 z hz); omega) (fun z hz => by have := bounds_i16 (hb.2.2.2 z hz); omega)
      (Nat.le_trans ha.2.1 ma) (Nat.le_trans hb.2.1 mb) (by omega) (by omega)
end Go.Proofs.Yteccfocngpdnnaa
