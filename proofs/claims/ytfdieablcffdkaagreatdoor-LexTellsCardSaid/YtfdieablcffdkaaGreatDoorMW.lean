/-
  The contract of the document's own Where (palletref14.Where): as lex.Where (whereR); under: utf8's tables hold what the program lays (LaidW); texts of at most 65536 bytes.
-/
import Derived.Test.YtfdieablcffdkaaGreatDoorMR
namespace Go.Proofs.YtfdieablcffdkaaGreatDoor
open Go Go.RowKit Go.Joins

set_option maxRecDepth 100000 in
theorem rwhere_bad (s : ByteArray) (at_ : Int) (w : World) (h : at_ < 0 ∨ (s.size : Int) < at_) : Calls Tryz.prog 12 #[.string s, .int .i64 at_] w (WherePost s at_ w) := by
  have h1 := hid (show whereR s.data.toList at_ = _ from if_pos h)
  rcases h with h | h
  · go_enter Tryz.func12, Tryz.ntmps12
    go_wp2_with (first
      | (refine Sh.wp_sv plS (x := ⟨0, 0⟩) rfl (.tmp 4) (.tmp 16) rfl rfl (by rfl) q1 ?_; intro w9 q9 b9 o9 _)
      | (refine Sh.wp_al plS rfl rfl ?_; intro w1 q1 b1 s1; clear s1))
    exact bodyPost_ret (results_p1 Tryz.results12 _ rfl q9) rfl ⟨by rw [h1.out]; rfl, b1.trans (b9.mono (Nat.le_refl _))⟩
  · have h0 : ¬ at_ < 0 := by omega
    go_enter Tryz.func12, Tryz.ntmps12
    go_wp2_with (first
      | (refine Sh.wp_sv plS (x := ⟨0, 0⟩) rfl (.tmp 4) (.tmp 16) rfl rfl (by rfl) q1 ?_; intro w9 q9 b9 o9 _)
      | (refine Sh.wp_al plS rfl rfl ?_; intro w1 q1 b1 s1; clear s1))
    exact bodyPost_ret (results_p1 Tryz.results12 _ rfl q9) rfl ⟨by rw [h1.out]; rfl, b1.trans (b9.mono (Nat.le_refl _))⟩

set_option maxHeartbeats 2000000 in
set_option maxRecDepth 100000 in
theorem rwhere_ok (s : ByteArray) (a : Nat) (w : World) (hL : LaidW w) (h : a ≤ s.size) (hs : s.size ≤ 65536) : Calls Tryz.prog 12 #[.string s, .int .i64 a] w (WherePost s a w) := by
  have h1 := hid (show whereR s.data.toList a = .tuple #[plV (plAt s.data.toList firstP a), .int .i64 0] from if_neg (by show ¬ ((a : Int) < 0 ∨ ((s.size : Nat) : Int) < a); omega))
  have h0 : ¬ (s.size : Int) < a := by omega
  have HL := hid hL
  have HRU := hid (fun w hL => runes_any s w hL hs)
  clear hL
  go_enter Tryz.func12, Tryz.ntmps12
  go_wp2_with (first
    | (go_at_call 26; refine (HRU.out w1 (HL.out.below b1)).mono ?_; rintro e w2 ⟨A, n, c, rs, rfl, hn, ow, hgo, hco, g2⟩)
    | (refine Sh.wp_al plS rfl rfl ?_; intro w1 q1 b1 s1))
  have hgw : w.heap.size < w1.heap.size := q1.lt
  have V2 := hid (q1.keep g2)
  have B2 := hid (b1.trans (g2.mono b1.size))
  have HLN := hid ow.len
  have RO := hid ow.row
  have HG := hid hgo
  have HC := hid hco
  have hg2 : w.heap.size < w2.heap.size := Nat.lt_of_lt_of_le hgw g2.size
  clear q1 b1 s1 g2 ow hgo hco hgw
  go_loopw [20] (fun v20 wr => ∃ k : Nat, v20 = .int .i64 (k : Nat) ∧ k ≤ n ∧ (∀ j, j < k → ¬ ((rnS.nth rs j).at_ ≤ a ∧ (a : Int) < (rnS.nth rs j).at_ + (rnS.nth rs j).many)) ∧ Below w2.heap.size w2 wr) (fun v20 _ => n - (intOf v20).toNat)
  case atStart => exact ⟨0, rfl, Nat.zero_le _, fun j hj => absurd hj (by omega), Below.refl _ _⟩
  case round =>
    obtain ⟨k, rfl, hk, hno, hbel⟩ := hrel
    have BW := hid hbel
    by_cases hlt : k < n
    · obtain ⟨b, o, rfl, hb, hc⟩ := (RO.out.below hbel).at_ hlt
      have hmem : rnS.nth rs k ∈ rs := List.mem_of_getElem? (Sh.nth_get rnS (by rw [HLN.out]; exact hlt))
      have hgood := HG.out _ hmem
      have V3 := hid (V2.out.keep hbel)
      have hgr : w.heap.size < wr.heap.size := Nat.lt_of_lt_of_le hg2 hbel.size
      have HNO := hid (fun (hx : ¬ ((rnS.nth rs k).at_ ≤ a ∧ (a : Int) < (rnS.nth rs k).at_ + (rnS.nth rs k).many)) j (hj : j < k + 1) => show ¬ ((rnS.nth rs j).at_ ≤ a ∧ (a : Int) < (rnS.nth rs j).at_ + (rnS.nth rs j).many) from by
        by_cases e : j = k
        · subst e; exact hx
        · exact hno j (by omega))
      generalize rnS.nth rs k = x at *
      have r1 : wr.rangeAt b (o + k * 6) (rnS.enc x) := hc
      obtain ⟨xc, xa, xm, xp, xb⟩ := x
      have hsl : s.data.toList.length = s.size := rfl
      obtain ⟨⟨ga, gb, gc, gd⟩, hgood⟩ := hgood
      simp only at ga gb gc gd hgood HNO
      rw [hsl] at gb gd
      have HGD := hid hgood
      clear hc hbel hno hmem hgood hsl
      by_cases hin : xa ≤ a ∧ (a : Int) < xa + xm
      · obtain ⟨i1, i2⟩ := hin
        have hpl := hid (HGD.out a i1 i2)
        clear HNO HGD
        go_wp2_with (first
          | (refine Sh.wp_sv plS (x := xp) rfl (.tmp 4) (.tmp 38) rfl rfl (by rfl) v5 ?_; intro w9 q9 b9 o9 _)
          | (refine Sh.wp_sv rnS (x := ⟨xc, xa, xm, xp, xb⟩) rfl (.tmp 7) (.tmp 23) rfl rfl (by rfl) q4 ?_; intro w5 q5 b5 o5 _; have c1 : w5.cell? ⟨wr.heap.size, 1, none⟩ = some (.int .i64 xa) := q5.cell (j := 1) rfl; have c2 : w5.cell? ⟨wr.heap.size, 2, none⟩ = some (.int .i64 xm) := q5.cell (j := 2) rfl; have c3 : w5.cell? ⟨wr.heap.size, 3, none⟩ = some (.int .i64 xp.line) := q5.cell (j := 3) rfl; have c4 : w5.cell? ⟨wr.heap.size, 4, none⟩ = some (.int .i64 xp.col) := q5.cell (j := 4) rfl; have B5 := hid (b4.trans (b5.mono (Nat.le_refl _))); have v5 := V3.out.keep B5.out; clear q5 b4 b5 o5 q4)
          | (refine Sh.wp_al rnS rfl rfl ?_; intro w4 q4 b4 s4; clear s4)
          | (refine Sh.wp_ld rnS rfl (.tmp 22) rfl rfl r1 ?_))
        exact bodyPost_ret (results_p1 Tryz.results12 _ rfl q9) rfl ⟨by rw [h1.out, hpl.out]; rfl, (B2.out.trans ((BW.out.trans (B5.out.mono BW.out.size)).mono B2.out.size)).trans b9⟩
      · have HNO' := hid (HNO.out hin)
        clear HNO HGD
        by_cases i1 : xa ≤ a
        · have i2 : ¬ (a : Int) < xa + xm := fun h => hin ⟨i1, h⟩
          clear hin
          go_wp2_with (first
            | (refine Sh.wp_sv rnS (x := ⟨xc, xa, xm, xp, xb⟩) rfl (.tmp 7) (.tmp 23) rfl rfl (by rfl) q4 ?_; intro w5 q5 b5 o5 _; have c1 : w5.cell? ⟨wr.heap.size, 1, none⟩ = some (.int .i64 xa) := q5.cell (j := 1) rfl; have c2 : w5.cell? ⟨wr.heap.size, 2, none⟩ = some (.int .i64 xm) := q5.cell (j := 2) rfl; have B5 := hid (b4.trans (b5.mono (Nat.le_refl _))); clear q5 b4 b5 o5 q4)
            | (refine Sh.wp_al rnS rfl rfl ?_; intro w4 q4 b4 s4; clear s4)
            | (refine Sh.wp_ld rnS rfl (.tmp 22) rfl rfl r1 ?_))
          go_roundw
          case rel => exact ⟨k + 1, by go_num, by omega, HNO'.out, BW.out.trans (B5.out.mono BW.out.size)⟩
          case measure => simp [intOf]; omega
        · clear hin
          go_wp2_with (first
            | (refine Sh.wp_sv rnS (x := ⟨xc, xa, xm, xp, xb⟩) rfl (.tmp 7) (.tmp 23) rfl rfl (by rfl) q4 ?_; intro w5 q5 b5 o5 _; have c1 : w5.cell? ⟨wr.heap.size, 1, none⟩ = some (.int .i64 xa) := q5.cell (j := 1) rfl; have B5 := hid (b4.trans (b5.mono (Nat.le_refl _))); clear q5 b4 b5 o5 q4)
            | (refine Sh.wp_al rnS rfl rfl ?_; intro w4 q4 b4 s4; clear s4)
            | (refine Sh.wp_ld rnS rfl (.tmp 22) rfl rfl r1 ?_))
          go_roundw
          case rel => exact ⟨k + 1, by go_num, by omega, HNO'.out, BW.out.trans (B5.out.mono BW.out.size)⟩
          case measure => simp [intOf]; omega
    · exfalso
      obtain ⟨x, hx, h2, h3⟩ := HC.out a (by omega)
      obtain ⟨j, hj⟩ := List.getElem?_of_mem hx
      have hjl : j < rs.length := (List.getElem?_eq_some_iff.1 hj).1
      refine hno j (by rw [HLN.out] at hjl; omega) ?_
      rw [Sh.nth_of rnS hj]
      exact ⟨h2, h3⟩
theorem rwhere_any (s : ByteArray) (at_ : Int) (w : World) (hL : LaidW w) (hs : s.size ≤ 65536) : Calls Tryz.prog 12 #[.string s, .int .i64 at_] w (WherePost s at_ w) := by
  by_cases h : at_ < 0 ∨ (s.size : Int) < at_
  · exact rwhere_bad s at_ w h
  · obtain ⟨a, rfl⟩ := Int.eq_ofNat_of_zero_le (show 0 ≤ at_ by omega)
    exact rwhere_ok s a w hL (by omega) hs
end Go.Proofs.YtfdieablcffdkaaGreatDoor
