/-
  The walk of HeapTakes: at any list of things and any number it answers true.
-/
import Derived.Test.YtopdklmhiglehaaM
import Derived.Test.YtopdklmhiglehaaR
namespace Go.Proofs.Ytopdklmhiglehaa
open Go Go.RowKit

theorem least_ex : ∀ {l : List It} {s : Int}, (∃ y, y ∈ l ∧ sq y = s) → ∃ x, Least l s x
  | [], _, h => by obtain ⟨y, hy, _⟩ := h; cases hy
  | a :: l, s, h => by
    by_cases h2 : ∃ y, y ∈ l ∧ sq y = s
    · obtain ⟨x, hx1, hx2, hx3⟩ := least_ex h2
      by_cases h3 : sq a = s ∧ lt a x = true
      · refine ⟨a, List.mem_cons_self, h3.1, fun y hy hs => ?_⟩
        rcases List.mem_cons.1 hy with rfl | hy
        · exact lt_irr _
        · exact le_trans (lt_asym h3.2) (hx3 y hy hs)
      · refine ⟨x, List.mem_cons_of_mem _ hx1, hx2, fun y hy hs => ?_⟩
        rcases List.mem_cons.1 hy with rfl | hy
        · cases e : lt y x
          · rfl
          · exact absurd ⟨hs, e⟩ h3
        · exact hx3 y hy hs
    · obtain ⟨y, hy, hs⟩ := h
      rcases List.mem_cons.1 hy with rfl | hy
      · refine ⟨y, List.mem_cons_self, hs, fun z hz hzs => ?_⟩
        rcases List.mem_cons.1 hz with rfl | hz
        · exact lt_irr _
        · exact absurd ⟨z, hz, hzs⟩ h2
      · exact absurd ⟨y, hy, hs⟩ h2
theorem turn_in (k : Int) (n : Nat) (h : 0 < n) (hn : n ≤ 100) : ∃ q : Nat, (wrap64 (k.tmod (n : Int) + (n : Int))).tmod (n : Int) = (q : Int) ∧ q < n := by
  have h1 : k.tmod (n : Int) < (n : Int) := Int.tmod_lt_of_pos k (by omega)
  have h2 : -(n : Int) < k.tmod (n : Int) := by
    have := Int.tmod_lt_of_pos (-k) (b := (n : Int)) (by omega)
    rw [Int.neg_tmod] at this
    omega
  generalize k.tmod (n : Int) = r at *
  have e : wrap64 (r + (n : Int)) = r + (n : Int) := IntWalk.wrap64_in _ (by omega)
  rw [e, Int.tmod_eq_emod_of_nonneg (by omega)]
  have h3 := Int.emod_nonneg (r + (n : Int)) (show (n : Int) ≠ 0 by omega)
  have h4 := Int.emod_lt_of_pos (r + (n : Int)) (show (0 : Int) < (n : Int) by omega)
  exact ⟨((r + (n : Int)) % (n : Int)).toNat, by omega, by omega⟩
set_option maxRecDepth 100000 in
set_option maxHeartbeats 4000000 in
theorem takes_any (A : Option Addr) (n c : Nat) (xs : List It) (k : Int) (w : World) (ha : Row w w.heap.size A n xs) (hn63 : n ≤ 9223372036854775807) :
    Calls Try.prog 7 #[.slice A n c, .int .i64 k] w fun e w' => e = .returned (.bool true) ∧ Below w.heap.size w w' := by
  have HA := hid ha
  have HL := hid ha.1
  clear ha
  rcases (show 100 < n ∨ n = 0 ∨ (0 < n ∧ n ≤ 100) by omega) with h | h | h
  · have t1 : decide (100 < n) = true := decide_eq_true h
    have t1' : decide (100 < (n : Int)) = true := decide_eq_true (by omega)
    go_enter Try.func7, Try.ntmps7
    go_wp2_with (go_at_call 10; refine (live_any _).mono ?_; rintro e w1 ⟨rfl, bel1⟩)
    go_ret
    exact ⟨rfl, bel1⟩
  · subst h
    go_enter Try.func7, Try.ntmps7
    go_wp2_with (go_at_call 10; refine (live_any _).mono ?_; rintro e w1 ⟨rfl, bel1⟩)
    go_ret
    exact ⟨rfl, bel1⟩
  · obtain ⟨h0, h100⟩ := h
    have t1 : decide (100 < n) = false := decide_eq_false (by omega)
    have t1' : decide (100 < (n : Int)) = false := decide_eq_false (by omega)
    have t2 : ((n : Int) == 0) = false := by simp; omega
    go_enter Try.func7, Try.ntmps7
    go_upto_region 8 with (first
      | (go_at_call 10; refine (live_any _).mono ?_; rintro e w1 ⟨rfl, bel1⟩)
      | (go_at_call 21; refine (build_any A n c w.heap.size xs w1 (HA.out.below bel1) bel1.size (by omega)).mono ?_; rintro e w2 ⟨A2, c2, l2, rfl, ⟨hh2, hp2⟩, own2, bel2⟩))
    obtain ⟨q, hq, hqn⟩ := turn_in k n h0 h100
    rw [hq]
    clear hq
    have B2 : Hid (Below w.heap.size w w2) := hid (bel1.trans (bel2.mono bel1.size))
    have O2 : Hid (Own w2 w.heap.size A2 n c2 l2) := hid (own2.base_le bel1.size)
    have H2 := hid hh2
    have P2 := hid hp2
    clear own2 bel1 bel2 hh2 hp2
    have RR : Hid (Row w2 w.heap.size A n xs) := hid (HA.out.below B2.out)
    obtain ⟨b, o, rfl, hb, hc⟩ := RR.out.all (by omega)
    have R1 := hid (hc q hqn)
    have C1 := six_at R1.out
    obtain ⟨s, hs⟩ : ∃ s, sq (nth xs q) = s := ⟨_, rfl⟩
    rw [hs] at C1
    obtain ⟨x0, hx0⟩ := least_ex (l := l2) (s := s) ⟨nth xs q, P2.out.mem_iff.2 (nth_mem (by rw [HL.out]; exact hqn)), hs⟩
    obtain ⟨m, hm⟩ : ∃ m, n = m + 1 := ⟨n - 1, by omega⟩
    have TK := hid (take_ok A2 m c2 w2.heap.size l2 s x0 w2 (by rw [← hm]; exact O2.out.row) (Nat.le_refl _) (by omega) H2.out hx0)
    rw [← hm] at TK
    have HS := hid hs
    have HX := hid hx0
    have HM := hid hm
    have i1 : (q : Int) < (n : Int) := by omega
    have em : IntKind.i64.wrap ((n : Int) - 1) = (m : Int) := by rw [show (n : Int) - 1 = (m : Int) by omega]; exact IntWalk.i64_in _ (by omega)
    have hm9 : m < 100 := by omega
    clear hc hs hx0 hm
    go_upto_region 9 with (first
      | (go_at_call 27; refine TK.out.mono ?_; rintro e w3 ⟨A3, c3, l3, rfl, ⟨hh3, hp3⟩, own3, bel3⟩)
      | (refine wpList_sv rfl (.tmp 8) (.tmp 50) rfl rfl rfl (there_new w3 zr) ?_; intro w4 r4 bel4 _; replace bel4 := ((Below.refl w3.heap.size w3).alloc (Nat.le_refl _) _).trans bel4))
    have O4 : Hid (Own w4 w.heap.size A3 m c3 l3) := hid ((own3.below bel4).base_le B2.out.size)
    have B4 : Hid (Below w.heap.size w w4) := hid (B2.out.trans ((bel3.mono B2.out.size).trans (bel4.mono (Nat.le_trans B2.out.size bel3.size))))
    have R4 := hid r4
    have H3 := hid hh3
    have P3 := hid hp3
    have C4 : Hid (w4.cell? ⟨w3.heap.size, 2, none⟩ = some (.int .u64 s)) := hid (by have := six_at r4; rw [Nat.zero_add, HX.out.2.1] at this; exact this)
    have D4 : Hid (w4.cell? ⟨b, o + q * 6 + 2, none⟩ = some (.int .u64 s)) := hid (((bel3.trans (bel4.mono bel3.size)).cell (p := ⟨b, o + q * 6 + 2, none⟩) (Nat.lt_of_lt_of_le hb B2.out.size)).trans C1)
    have hz4 : Hid (w3.heap.size < w4.heap.size) := hid (World.block_lt_of_cell? w4 ⟨w3.heap.size, 2, none⟩ C4.out)
    clear own3 bel3 bel4 r4 hh3 hp3 C1 TK
    have HC3 : Hid (chk l3 = true) := hid ((chk_iff _).2 H3.out)
    have TC := hid (fun d os => Calls.regrown_of (check_any A3 m c3 w4.heap.size l3 (Sort.grow (redrawn w4 d) os) (O4.out.row.below (below_regrown w4 d os)) (below_regrown w4 d os).size (by omega)))
    rw [HC3.out] at TC
    have cc1 := fun d os => cell_regrown C4.out d os
    have cc2 := fun d os => cell_regrown D4.out d os
    go_wp2_with fail
    refine wp_region_quiet_below (by kernel_rfl) (by kernel_rfl) ?_
    repeat (quiet_step (with_reducible exact TC.out _ _))
    refine wpQuiet_nil ?_
    intro _ hw'
    obtain ⟨⟨dq, osq⟩, hw''⟩ := hw'
    subst hw''
    have HW : Hid (Below w4.heap.size w4 (Sort.grow (redrawn w4 dq) osq)) := hid (below_regrown w4 dq osq)
    generalize Sort.grow (redrawn w4 dq) osq = w5 at *
    clear TC cc1 cc2 C4 D4 em
    have O5 : Hid (Own w5 w.heap.size A3 m c3 l3) := hid (O4.out.below HW.out)
    have B5 : Hid (Below w.heap.size w w5) := hid (B4.out.trans (HW.out.mono B4.out.size))
    have R5 : Hid (w5.rangeAt w3.heap.size 0 (enc x0)) := hid (range_keep R4.out hz4.out HW.out)
    clear O4 B4 R4 HW hz4
    have HR5 : Hid (Row w w.heap.size (some ⟨b, o, none⟩) n xs) := HA
    have HLN : Hid (m + 1 = n) := hid HM.out.symm
    have i7 : m + 1 ≤ 4096 := by omega
    go_wp2_with (first
      | (refine wpList_ld rfl (.tmp 8) rfl rfl R5.out ?_)
      | (go_at_call 23; refine (push_ok A3 m c3 w5.heap.size l3 x0 w5 O5.out.row (Nat.le_refl _) (by omega) H3.out).mono ?_; rintro e w6 ⟨A6, c6, l6, rfl, ⟨hh6, hp6⟩, own6, bel6⟩)
      | (go_at_call 21; refine (build_any A6 (m + 1) c6 w6.heap.size l6 w6 own6.row (Nat.le_refl _) (by omega)).mono ?_; rintro e w7 ⟨A7, c7, l7, rfl, ⟨hh7, hp7⟩, own7, bel7⟩; have PX : Hid (l7.Perm xs) := hid (hp7.trans (hp6.trans (P3.out.symm.trans P2.out))); have HC7 : Hid (chk l7 = true) := hid ((chk_iff _).2 hh7); have B7 : Hid (Below w.heap.size w w7) := hid (B5.out.trans ((bel6.mono B5.out.size).trans (bel7.mono (Nat.le_trans B5.out.size bel6.size)))); clear hh6 hp6 hh7 hp7 own6)
      | (go_at_call 20; refine (refsorted_any _ n c w.heap.size xs w7 (HR5.out.below B7.out) B7.out.size (by omega)).mono ?_; rintro e w8 ⟨A8, c8, l8, rfl, hl8, own8, bel8⟩; have HL8 := hid hl8; clear hl8)
      | (go_at_call 22; refine (is_any A7 A8 (m + 1) c7 n c8 w7.heap.size w8.heap.size l7 l8 true w8 (own7.row.below bel8) own8.row bel8.size (Nat.le_refl _) (by omega) (by omega) (by rw [HC7.out, HL8.out, srt_of_perm PX.out]; simp; omega)).mono ?_; rintro e w9 ⟨rfl, bel9⟩))
    go_ret
    exact ⟨rfl, B7.out.trans ((bel8.mono B7.out.size).trans (bel9.mono (Nat.le_trans B7.out.size bel8.size)))⟩
theorem takes_row {w : World} (A : Option Addr) (n c : Nat) (xs : List It) (ha : Row w w.heap.size A n xs) (_ : n ≤ c) (hc : c ≤ 9223372036854775807) (k : Int) (_ : -9223372036854775808 ≤ k) (_ : k ≤ 9223372036854775807) :
    Calls Try.prog 7 #[.slice A n c, .int .i64 k] w fun e w' => e = .returned (.bool true) ∧ Below w.heap.size w w' := takes_any A n c xs k w ha (by omega)
end Go.Proofs.Ytopdklmhiglehaa
