/-
  The walk of MemberCliques: it returns true at every list of bytes.
-/
import Derived.Test.YtbfaebobainhjaaWA
import Derived.Test.YtbfaebobainhjaaT
import Derived.Test.YtbfaebobainhjaaA
namespace Go.Proofs.Ytbfaebobainhjaa
open Go Go.RowKit
/-- The cells of bytes. -/
def uv (l : List Int) : List Value := l.map (Value.int .u8)
theorem uv_get {l : List Int} {k : Nat} {u : Value} (h : k < l.length) (hu : (uv l)[k]? = some u) : u = .int .u8 (l.getD k 0) := by
  rw [uv, List.getElem?_map, List.getElem?_eq_getElem h] at hu
  simp only [Option.map_some, Option.some.injEq] at hu
  rw [← hu, List.getD, List.getElem?_eq_getElem h]; rfl
def QRel (n : Nat) (w : World) (g4 : Nat) (p q i : Value) (wr : World) : Prop :=
  ∃ (j : Nat) (g b : Int), j ≤ n ∧ p = .int .i64 g ∧ q = .int .i64 b ∧ i = .int .i64 (j : Int) ∧ Hid (VarT wr g4 ⟨g, b⟩) ∧ Hid (Below w.heap.size w wr) ∧ 0 ≤ g ∧ g ≤ j ∧ 0 ≤ b ∧ b ≤ j
theorem cnt_any (t : Ty) (v : Int) (u : Ty) (w : World) (hv : OkV v) (ht : OkT t) (hu : cnt t v = u) : Calls Try.prog 15 #[tv t, .int .i64 v] w (RetT u 0 w) := by
  have h := count_any t v w (by unfold OkV at hv; unfold KeyI; omega)
  rw [show cntT t v = cnt t v from if_pos ⟨hv, ht⟩, show cntE t v = 0 from if_pos ⟨hv, ht⟩, hu] at h
  exact h
set_option maxHeartbeats 8000000 in
theorem cliques_walk (A : Option Addr) (n c : Nat) (l : List Int) (w : World) (ha : Row w w.heap.size A n (uv l)) (hb : ∀ z ∈ l, 0 ≤ z ∧ z ≤ 255) (hn : n ≤ 140737488351232) : Calls Try.prog 8 #[.slice A n c] w (TrueB w) := by
  have hl : l.length = n := by have := ha.1; simpa [uv] using this
  have HL := hid live_any
  have HA := hid ha
  have HB := hid hb
  have HN := hid hl
  clear ha hb hl
  by_cases h5 : 500 < n
  · go_enter Try.func8, Try.ntmps8
    go_wp2_with (go_at_call 10; (with_reducible refine (HL.out w).mono ?_); rintro e w1 ⟨rfl, b1⟩)
    go_ret
    exact ⟨rfl, b1⟩
  · go_enter Try.func8, Try.ntmps8
    go_wp2_with (first
      | (refine wpList_svt (x := tz) rfl (.tmp 4) (.tmp 18) rfl rfl rfl t2 ?_; intro w3 t3 b3 o3 s3; have B3 : Hid (Below w.heap.size w w3) := hid (B2.out.trans (b3.mono LW.out)))
      | (refine wpList_alt rfl rfl ?_; intro w2 t2 b2 s2; have LW := hid b1.size; have B2 : Hid (Below w.heap.size w w2) := hid (b1.trans (b2.mono b1.size)))
      | (go_at_call 10; (with_reducible refine (HL.out w).mono ?_); rintro e w1 ⟨rfl, b1⟩))
    go_loopw [5, 6, 21] (QRel n w w1.heap.size) (fun _ _ i _ => n - (intOf i).toNat)
    case atStart => exact ⟨0, 0, 0, Nat.zero_le _, rfl, rfl, rfl, hid t3, B3, by omega, by omega, by omega, by omega⟩
    case round =>
      clear t3 B3 b3 o3 s3 t2 b2 s2 B2
      obtain ⟨j, g, b, hj, rfl, rfl, rfl, T4, BW, g0, g1, b0, b1'⟩ := hrel
      by_cases hlt : j < n
      · obtain ⟨ab, ao, u, rfl, hbb, hu, hcell⟩ := (HA.out.below BW.out).at_ hlt
        obtain rfl := uv_get (by rw [HN.out]; exact hlt) hu
        have hz := HB.out _ (show l.getD j 0 ∈ l from by
          have hk : j < l.length := by rw [HN.out]; exact hlt
          rw [List.getD, List.getElem?_eq_getElem hk]; exact List.getElem_mem hk)
        generalize l.getD j 0 = z at *
        obtain ⟨z0, z1⟩ := hz
        have ht : OkT ⟨g, b⟩ := by unfold OkT OkN; simp only; omega
        have hgi : inc g = g + 1 := inc_in (by omega)
        have hbi : inc b = b + 1 := inc_in (by omega)
        clear hu hbb
        have hm : z.tmod 4 = 0 ∨ z.tmod 4 = 1 ∨ z.tmod 4 = 2 ∨ z.tmod 4 = 3 := by rw [Int.tmod_eq_emod_of_nonneg z0]; omega
        rcases hm with hm | hm | hm | hm
        · have hm2 : z % 4 = 0 := by rw [← Int.tmod_eq_emod_of_nonneg z0]; exact hm
          have HC := hid (fun w => cnt_any ⟨g, b⟩ 0 ⟨g, b⟩ w (by decide) ht (by rfl))
          have h3 : ∃ (c1 : Bool), decide (0 < b ∧ g ≤ b) = c1 ∧ ((¬ 0 < b ∧ c1 = false) ∨ (0 < b ∧ g ≤ b ∧ c1 = true) ∨ (0 < b ∧ ¬ g ≤ b ∧ c1 = false)) := by
            refine ⟨_, rfl, ?_⟩
            by_cases k1 : 0 < b
            · by_cases k2 : g ≤ b
              · exact .inr (.inl ⟨k1, k2, decide_eq_true ⟨k1, k2⟩⟩)
              · exact .inr (.inr ⟨k1, k2, decide_eq_false fun e => k2 e.2⟩)
            · exact .inl ⟨k1, decide_eq_false fun e => k1 e.1⟩
          obtain ⟨c1, hc1, h3⟩ := h3
          have HQ := hid (fun w => clique_any ⟨g, b⟩ c1 hc1 w)
          clear hc1 ht hgi hbi
          have hlt' := T4.out.lt
          rcases h3 with ⟨k1, rfl⟩ | ⟨k1, k2, rfl⟩ | ⟨k1, k2, rfl⟩
          all_goals
            go_wp2_with (first
              | (go_at_call 17; (with_reducible refine (HQ.out w5).mono ?_); rintro e w6 ⟨rfl, b6⟩; have t6 := t5.keep b6; have B6 : Hid (Below w.heap.size w w6) := hid (B5.out.trans (b6.mono B5.out.size)))
              | (refine wpList_ldt rfl (.tmp 4) rfl rfl t5 ?_)
              | (refine wpList_svt rfl (.tmp 4) (.tmp 35) rfl rfl rfl t4 ?_; intro w5 t5 b5 o5 s5; have c0 : w5.cell? ⟨w1.heap.size, 0, none⟩ = some (.int .i64 (g)) := t5.c0; have c1 : w5.cell? ⟨w1.heap.size, 1, none⟩ = some (.int .i64 (b)) := t5.c1; have B5 : Hid (Below w.heap.size w w5) := hid (B4.out.trans (b5.mono b1.size)))
              | (refine wpList_ldt rfl (.tmp 9) rfl rfl z4 ?_)
              | (refine wpList_svt rfl (.tmp 9) (.tmp 31) rfl rfl rfl z3 ?_; intro w4 z4 b4 o4 s4; have t4 := t3.below b4 LT.out; have B4 : Hid (Below w.heap.size w w4) := hid (B3.out.trans (b4.mono LB.out)))
              | (refine wpList_alt rfl rfl ?_; intro w3 z3 b3 s3; have t3 := t2.keep b3; have LT := hid t2.lt; have LB := hid B2.out.size; have B3 : Hid (Below w.heap.size w w3) := hid (B2.out.trans (b3.mono B2.out.size)))
              | (go_at_call 15; (with_reducible refine (HC.out wr).mono ?_); rintro e w2 ⟨rfl, b2⟩; have t2 := T4.out.keep b2; have B2 : Hid (Below w.heap.size w w2) := hid (BW.out.trans (b2.mono BW.out.size)))
              | (refine wpList_ldt rfl (.tmp 4) rfl rfl T4.out ?_))
            refine ⟨⟨j + 1, g, b, by omega, rfl, rfl, by go_num, hid t6, B6, by omega, by omega, by omega, by omega⟩, by simp [intOf]; omega⟩
        · have hm2 : z % 4 = 1 := by rw [← Int.tmod_eq_emod_of_nonneg z0]; exact hm
          have HC := hid (fun w => cnt_any ⟨g, b⟩ 1 ⟨g + 1, b⟩ w (by decide) ht (by show (⟨inc g, b⟩ : Ty) = _; rw [hgi]))
          have h3 : ∃ (c1 : Bool), decide (0 < b ∧ g + 1 ≤ b) = c1 ∧ ((¬ 0 < b ∧ c1 = false) ∨ (0 < b ∧ g + 1 ≤ b ∧ c1 = true) ∨ (0 < b ∧ ¬ g + 1 ≤ b ∧ c1 = false)) := by
            refine ⟨_, rfl, ?_⟩
            by_cases k1 : 0 < b
            · by_cases k2 : g + 1 ≤ b
              · exact .inr (.inl ⟨k1, k2, decide_eq_true ⟨k1, k2⟩⟩)
              · exact .inr (.inr ⟨k1, k2, decide_eq_false fun e => k2 e.2⟩)
            · exact .inl ⟨k1, decide_eq_false fun e => k1 e.1⟩
          obtain ⟨c1, hc1, h3⟩ := h3
          have HQ := hid (fun w => clique_any ⟨g + 1, b⟩ c1 hc1 w)
          clear hc1 ht hgi hbi
          have hlt' := T4.out.lt
          rcases h3 with ⟨k1, rfl⟩ | ⟨k1, k2, rfl⟩ | ⟨k1, k2, rfl⟩
          all_goals
            go_wp2_with (first
              | (go_at_call 17; (with_reducible refine (HQ.out w5).mono ?_); rintro e w6 ⟨rfl, b6⟩; have t6 := t5.keep b6; have B6 : Hid (Below w.heap.size w w6) := hid (B5.out.trans (b6.mono B5.out.size)))
              | (refine wpList_ldt rfl (.tmp 4) rfl rfl t5 ?_)
              | (refine wpList_svt rfl (.tmp 4) (.tmp 35) rfl rfl rfl t4 ?_; intro w5 t5 b5 o5 s5; have c0 : w5.cell? ⟨w1.heap.size, 0, none⟩ = some (.int .i64 (g + 1)) := t5.c0; have c1 : w5.cell? ⟨w1.heap.size, 1, none⟩ = some (.int .i64 (b)) := t5.c1; have B5 : Hid (Below w.heap.size w w5) := hid (B4.out.trans (b5.mono b1.size)))
              | (refine wpList_ldt rfl (.tmp 9) rfl rfl z4 ?_)
              | (refine wpList_svt rfl (.tmp 9) (.tmp 31) rfl rfl rfl z3 ?_; intro w4 z4 b4 o4 s4; have t4 := t3.below b4 LT.out; have B4 : Hid (Below w.heap.size w w4) := hid (B3.out.trans (b4.mono LB.out)))
              | (refine wpList_alt rfl rfl ?_; intro w3 z3 b3 s3; have t3 := t2.keep b3; have LT := hid t2.lt; have LB := hid B2.out.size; have B3 : Hid (Below w.heap.size w w3) := hid (B2.out.trans (b3.mono B2.out.size)))
              | (go_at_call 15; (with_reducible refine (HC.out wr).mono ?_); rintro e w2 ⟨rfl, b2⟩; have t2 := T4.out.keep b2; have B2 : Hid (Below w.heap.size w w2) := hid (BW.out.trans (b2.mono BW.out.size)))
              | (refine wpList_ldt rfl (.tmp 4) rfl rfl T4.out ?_))
            refine ⟨⟨j + 1, g + 1, b, by omega, rfl, rfl, by go_num, hid t6, B6, by omega, by omega, by omega, by omega⟩, by simp [intOf]; omega⟩
        · have hm2 : z % 4 = 2 := by rw [← Int.tmod_eq_emod_of_nonneg z0]; exact hm
          have HC := hid (fun w => cnt_any ⟨g, b⟩ 2 ⟨g + 1, b⟩ w (by decide) ht (by show (⟨inc g, b⟩ : Ty) = _; rw [hgi]))
          have h3 : ∃ (c1 : Bool), decide (0 < b ∧ g + 1 ≤ b) = c1 ∧ ((¬ 0 < b ∧ c1 = false) ∨ (0 < b ∧ g + 1 ≤ b ∧ c1 = true) ∨ (0 < b ∧ ¬ g + 1 ≤ b ∧ c1 = false)) := by
            refine ⟨_, rfl, ?_⟩
            by_cases k1 : 0 < b
            · by_cases k2 : g + 1 ≤ b
              · exact .inr (.inl ⟨k1, k2, decide_eq_true ⟨k1, k2⟩⟩)
              · exact .inr (.inr ⟨k1, k2, decide_eq_false fun e => k2 e.2⟩)
            · exact .inl ⟨k1, decide_eq_false fun e => k1 e.1⟩
          obtain ⟨c1, hc1, h3⟩ := h3
          have HQ := hid (fun w => clique_any ⟨g + 1, b⟩ c1 hc1 w)
          clear hc1 ht hgi hbi
          have hlt' := T4.out.lt
          rcases h3 with ⟨k1, rfl⟩ | ⟨k1, k2, rfl⟩ | ⟨k1, k2, rfl⟩
          all_goals
            go_wp2_with (first
              | (go_at_call 17; (with_reducible refine (HQ.out w5).mono ?_); rintro e w6 ⟨rfl, b6⟩; have t6 := t5.keep b6; have B6 : Hid (Below w.heap.size w w6) := hid (B5.out.trans (b6.mono B5.out.size)))
              | (refine wpList_ldt rfl (.tmp 4) rfl rfl t5 ?_)
              | (refine wpList_svt rfl (.tmp 4) (.tmp 35) rfl rfl rfl t4 ?_; intro w5 t5 b5 o5 s5; have c0 : w5.cell? ⟨w1.heap.size, 0, none⟩ = some (.int .i64 (g + 1)) := t5.c0; have c1 : w5.cell? ⟨w1.heap.size, 1, none⟩ = some (.int .i64 (b)) := t5.c1; have B5 : Hid (Below w.heap.size w w5) := hid (B4.out.trans (b5.mono b1.size)))
              | (refine wpList_ldt rfl (.tmp 9) rfl rfl z4 ?_)
              | (refine wpList_svt rfl (.tmp 9) (.tmp 31) rfl rfl rfl z3 ?_; intro w4 z4 b4 o4 s4; have t4 := t3.below b4 LT.out; have B4 : Hid (Below w.heap.size w w4) := hid (B3.out.trans (b4.mono LB.out)))
              | (refine wpList_alt rfl rfl ?_; intro w3 z3 b3 s3; have t3 := t2.keep b3; have LT := hid t2.lt; have LB := hid B2.out.size; have B3 : Hid (Below w.heap.size w w3) := hid (B2.out.trans (b3.mono B2.out.size)))
              | (go_at_call 15; (with_reducible refine (HC.out wr).mono ?_); rintro e w2 ⟨rfl, b2⟩; have t2 := T4.out.keep b2; have B2 : Hid (Below w.heap.size w w2) := hid (BW.out.trans (b2.mono BW.out.size)))
              | (refine wpList_ldt rfl (.tmp 4) rfl rfl T4.out ?_))
            refine ⟨⟨j + 1, g + 1, b, by omega, rfl, rfl, by go_num, hid t6, B6, by omega, by omega, by omega, by omega⟩, by simp [intOf]; omega⟩
        · have hm2 : z % 4 = 3 := by rw [← Int.tmod_eq_emod_of_nonneg z0]; exact hm
          have HC := hid (fun w => cnt_any ⟨g, b⟩ 3 ⟨g, b + 1⟩ w (by decide) ht (by show (⟨g, inc b⟩ : Ty) = _; rw [hbi]))
          have h3 : ∃ (c1 : Bool), decide (0 < b + 1 ∧ g ≤ b + 1) = c1 ∧ ((¬ 0 < b + 1 ∧ c1 = false) ∨ (0 < b + 1 ∧ g ≤ b + 1 ∧ c1 = true) ∨ (0 < b + 1 ∧ ¬ g ≤ b + 1 ∧ c1 = false)) := by
            refine ⟨_, rfl, ?_⟩
            by_cases k1 : 0 < b + 1
            · by_cases k2 : g ≤ b + 1
              · exact .inr (.inl ⟨k1, k2, decide_eq_true ⟨k1, k2⟩⟩)
              · exact .inr (.inr ⟨k1, k2, decide_eq_false fun e => k2 e.2⟩)
            · exact .inl ⟨k1, decide_eq_false fun e => k1 e.1⟩
          obtain ⟨c1, hc1, h3⟩ := h3
          have HQ := hid (fun w => clique_any ⟨g, b + 1⟩ c1 hc1 w)
          clear hc1 ht hgi hbi
          have hlt' := T4.out.lt
          rcases h3 with ⟨k1, _⟩ | ⟨k1, k2, rfl⟩ | ⟨k1, k2, rfl⟩
          · exact absurd k1 (by omega)
          all_goals
            go_wp2_with (first
              | (go_at_call 17; (with_reducible refine (HQ.out w5).mono ?_); rintro e w6 ⟨rfl, b6⟩; have t6 := t5.keep b6; have B6 : Hid (Below w.heap.size w w6) := hid (B5.out.trans (b6.mono B5.out.size)))
              | (refine wpList_ldt rfl (.tmp 4) rfl rfl t5 ?_)
              | (refine wpList_svt rfl (.tmp 4) (.tmp 35) rfl rfl rfl t4 ?_; intro w5 t5 b5 o5 s5; have c0 : w5.cell? ⟨w1.heap.size, 0, none⟩ = some (.int .i64 (g)) := t5.c0; have c1 : w5.cell? ⟨w1.heap.size, 1, none⟩ = some (.int .i64 (b + 1)) := t5.c1; have B5 : Hid (Below w.heap.size w w5) := hid (B4.out.trans (b5.mono b1.size)))
              | (refine wpList_ldt rfl (.tmp 9) rfl rfl z4 ?_)
              | (refine wpList_svt rfl (.tmp 9) (.tmp 31) rfl rfl rfl z3 ?_; intro w4 z4 b4 o4 s4; have t4 := t3.below b4 LT.out; have B4 : Hid (Below w.heap.size w w4) := hid (B3.out.trans (b4.mono LB.out)))
              | (refine wpList_alt rfl rfl ?_; intro w3 z3 b3 s3; have t3 := t2.keep b3; have LT := hid t2.lt; have LB := hid B2.out.size; have B3 : Hid (Below w.heap.size w w3) := hid (B2.out.trans (b3.mono B2.out.size)))
              | (go_at_call 15; (with_reducible refine (HC.out wr).mono ?_); rintro e w2 ⟨rfl, b2⟩; have t2 := T4.out.keep b2; have B2 : Hid (Below w.heap.size w w2) := hid (BW.out.trans (b2.mono BW.out.size)))
              | (refine wpList_ldt rfl (.tmp 4) rfl rfl T4.out ?_))
            refine ⟨⟨j + 1, g, b + 1, by omega, rfl, rfl, by go_num, hid t6, B6, by omega, by omega, by omega, by omega⟩, by simp [intOf]; omega⟩
      · obtain rfl : j = n := by omega
        go_wp2_with fail
        go_ret
        exact ⟨rfl, BW.out⟩
end Go.Proofs.Ytbfaebobainhjaa
