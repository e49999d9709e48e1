/-
  medium.place, medium.Find: what they tell. What is asked: what each head says.
-/
import Derived.Test.YtjmkhhmibkiijaaD
import Derived.Test.YtjmkhhmibkiijaaF
namespace Go.Proofs.Ytjmkhhmibkiijaa
open Go Go.RowKit

theorem idq_any (x : Ar) (g : Nat) (I : Int) (w : World) (hg : w.cell? ⟨g, 0, none⟩ = some (.int .u64 I)) :
    Calls Try.prog 42 #[itv x, .pointer (some ⟨g, 0, none⟩)] w fun e w' => e = .returned (.bool (x.id == I)) ∧ Below w.heap.size w w' := by
  have HG := hid hg
  have hgl := World.block_lt_of_cell? w _ hg
  clear hg
  go_enter Try.func42, Try.ntmps42
  go_wp2_with (refine wpList_boxa (x := x) rfl (.tmp 0) rfl rfl ?_; intro w1 v1 b1 s1; have q0 := v1.c0; have qg : w1.cell? ⟨g, 0, none⟩ = some (.int .u64 I) := (b1.cell hgl).trans HG.out)
  go_ret
  exact ⟨rfl, b1⟩
set_option maxRecDepth 100000 in
theorem idx_yes (A : Option Addr) (n c B g k : Nat) (I : Int) (xs : List Ar) (w : World) (ha : Rw w B A n xs) (hB : B ≤ w.heap.size) (hg : w.cell? ⟨g, 0, none⟩ = some (.int .u64 I)) (hk : k < n) (hn : n ≤ 100000) (he : (nth xs k).id = I) (hf : ∀ i, i < k → (nth xs i).id ≠ I) :
    Calls Try.prog 41 #[.slice A n c, .func (.func 42) #[] #[.pointer (some ⟨g, 0, none⟩)]] w fun e w' => e = .returned (.int .i64 (k : Int)) ∧ Below w.heap.size w w' := by
  have HA := hid ha
  have HG := hid hg
  have HE := hid he
  have HF := hid hf
  have hgl := World.block_lt_of_cell? w _ hg
  clear ha hg he hf
  go_enter Try.func41, Try.ntmps41
  go_wp2
  go_loopw [8] (fun t wr => ∃ j : Nat, t = .int .i64 (j : Int) ∧ j ≤ k ∧ Below w.heap.size w wr) (fun t _ => n - (intOf t).toNat)
  case atStart => exact ⟨0, rfl, by omega, Below.refl _ _⟩
  case round =>
    obtain ⟨j, rfl, hj, hbel⟩ := hrel
    have HB := hid hbel
    clear hbel
    have hR := hid (HA.out.below (HB.out.mono hB))
    obtain ⟨b, o, rfl, hb, hc⟩ := hR.out.all (by omega)
    have r1 := hid (hc j (by omega))
    have hjn : (j : Int) < (n : Int) := by omega
    have HQ := hid (idq_any (nth xs j) g I wr ((HB.out.cell hgl).trans HG.out))
    clear hc hb
    by_cases e : j = k
    · have hq : ((nth xs j).id == I) = true := by rw [e, HE.out]; simp
      rw [hq] at HQ
      have HJ := hid e
      generalize nth xs j = x at *
      clear e hq
      go_wp2_with (first
        | (go_at_call 42; refine HQ.out.mono ?_; rintro e w2 ⟨rfl, b2⟩)
        | (refine wpList_lde (x := x) rfl (.tmp 14) rfl rfl r1.out ?_))
      go_ret
      exact ⟨ret_int (by rw [HJ.out]), HB.out.trans (b2.mono HB.out.size)⟩
    · have hq : ((nth xs j).id == I) = false := by have := HF.out j (by omega); simp [this]
      rw [hq] at HQ
      have hjk : j < k := by omega
      generalize nth xs j = x at *
      clear e hq
      go_wp2_with (first
        | (go_at_call 42; refine HQ.out.mono ?_; rintro e w2 ⟨rfl, b2⟩)
        | (refine wpList_lde (x := x) rfl (.tmp 14) rfl rfl r1.out ?_))
      exact ⟨⟨j + 1, by go_num, by omega, HB.out.trans (b2.mono HB.out.size)⟩, by simp [intOf]; omega⟩
set_option maxRecDepth 100000 in
theorem idx_no (A : Option Addr) (n c B g : Nat) (I : Int) (xs : List Ar) (w : World) (ha : Rw w B A n xs) (hB : B ≤ w.heap.size) (hg : w.cell? ⟨g, 0, none⟩ = some (.int .u64 I)) (hn : n ≤ 100000) (hf : ∀ i, i < n → (nth xs i).id ≠ I) :
    Calls Try.prog 41 #[.slice A n c, .func (.func 42) #[] #[.pointer (some ⟨g, 0, none⟩)]] w fun e w' => e = .returned (.int .i64 (-1)) ∧ Below w.heap.size w w' := by
  have HA := hid ha
  have HG := hid hg
  have HF := hid hf
  have hgl := World.block_lt_of_cell? w _ hg
  clear ha hg hf
  go_enter Try.func41, Try.ntmps41
  go_wp2
  go_loopw [8] (fun t wr => ∃ j : Nat, t = .int .i64 (j : Int) ∧ j ≤ n ∧ Below w.heap.size w wr) (fun t _ => n - (intOf t).toNat)
  case atStart => exact ⟨0, rfl, by omega, Below.refl _ _⟩
  case round =>
    obtain ⟨j, rfl, hj, hbel⟩ := hrel
    have HB := hid hbel
    clear hbel
    by_cases hlt : j < n
    · have hR := hid (HA.out.below (HB.out.mono hB))
      obtain ⟨b, o, rfl, hb, hc⟩ := hR.out.all (by omega)
      have r1 := hid (hc j (by omega))
      have hjn : (j : Int) < (n : Int) := by omega
      have HQ := hid (idq_any (nth xs j) g I wr ((HB.out.cell hgl).trans HG.out))
      have hq : ((nth xs j).id == I) = false := by have := HF.out j hlt; simp [this]
      rw [hq] at HQ
      generalize nth xs j = x at *
      clear hc hb hq
      go_wp2_with (first
        | (go_at_call 42; refine HQ.out.mono ?_; rintro e w2 ⟨rfl, b2⟩)
        | (refine wpList_lde (x := x) rfl (.tmp 14) rfl rfl r1.out ?_))
      go_roundw
      case rel => exact ⟨j + 1, by go_num, by omega, HB.out.trans (b2.mono HB.out.size)⟩
      case measure => simp [intOf]; omega
    · go_wp2
      go_ret
      exact ⟨rfl, HB.out⟩
theorem place_yes (A : Option Addr) (n c B k : Nat) (I : Int) (xs : List Ar) (w : World) (ha : Rw w B A n xs) (hB : B ≤ w.heap.size) (hk : k < n) (hn : n ≤ 100000) (he : (nth xs k).id = I) (hf : ∀ i, i < k → (nth xs i).id ≠ I) :
    Calls Try.prog 32 #[.slice A n c, .int .u64 I] w fun e w' => e = .returned (.int .i64 (k : Int)) ∧ Below w.heap.size w w' := by
  have H : Hid (∀ w1 g, Below w.heap.size w w1 → w1.cell? ⟨g, 0, none⟩ = some (.int .u64 I) → Calls Try.prog 41 #[.slice A n c, .func (.func 42) #[] #[.pointer (some ⟨g, 0, none⟩)]] w1 fun e w' => e = .returned (.int .i64 (k : Int)) ∧ Below w1.heap.size w1 w') := hid fun w1 g hb hg => idx_yes A n c B g k I xs w1 (ha.below (hb.mono hB)) (Nat.le_trans hB hb.size) hg hk hn he hf
  clear ha he hf
  go_enter Try.func32, Try.ntmps32
  go_wp2_with (go_at_call 41; refine (H.out _ _ ((Below.refl _ _).alloc (Nat.le_refl _) _) (by simp)).mono ?_; rintro e w2 ⟨rfl, b2⟩)
  go_ret
  exact ⟨rfl, ((Below.refl _ _).alloc (Nat.le_refl _) _).trans (b2.mono (by simp))⟩
theorem place_no (A : Option Addr) (n c B : Nat) (I : Int) (xs : List Ar) (w : World) (ha : Rw w B A n xs) (hB : B ≤ w.heap.size) (hn : n ≤ 100000) (hf : ∀ i, i < n → (nth xs i).id ≠ I) :
    Calls Try.prog 32 #[.slice A n c, .int .u64 I] w fun e w' => e = .returned (.int .i64 (-1)) ∧ Below w.heap.size w w' := by
  have H : Hid (∀ w1 g, Below w.heap.size w w1 → w1.cell? ⟨g, 0, none⟩ = some (.int .u64 I) → Calls Try.prog 41 #[.slice A n c, .func (.func 42) #[] #[.pointer (some ⟨g, 0, none⟩)]] w1 fun e w' => e = .returned (.int .i64 (-1)) ∧ Below w1.heap.size w1 w') := hid fun w1 g hb hg => idx_no A n c B g I xs w1 (ha.below (hb.mono hB)) (Nat.le_trans hB hb.size) hg hn hf
  clear ha hf
  go_enter Try.func32, Try.ntmps32
  go_wp2_with (go_at_call 41; refine (H.out _ _ ((Below.refl _ _).alloc (Nat.le_refl _) _) (by simp)).mono ?_; rintro e w2 ⟨rfl, b2⟩)
  go_ret
  exact ⟨rfl, ((Below.refl _ _).alloc (Nat.le_refl _) _).trans (b2.mono (by simp))⟩
/-- Find, where there is none. -/
theorem find_no (A : Option Addr) (n c B : Nat) (I : Int) (xs : List Ar) (w : World) (ha : Rw w B A n xs) (hB : B ≤ w.heap.size) (hn : n ≤ 100000) (hf : ∀ i, i < n → (nth xs i).id ≠ I) :
    Calls Try.prog 19 #[.slice A n c, .int .u64 I] w fun e w' => e = .returned (.tuple #[itv az, .bool false]) ∧ Below w.heap.size w w' := by
  have H : Hid (∀ w1, Below w.heap.size w w1 → Calls Try.prog 32 #[.slice A n c, .int .u64 I] w1 fun e w' => e = .returned (.int .i64 (-1)) ∧ Below w1.heap.size w1 w') := hid fun w1 hb => place_no A n c B I xs w1 (ha.below (hb.mono hB)) (Nat.le_trans hB hb.size) hn hf
  clear ha hf
  go_enter Try.func19, Try.ntmps19
  go_wp2_with (first
    | (refine wpList_sva (x := az) rfl (.tmp 4) (.tmp 12) rfl rfl rfl r3 ?_; intro w4 r4 b4 o4 s4; have B4 : Hid (Below w.heap.size w w4) := hid (B3.out.trans b4))
    | (go_at_call 32; refine (H.out w2 b2).mono ?_; rintro e w3 ⟨rfl, b3⟩; have r3 := r2.below b3 r2.lt; have B3 : Hid (Below w.heap.size w w3) := hid (b2.trans (b3.mono b2.size)))
    | (refine wpList_ala rfl rfl ?_; intro w2 r2 b2 s2))
  refine bodyPost_ret (w := w4) (results_a1 Try.results19 _ rfl r4) rfl ?_
  exact ⟨rfl, B4.out⟩
end Go.Proofs.Ytjmkhhmibkiijaa
