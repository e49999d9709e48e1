/-
  Contracts of crc's tables: the closures that make them, tableOf, table24, table32. No condition but what each head says.
-/
import Derived.Test.YtldegdhpblkhhaaA
import Derived.Test.YtldegdhpblkhhaaQ
import Derived.Laws.BitsAllLaws
import Derived.Deep.MidRow
namespace Go.Proofs.Ytldegdhpblkhhaa
open Go Go.RowKit

theorem xor32 {a b c : Nat} {x y : Int} (hx : x = a) (hy : y = b) (ha : a < 4294967296) (hb : b < 4294967296) (hc : c = a ^^^ b) : bits .xor .u32 x y = (c : Int) := by
  subst hx hy hc; exact u32_xor_nat a b ha hb

/-- A function of a number of 32 bits that only reckons. -/
def Reckons (f : Nat) (g : Nat → Nat) (M : Nat) : Prop := ∀ (r : Nat) (w : World), r < M → Calls Try.prog f #[.int .u32 (r : Int)] w fun e w' => e = .returned (.int .u32 (g r : Int)) ∧ w = w'

theorem put24_any : Reckons 58 (fun i => i * 1048576) 16 := by
  intro i w hi
  go_enter Try.func58, Try.ntmps58
  go_wp2
  go_ret
  exact ⟨ret_int (by omega), rfl⟩
theorem step24_any : Reckons 59 st24 16777216 := by
  intro r w hr
  have H1 : Hid (16777216 ≤ 2 * r → st24 r = 2 * r ^^^ 25578747) := hid (fun h => by unfold st24; rw [if_pos h])
  have H2 : Hid (¬ 16777216 ≤ 2 * r → st24 r = 2 * r) := hid (fun h => by unfold st24; rw [if_neg h])
  go_enter Try.func59, Try.ntmps59
  go_wp2
  · go_ret
    have h : 16777215 < (r : Int) * 2 := by assumption
    exact ⟨ret_int (xor32 (a := 2 * r) (b := 25578747) (by omega) (by omega) (by omega) (by omega) (H1.out (by omega))), rfl⟩
  · go_ret
    have h : (r : Int) * 2 ≤ 16777215 := by assumption
    exact ⟨ret_int (by rw [H2.out (by omega)]; omega), rfl⟩
/-- What a table has. -/
def tab (f p : Nat → Nat) (i : Nat) : Value := .int .u32 ((it f 4 (p i) : Nat) : Int)
def agg16 (v : Nat → Value) : Array Value := #[v 0, v 1, v 2, v 3, v 4, v 5, v 6, v 7, v 8, v 9, v 10, v 11, v 12, v 13, v 14, v 15]
theorem agg16_of (v : Nat → Value) (c : Array Value) (hc : c.size = 16) (h : ∀ j, j < 16 → c[j]? = some (v j)) : c = agg16 v := by
  refine Array.ext (by rw [hc]; rfl) fun i h1 h2 => ?_
  have := h i (by omega)
  rw [Array.getElem?_eq_getElem h1] at this
  rw [Option.some.inj this]
  have hi : i < 16 := by omega
  clear this h1
  rcases i with _ | _ | _ | _ | _ | _ | _ | _ | _ | _ | _ | _ | _ | _ | _ | _ | i <;> first | rfl | omega

def zeros16 : Array Value := agg16 fun _ => .int .u32 0
theorem heap_alloc_new' (w : World) (o : Obj) {g : Nat} (h : g = w.heap.size) : (w.alloc o).heap[g]? = some o := by subst h; exact heap_alloc_new w o
theorem rangeAt_block {w : World} {g : Nat} {t : TypeId} {c : Array Value} (h : w.heap[g]? = some (.cells c t)) : w.rangeAt g 0 c.toList := by
  intro j v hv
  rw [cell_of_row w g (0 + j) c t (0, 0) h]
  simpa using hv
theorem there_block {w : World} {g : Nat} {t : TypeId} {c : Array Value} (h : w.heap[g]? = some (.cells c t)) (n : Nat) (hn : n ≤ c.size) : w.there g 0 n := by
  intro j hj
  rw [cell_of_row w g (0 + j) c t (0, 0) h]
  exact ⟨by rw [Array.getElem?_eq_getElem (by omega)]; rfl, by simp [World.frozen?, h]⟩
theorem Below.setCells {B b : Nat} {a : World} : ∀ (vs : List Value) (o : Nat) {w : World}, Below B a w → B ≤ b → Below B a (w.setCells b o vs)
  | [], _, _, h, _ => h
  | v :: vs, o, _, h, hb => Below.setCells vs (o + 1) (h.setCell (p := ⟨b, o, none⟩) hb v) hb
theorem agg16_one (v : Nat → Value) (h : ∀ j, (v j).oneCell' = true) : (agg16 v).all (·.oneCell') = true := by
  simp [agg16, h]
theorem results_cell_one {fn : Func} {p : Tmp} {ty : TypeId} (h : fn.results = #[.cell p ty]) (tmps : Array Value) (P : Program) (w : World) :
    (results fn tmps).run P w = ((asAddr (tmps.getD p undef)).run P w).andThen fun a w₁ => (loadVar ty a).run P w₁ := by
  simp only [results, h]
  simp [Sem.run_bind, Result.andThen]
theorem size37 : (Try.prog.info? 70).map (·.size) = some 16 := by kernel_rfl
def TabRel (w : World) (f p : Nat → Nat) (i : Value) (wr : World) : Prop :=
  ∃ (k : Nat) (c : Array Value), k ≤ 16 ∧ i = .int .i64 (k : Int) ∧ wr = w.alloc (.cells c 70) ∧ c.size = 16 ∧ ∀ j, j < k → c[j]? = some (tab f p j)
def StepRel (f : Nat → Nat) (r0 : Nat) (r i : Value) : Prop := ∃ k : Nat, k ≤ 4 ∧ i = .int .i64 (k : Int) ∧ r = .int .u32 ((it f k r0 : Nat) : Int)
theorem it_M {f : Nat → Nat} {M : Nat} (h : ∀ r, r < M → f r < M) : ∀ n r, r < M → it f n r < M
  | 0, _, hr => hr
  | n + 1, r, hr => it_M h n (f r) (h r hr)
theorem tab_set {f p : Nat → Nat} {k : Nat} {c : Array Value} {v : Value} (hc : c.size = 16) (hk : k < 16) (h : ∀ j, j < k → c[j]? = some (tab f p j)) (hv : v = tab f p k) : (c.setIfInBounds k v).size = 16 ∧ ∀ j, j < k + 1 → (c.setIfInBounds k v)[j]? = some (tab f p j) := by
  refine ⟨by simp [hc], fun j hj => ?_⟩
  rw [Array.getElem?_setIfInBounds]
  split
  · rename_i e; subst e; rw [if_pos (by omega), hv]
  · exact h j (by omega)

set_option maxHeartbeats 1000000 in
theorem tableOf_24 (w : World) : Calls Try.prog 57 #[.func (.func 58) #[] #[], .func (.func 59) #[] #[]] w fun e w' => e = .returned (.agg (agg16 (tab st24 (fun i => i * 1048576)))) ∧ Below w.heap.size w w' := by
  obtain ⟨p, hp⟩ : ∃ p : Nat → Nat, p = (fun i => i * 1048576) := ⟨_, rfl⟩
  have HP : Hid (Reckons 58 p 16) := hid (by rw [hp]; exact put24_any)
  have HPM : Hid (∀ i, i < 16 → p i < 16777216) := hid (by rw [hp]; intro i hi; dsimp only; omega)
  have HIT : Hid (∀ n r, r < 16777216 → it st24 n r < 16777216) := hid (it_M (M := 16777216) st24_lt)
  rw [← hp]
  clear hp
  go_enter Try.func57, Try.ntmps57
  go_wp2
  obtain ⟨W, hW⟩ : ∃ W, W = w.alloc (Obj.cells zeros16 70) := ⟨_, rfl⟩
  have hsz : W.heap.size = w.heap.size + 1 := by rw [hW]; simp
  have HW := hid hW
  simp only [zeros16, agg16] at hW
  rw [← hW, ← hsz]
  clear hW
  go_loopw [8] (TabRel W st24 p) (fun i _ => 16 - (intOf i).toNat)
  case atStart => exact ⟨0, _, by omega, rfl, rfl, rfl, fun j hj => absurd hj (by omega)⟩
  case round =>
    obtain ⟨k, c, hk, rfl, rfl, hc, hcs⟩ := hrel
    have HCS := hid hcs
    have HC := hid hc
    clear hcs
    by_cases hlt : k < 16
    · go_wp2_with (go_at_call 58; refine (HP.out k _ hlt).mono ?_; rintro e w' ⟨rfl, rfl⟩)
      have hb0 : p k < 16777216 := HPM.out k hlt
      go_loop [7, 15] (StepRel st24 (p k)) (fun _ i => 4 - (intOf i).toNat)
      case atStart => exact ⟨0, by omega, rfl, rfl⟩
      case round =>
        obtain ⟨m, hm, rfl, rfl⟩ := hrel
        obtain ⟨x, hx⟩ : ∃ x, x = it st24 m (p k) := ⟨_, rfl⟩
        have hxM : x < 16777216 := by rw [hx]; exact HIT.out m _ hb0
        have HX := hid hx
        rw [← hx]
        clear hx
        by_cases hm4 : m < 4
        · go_wp2_with (go_at_call 59; refine (step24_any x _ hxM).mono ?_; rintro e w' ⟨rfl, rfl⟩)
          go_round
          case rel => exact ⟨m + 1, by omega, by go_num, by rw [it_last, ← HX.out]⟩
          case measure => simp [intOf]; omega
        · obtain rfl : m = 4 := by omega
          go_wp2_with fail
          obtain ⟨h1, h2⟩ := tab_set (v := .int .u32 (x : Int)) HC.out hlt HCS.out (by rw [HX.out]; rfl)
          refine ⟨⟨_, _, _, ⟨k + 1, _, by omega, rfl, rfl, h1, h2⟩, rfl, rfl, by simp⟩, by simp [intOf]; omega⟩
    · obtain rfl : k = 16 := by omega
      obtain rfl := agg16_of _ c HC.out HCS.out
      have hW := HW.out
      subst hW
      have h1 : Hid ((agg16 (tab st24 p)).all (·.oneCell') = true) := hid (agg16_one _ fun j => rfl)
      have hs : Hid ((agg16 (tab st24 p)).size = 16) := hid rfl
      clear HC HCS HP HPM HIT hc HW
      generalize hcE : agg16 (tab st24 p) = c at *
      have HCE := hid hcE
      clear hcE
      have HR : Hid (((w.alloc (Obj.cells zeros16 70)).alloc (.cells c 70)).rangeAt (w.heap.size + 1) 0 c.toList) := hid (rangeAt_block (heap_alloc_new' _ _ (by simp)))
      have HT : Hid (((w.alloc (Obj.cells zeros16 70)).alloc (.cells c 70)).there w.heap.size 0 c.size) := hid (by
        rw [hs.out]; exact there_block (c := zeros16) (t := 70) (by rw [Below.heap_alloc _ _ _ (by simp)]; exact heap_alloc_new w _) 16 (by decide))
      have HB : Hid (Below w.heap.size w ((w.alloc (Obj.cells zeros16 70)).alloc (.cells c 70))) := hid (((Below.refl _ w).alloc (Nat.le_refl _) _).alloc (by simp) _)
      rw [hsz]
      clear hsz
      generalize (w.alloc (Obj.cells zeros16 70)).alloc (.cells c 70) = W2 at *
      go_wp2_with (first
        | (refine wpList_load_mid rfl 70 (.tmp 5) rfl (w.heap.size + 1) 0 rfl c.toList _ HR.out Try.underlying70 rfl (by rw [size37, Array.length_toList, hs.out]) ?_)
        | (refine wpList_store_mid rfl 70 (.tmp 4) (.tmp 25) rfl w.heap.size 0 c rfl rfl HT.out (by rw [size37, hs.out]) h1.out ?_))
      have hld := run_loadVar_mid (P := Try.prog) (W2.setCells w.heap.size 0 c.toList) w.heap.size 0 70 c.toList _ (World.rangeAt_setCells_same W2 w.heap.size 0 c.toList (by rw [Array.length_toList]; exact HT.out)) Try.underlying70 rfl (by rw [size37, Array.length_toList, hs.out])
      refine bodyPost_ret (v := .agg c) (by rw [results_cell_one Try.results57]; exact hld) rfl ⟨by rw [HCE.out], Below.setCells c.toList 0 HB.out (Nat.le_refl _)⟩

set_option maxHeartbeats 400000 in
theorem table24_any (w : World) : Calls Try.prog 56 #[] w fun e w' => e = .returned (.agg (agg16 (tab st24 (fun i => i * 1048576)))) ∧ Below w.heap.size w w' := by
  go_enter Try.func56, Try.ntmps56
  go_wp2_with fail
  obtain ⟨W, hW⟩ : ∃ W, W = w.alloc (Obj.cells zeros16 70) := ⟨_, rfl⟩
  have hsz : W.heap.size = w.heap.size + 1 := by rw [hW]; simp
  have HB0 : Hid (Below w.heap.size w W) := hid (by rw [hW]; exact (Below.refl _ w).alloc (Nat.le_refl _) _)
  have HT0 : Hid (W.heap[w.heap.size]? = some (.cells zeros16 70)) := hid (by rw [hW]; exact heap_alloc_new w _)
  simp only [zeros16, agg16] at hW
  rw [← hW]
  clear hW
  refine (tableOf_24 W).mono ?_
  rintro e w1 ⟨rfl, bel⟩
  have h1 : Hid ((agg16 (tab st24 (fun i => i * 1048576))).all (·.oneCell') = true) := hid (agg16_one _ fun j => rfl)
  have hs : Hid ((agg16 (tab st24 (fun i => i * 1048576))).size = 16) := hid rfl
  have HB : Hid (Below w.heap.size w w1) := hid (HB0.out.trans (bel.mono (by omega)))
  have HT : Hid (w1.there w.heap.size 0 16) := hid (there_block (c := zeros16) (t := 70) (by rw [bel.block _ (by omega)]; exact HT0.out) 16 (by decide))
  clear bel HB0 HT0
  generalize hcE : agg16 (tab st24 (fun i => i * 1048576)) = c at *
  have HCE := hid hcE
  clear hcE
  go_wp2_with (refine wpList_store_mid rfl 70 (.tmp 0) (.tmp 1) rfl w.heap.size 0 c rfl rfl (by rw [hs.out]; exact HT.out) (by rw [size37, hs.out]) h1.out ?_)
  have hld := run_loadVar_mid (P := Try.prog) (w1.setCells w.heap.size 0 c.toList) w.heap.size 0 70 c.toList _ (World.rangeAt_setCells_same w1 w.heap.size 0 c.toList (by rw [Array.length_toList, hs.out]; exact HT.out)) Try.underlying70 rfl (by rw [size37, Array.length_toList, hs.out])
  refine bodyPost_ret (v := .agg c) (by rw [results_cell_one Try.results56]; exact hld) rfl ⟨by rw [HCE.out], Below.setCells c.toList 0 HB.out (Nat.le_refl _)⟩

end Go.Proofs.Ytldegdhpblkhhaa
