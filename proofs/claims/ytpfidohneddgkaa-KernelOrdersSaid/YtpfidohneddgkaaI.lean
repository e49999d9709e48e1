/-
  heap.without, heap.Pop: what they answer at slices that read as lists. What is asked: at most 4096 things.
-/
import Derived.Test.YtpfidohneddgkaaH
import Derived.Deep.RegionHeld3
namespace Go.Proofs.Ytpfidohneddgkaa
open Go Go.RowKit

theorem take_rep (xs : List It) (k : Nat) : xs.take k ++ (List.replicate k zr).drop k = xs.take k := by simp
set_option maxHeartbeats 1000000 in
theorem without_any (A : Option Addr) (k c B a : Nat) (xs : List It) (w : World) (ha : Row w B A (k + 1) xs) (hB : B ≤ w.heap.size) (hn : k < 4096) (hh : Hp xs) (hak : a ≤ k) :
    Calls Try.prog 52 #[.slice A (k + 1 : Nat) c, .int .i64 (a : Int)] w (RetS w.heap.size k (fun l => Hp l ∧ xs.Perm (nth xs a :: l)) w) := by
  obtain ⟨n, hnk⟩ : ∃ n, n = k + 1 := ⟨_, rfl⟩
  rw [← hnk] at ha ⊢
  have HA := hid ha
  have HL := hid ha.1
  have HH := hid hh
  have HNK := hid hnk
  have HT := hid (take_rep xs k)
  have i1 : (n : Int) - 1 = (k : Int) := by omega
  obtain ⟨b, o, rfl, hb, hc⟩ := ha.all (by omega)
  have RL := hid (hc k (by omega))
  have hkn : k < n := by omega
  have i2 : (k : Int) < (n : Int) := by omega
  clear ha hh hnk hc
  by_cases hl : a = k
  · subst hl
    go_enter Try.func52, Try.ntmps52
    go_wp2_with (first
      | (refine wpList_mk rfl (.tmp 10) (.tmp 10) rfl _ a rfl rfl (by omega) (by omega) w.heap.size (Nat.le_refl _) ?_; intro w2 own2 bel2)
      | (refine wpList_cp rfl (.tmp 12) (.tmp 13) rfl rfl rfl own2 (HA.out.below (bel2.mono hB)) a (by omega) ?_; intro w3 own3 bel3; rw [HT.out] at own3))
    go_ret
    have hq := without_last HH.out (by rw [HL.out, HNK.out])
    exact ⟨_, a, _, rfl, hq, own3, bel2.trans bel3⟩
  · have t1 : ((a : Int) == (k : Int)) = false := by simp; omega
    have hak2 : a < k := by omega
    have i3 : (a : Int) < (k : Int) := by omega
    clear hl
    go_enter Try.func52, Try.ntmps52
    go_wp2_with (first
      | (refine wpList_mk rfl (.tmp 10) (.tmp 10) rfl _ k rfl rfl (by omega) (by omega) w.heap.size (Nat.le_refl _) ?_; intro w2 own2 bel2)
      | (refine wpList_cp rfl (.tmp 12) (.tmp 13) rfl rfl rfl own2 (HA.out.below (bel2.mono hB)) k (by omega) ?_; intro w3 own3 bel3; rw [HT.out] at own3)
      | (refine wpList_ld rfl (.tmp 23) rfl rfl (range_keep RL.out (Nat.lt_of_lt_of_le hb hB) (bel2.trans bel3)) ?_)
      | (refine wpList_st rfl (.tmp 25) (.tmp 24) rfl rfl rfl own3 hak2 ?_; intro w4 own4 bel4)
      | (go_at_call 61; refine (sink_any w.heap.size w.heap.size k k a _ w4 own4 (by omega) hak2 (Nat.le_trans bel2.size (Nat.le_trans bel3.size bel4.size))).mono ?_; rintro e w5 ⟨rfl, s, hs, own5, bel5⟩)
      | (go_at_call 49; refine (rise_any w.heap.size w.heap.size k k a _ w5 own5 (by omega) hak2 (Nat.le_trans bel2.size (Nat.le_trans bel3.size (Nat.le_trans bel4.size bel5.size)))).mono ?_; rintro e w6 ⟨rfl, m, hr, own6, bel6⟩))
    go_ret
    have hq := without_heap HH.out (by rw [HL.out, HNK.out]) hak2 hs hr
    exact ⟨_, k, m, rfl, hq, own6, bel2.trans (bel3.trans (bel4.trans (bel5.trans bel6)))⟩

theorem stored_var {w : World} {g : Nat} (ht : w.there g 0 6) (v : It) : (w.setCells g 0 (enc v)).rangeAt g 0 (enc v) ∧ Below g w (w.setCells g 0 (enc v)) ∧ ∀ k, k ≠ g → (w.setCells g 0 (enc v)).heap[k]? = w.heap[k]? := by
  have hbl : ∀ (vs : List Value) (o : Nat) (w : World), Below g w (w.setCells g o vs) ∧ ∀ k, k ≠ g → (w.setCells g o vs).heap[k]? = w.heap[k]? := by
    intro vs
    induction vs with
    | nil => exact fun o w => ⟨Below.refl _ _, fun _ _ => rfl⟩
    | cons v r ih => exact fun o w => ⟨((Below.refl _ _).setCell (p := ⟨g, o, none⟩) (Nat.le_refl _) v).trans (ih (o + 1) _).1, fun k hk => ((ih (o + 1) _).2 k hk).trans (Below.heap_setCell w ⟨g, o, none⟩ v k hk)⟩
  exact ⟨World.rangeAt_setCells_same w g 0 (enc v) ht, (hbl _ _ _).1, (hbl _ _ _).2⟩
/-- A thing stored into a variable of the call's own. -/
theorem wpList_sv {w : World} {ops : Array Oper} {rest : List Oper} {op : Oper} {a : Act} {Q : Exit → Act → World → Prop} (hgd : op.guard = none) (x y : Operand) (ho : op.op = .store 36 x y) {g : Nat} {v : It} (hx : a.eval x = .pointer (some ⟨g, 0, none⟩))
    (hy : a.eval y = itv v) (ht : w.there g 0 6) (h : ∀ w', w'.rangeAt g 0 (enc v) → Below g w w' → (∀ k, k ≠ g → w'.heap[k]? = w.heap[k]?) → wpList Try.prog ops Q rest (a.put op.dst undef) w') : wpList Try.prog ops Q (op :: rest) a w := by
  obtain ⟨h1, h2, h3⟩ := stored_var ht v
  exact wpList_store_mid hgd 36 x y ho g 0 (enc v).toArray hx hy ht (by rw [size24]; rfl) (all_oneCell_toArray (enc_one v)) (h _ h1 h2 h3)
theorem Own.other {w w' : World} {base n c : Nat} {A : Option Addr} {l : List It} (h : Own w base A n c l) (ho : ∀ g, base ≤ g → w'.heap[g]? = w.heap[g]?) : Own w' base A n c l := by
  refine ⟨h.1, ?_⟩
  rcases h.2 with h0 | ⟨g, cap, cur, hv, hg, hh, r⟩
  · exact .inl h0
  · exact .inr ⟨g, cap, cur, hv, hg, (ho g hg).trans hh, r⟩
theorem there_new (w : World) (x : It) : (w.alloc (.cells (enc x).toArray 36)).there w.heap.size 0 6 := fun j hj => by
  refine ⟨?_, frozen_of_row _ _ _ _ _ (heap_alloc_new w _)⟩
  have hl : j < (enc x).length := by rw [enc_len]; exact hj
  rw [range_new w x 36 j _ (List.getElem?_eq_getElem hl)]; rfl
theorem there_keep {w w' : World} {b o n : Nat} (h : w.there b o n) {B : Nat} (hb : b < B) (hk : Below B w w') : w'.there b o n := fun j hj =>
  ⟨by rw [hk.cell (p := ⟨b, o + j, none⟩) hb]; exact (h j hj).1, by rw [hk.frozen (p := ⟨b, o + j, none⟩) hb]; exact (h j hj).2⟩
theorem results_c3 {fn : Func} {p q r : Tmp} (h : fn.results = #[.cell p 36, .tmp q, .tmp r]) (tmps : Array Value) (w : World) (g : Nat) (x : It) (hp : tmps.getD p undef = .pointer (some ⟨g, 0, none⟩)) (hx : w.rangeAt g 0 (enc x)) :
    (results fn tmps).run Try.prog w = .ok (.tuple #[itv x, tmps.getD q undef, tmps.getD r undef]) w := by
  have := ldv w g 0 x hx
  have hp' : tmps[p]?.getD undef = .pointer (some ⟨g, 0, none⟩) := by simpa using hp
  simp only [results, h]
  simp [Result.andThen, hp', this, asAddr]
theorem six_of {w : World} {b o : Nat} {y1 y2 y3 y4 y5 y6 : Int} (h : w.rangeAt b o (enc (y1, y2, y3, y4, y5, y6))) :
    w.cell? ⟨b, o, none⟩ = some (.int .i64 y1) ∧ w.cell? ⟨b, o + 1, none⟩ = some (.int .i64 y2) ∧ w.cell? ⟨b, o + 2, none⟩ = some (.int .u64 y3) ∧ w.cell? ⟨b, o + 3, none⟩ = some (.int .i64 y4) ∧ w.cell? ⟨b, o + 4, none⟩ = some (.int .i64 y5) ∧ w.cell? ⟨b, o + 5, none⟩ = some (.int .u64 y6) :=
  ⟨h 0 _ rfl, h 1 _ rfl, h 2 _ rfl, h 3 _ rfl, h 4 _ rfl, h 5 _ rfl⟩
theorem six_there {w : World} {b : Nat} (h : w.there b 0 6) :
    (∃ u, w.cell? ⟨b, 0, none⟩ = some u) ∧ (∃ u, w.cell? ⟨b, 1, none⟩ = some u) ∧ (∃ u, w.cell? ⟨b, 2, none⟩ = some u) ∧ (∃ u, w.cell? ⟨b, 3, none⟩ = some u) ∧ (∃ u, w.cell? ⟨b, 4, none⟩ = some u) ∧ (∃ u, w.cell? ⟨b, 5, none⟩ = some u) := by
  have q := fun j hj => Option.isSome_iff_exists.1 (h j hj).1
  simp only [Nat.zero_add] at q
  exact ⟨q 0 (by omega), q 1 (by omega), q 2 (by omega), q 3 (by omega), q 4 (by omega), q 5 (by omega)⟩
theorem six_frozen {w : World} {b : Nat} (h : w.there b 0 6) :
    w.frozen? ⟨b, 0, none⟩ = false ∧ w.frozen? ⟨b, 1, none⟩ = false ∧ w.frozen? ⟨b, 2, none⟩ = false ∧ w.frozen? ⟨b, 3, none⟩ = false ∧ w.frozen? ⟨b, 4, none⟩ = false ∧ w.frozen? ⟨b, 5, none⟩ = false := by
  have q := fun j hj => (h j hj).2
  simp only [Nat.zero_add] at q
  exact ⟨q 0 (by omega), q 1 (by omega), q 2 (by omega), q 3 (by omega), q 4 (by omega), q 5 (by omega)⟩
/-- A thing, a new slice, and no error. -/
def RetP (base n : Nat) (x : It) (P : List It → Prop) (w : World) (e : Ending) (w' : World) : Prop := ∃ A c l, e = .returned (.tuple #[itv x, .slice A n c, .int .i64 0]) ∧ P l ∧ Own w' base A n c l ∧ Below base w w'
def Z6 : Array Value := #[.int .i64 0, .int .i64 0, .int .u64 0, .int .i64 0, .int .i64 0, .int .u64 0]
set_option maxHeartbeats 1000000 in
theorem pop_ok (A : Option Addr) (k c B : Nat) (xs : List It) (x0 : It) (w : World) (ha : Row w B A (k + 1) xs) (hB : B ≤ w.heap.size) (hn : k < 4096) (hh : Hp xs) (hx0 : nth xs 0 = x0) :
    Calls Try.prog 40 #[.slice A (k + 1 : Nat) c] w (RetP w.heap.size k x0 (fun l => Hp l ∧ xs.Perm (x0 :: l)) w) := by
  have W0 := hid (fun w' hb hB' => without_any A k c B 0 xs w' (ha.below (w' := w') hb) hB' hn hh (by omega))
  rw [hx0] at W0
  obtain ⟨n, hnk⟩ : ∃ n, n = k + 1 := ⟨_, rfl⟩
  rw [← hnk] at ha W0 ⊢
  have HA := hid ha
  have HL := hid ha.1
  have HH := hid hh
  have hc0 := (chk_iff xs).2 hh
  have HC := hid hc0
  have HNK := hid hnk
  have hd : ((n : Int) == 0) = false := by simp; omega
  have R0 := hid (range_new w zr 36)
  have T0 := hid (there_new w zr)
  have B0 : Hid (Below w.heap.size w (w.alloc (.cells (enc zr).toArray 36))) := hid ((Below.refl _ _).alloc (Nat.le_refl _) _)
  have S0 : Hid (w.heap.size < (w.alloc (.cells (enc zr).toArray 36)).heap.size) := hid (by simp)
  obtain ⟨b, o, rfl, hb, hc⟩ := ha.all (by omega)
  have RL := hid (hc 0 (by omega))
  rw [Nat.zero_mul, Nat.add_zero, hx0] at RL
  have hn0 : 0 < n := by omega
  have hn4 : n ≤ 4096 := by omega
  have i2 : (0 : Int) < (n : Int) := by omega
  clear ha hh hnk hc hc0 hx0
  go_enter Try.func40, Try.ntmps40
  go_wp2_with fail
  change Calls Try.prog 43 _ (w.alloc (.cells (enc zr).toArray 36)) _
  generalize w.alloc (.cells (enc zr).toArray 36) = W at *
  refine (check_any _ n c B xs W (HA.out.below (B0.out.mono hB)) (Nat.le_trans hB B0.out.size) hn4).mono ?_
  rintro e w1 ⟨rfl, bel1⟩
  rw [HC.out]
  have B1 : Hid (Below w.heap.size w w1) := hid (B0.out.trans (bel1.mono B0.out.size))
  have S1 : Hid (w.heap.size < w1.heap.size) := hid (Nat.lt_of_lt_of_le S0.out bel1.size)
  have T1 : Hid (w1.there w.heap.size 0 6) := hid (there_keep T0.out S0.out bel1)
  have R1 : Hid (w1.rangeAt b o (enc x0)) := hid (range_keep RL.out (Nat.lt_of_lt_of_le hb hB) B1.out)
  clear bel1 R0 B0 S0 T0 RL
  go_wp2_with fail
  obtain ⟨y1, y2, y3, y4, y5, y6⟩ := x0
  obtain ⟨r0, r1, r2, r3, r4, r5⟩ := six_of R1.out
  have hbs : Hid (b < w1.drew.heap.size) := hid (Nat.lt_of_lt_of_le hb (Nat.le_trans hB B1.out.size))
  have R2 : Hid (w1.drew.rangeAt b o (enc (y1, y2, y3, y4, y5, y6))) := R1
  have T2 : Hid (w1.drew.there w.heap.size 0 6) := T1
  have S2 : Hid (w.heap.size < w1.drew.heap.size) := S1
  go_region_with (first | (go_at_call 52; refine (W0.out w1.drew (B1.out.drew.mono hB) (Nat.le_trans hB B1.out.size)).mono ?_; rintro e w3 ⟨A3, c3, l3, rfl, hp3, own3, bel3⟩; obtain ⟨⟨u0, hu0⟩, ⟨u1, hu1⟩, ⟨u2, hu2⟩, ⟨u3, hu3⟩, ⟨u4, hu4⟩, ⟨u5, hu5⟩⟩ := six_there (there_keep T2.out S2.out bel3); obtain ⟨f0, f1, f2, f3, f4, f5⟩ := six_frozen (there_keep T2.out S2.out bel3); obtain ⟨q0, q1, q2, q3, q4, q5⟩ := six_of (range_keep R2.out hbs.out bel3)))
  all_goals
    go_wp2_with fail
    obtain ⟨r9, bel9, oth9⟩ := stored_var (there_keep T2.out S2.out bel3) (y1, y2, y3, y4, y5, y6)
    refine bodyPost_ret (w := w3.setCells w.heap.size 0 (enc (y1, y2, y3, y4, y5, y6))) (results_c3 Try.results40 _ _ w.heap.size (y1, y2, y3, y4, y5, y6) rfl r9) rfl ?_
    have own9 : Own (w3.setCells w.heap.size 0 (enc (y1, y2, y3, y4, y5, y6))) w1.drew.heap.size A3 k c3 l3 := own3.other (fun g hg => oth9 g (by have := S2.out; omega))
    exact ⟨A3, c3, l3, rfl, hp3, own9.base_le B1.out.size, B1.out.drew.trans ((bel3.mono B1.out.size).trans bel9)⟩
set_option maxHeartbeats 1000000 in
theorem pop_none (A : Option Addr) (c : Nat) (w : World) :
    Calls Try.prog 40 #[.slice A 0 c] w fun e w' => e = .returned (.tuple #[itv zr, .slice none 0 0, .int .i64 8]) ∧ Below w.heap.size w w' := by
  have T0 := hid (there_new w zr)
  have B0 : Hid (Below w.heap.size w (w.alloc (.cells (enc zr).toArray 36))) := hid ((Below.refl _ _).alloc (Nat.le_refl _) _)
  have S0 : Hid (w.heap.size < (w.alloc (.cells (enc zr).toArray 36)).heap.size) := hid (by simp)
  go_enter Try.func40, Try.ntmps40
  go_wp2_with fail
  change Calls Try.prog 43 _ (w.alloc (.cells (enc zr).toArray 36)) _
  generalize w.alloc (.cells (enc zr).toArray 36) = W at *
  refine (check_any A 0 c 0 [] W (Row.nil _ _ _) (by omega) (by omega)).mono ?_
  rintro e w1 ⟨rfl, bel1⟩
  have B1 : Hid (Below w.heap.size w w1) := hid (B0.out.trans (bel1.mono B0.out.size))
  have T1 : Hid (w1.there w.heap.size 0 6) := hid (there_keep T0.out S0.out bel1)
  clear bel1 B0 S0 T0
  rw [show chk [] = true from rfl]
  go_wp2_with (refine wpList_sv (v := zr) rfl (.tmp 2) (.tmp 12) rfl rfl rfl T1.out ?_; intro w4 r4 bel4 _)
  exact bodyPost_ret (results_c3 Try.results40 _ w4 w.heap.size zr rfl r4) rfl ⟨rfl, B1.out.trans bel4⟩
set_option maxHeartbeats 1000000 in
theorem pop_no (A : Option Addr) (n c B : Nat) (xs : List It) (w : World) (ha : Row w B A n xs) (hB : B ≤ w.heap.size) (hn2 : n ≤ 9223372036854775807) (hh : 4096 < n ∨ chk xs = false) :
    Calls Try.prog 40 #[.slice A n c] w fun e w' => e = .returned (.tuple #[itv zr, .slice none 0 0, .int .i64 1]) ∧ Below w.heap.size w w' := by
  have HA := hid ha
  have HC := hid hh
  clear ha hh
  have T0 := hid (there_new w zr)
  have B0 : Hid (Below w.heap.size w (w.alloc (.cells (enc zr).toArray 36))) := hid ((Below.refl _ _).alloc (Nat.le_refl _) _)
  have S0 : Hid (w.heap.size < (w.alloc (.cells (enc zr).toArray 36)).heap.size) := hid (by simp)
  go_enter Try.func40, Try.ntmps40
  go_wp2_with fail
  change Calls Try.prog 43 _ (w.alloc (.cells (enc zr).toArray 36)) _
  generalize w.alloc (.cells (enc zr).toArray 36) = W at *
  refine (check_no A n c B xs W (HA.out.below (B0.out.mono hB)) (Nat.le_trans hB B0.out.size) hn2 HC.out).mono ?_
  rintro e w1 ⟨rfl, bel1⟩
  have B1 : Hid (Below w.heap.size w w1) := hid (B0.out.trans (bel1.mono B0.out.size))
  have T1 : Hid (w1.there w.heap.size 0 6) := hid (there_keep T0.out S0.out bel1)
  clear bel1 B0 S0 T0
  go_wp2_with (refine wpList_sv (v := zr) rfl (.tmp 2) (.tmp 8) rfl rfl rfl T1.out ?_; intro w4 r4 bel4 _)
  exact bodyPost_ret (results_c3 Try.results40 _ w4 w.heap.size zr rfl r4) rfl ⟨rfl, B1.out.trans bel4⟩
end Go.Proofs.Ytpfidohneddgkaa
