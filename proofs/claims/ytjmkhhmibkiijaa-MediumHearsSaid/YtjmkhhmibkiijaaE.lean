/-
  medium.Delays and what it calls: what it answers at slices of slices that read as lists of lists. No condition but what each head says.
-/
import Derived.Test.YtjmkhhmibkiijaaD
namespace Go.Proofs.Ytjmkhhmibkiijaa
open Go Go.RowKit

/-- A list of numbers: where it lies, and the numbers. -/
structure Ro where
  A : Option Addr
  n : Nat
  c : Nat
  zs : List Int
def rz : Ro := ⟨none, 0, 0, []⟩
instance : Inhabited Ro := ⟨rz⟩
def rv (r : Ro) : Value := .slice r.A r.n r.c
def rth (l : List Ro) (k : Nat) : Ro := l.getD k rz
def zth (l : List Int) (k : Nat) : Int := l.getD k 0
/-- A slice of slices. -/
def Mx (w : World) (B : Nat) (A : Option Addr) (n : Nat) (rs : List Ro) : Prop := Row w B A n (rs.map rv) ∧ ∀ r ∈ rs, Row w B r.A r.n (sv r.zs)
section
variable {w w' : World} {B n : Nat} {A : Option Addr} {rs : List Ro}
theorem Mx.len (h : Mx w B A n rs) : rs.length = n := by have := h.1.1; simpa using this
theorem Mx.below (h : Mx w B A n rs) (hb : Below B w w') : Mx w' B A n rs := ⟨h.1.below hb, fun r hr => (h.2 r hr).below hb⟩
theorem rth_get {k : Nat} (h : k < rs.length) : rs[k]? = some (rth rs k) := by simp [rth, List.getD, h]
theorem rth_mem {k : Nat} (h : k < rs.length) : rth rs k ∈ rs := List.mem_of_getElem? (rth_get h)
theorem Mx.all (h : Mx w B A n rs) (hn : 0 < n) : ∃ b o, A = some ⟨b, o, none⟩ ∧ b < B ∧ ∀ k, k < n → w.cell? ⟨b, o + k, none⟩ = some (.slice (rth rs k).A (rth rs k).n (rth rs k).c) := by
  obtain ⟨b, o, e, hb, hc⟩ := h.1.2 hn
  exact ⟨b, o, e, hb, fun k hk => hc k _ (by rw [List.getElem?_map, rth_get (by rw [h.len]; exact hk)]; rfl)⟩
theorem zrow_len {r : Ro} (h : Row w B r.A r.n (sv r.zs)) : r.zs.length = r.n := by have := h.1; rwa [sv_len] at this
theorem zrow_all {r : Ro} (h : Row w B r.A r.n (sv r.zs)) (hn : 0 < r.n) : ∃ b o, r.A = some ⟨b, o, none⟩ ∧ b < B ∧ ∀ k, k < r.n → w.cell? ⟨b, o + k, none⟩ = some (.int .i64 (zth r.zs k)) := by
  obtain ⟨b, o, e, hb, hc⟩ := h.2 hn
  exact ⟨b, o, e, hb, fun k hk => hc k _ (by
    have hl : k < r.zs.length := by rw [zrow_len h]; exact hk
    simp [sv, zth, List.getD, hl])⟩
end
/-- May it take so long between the two? -/
def mb (a b x : Int) : Bool := if a = b then decide (x = 0) else decide (0 ≤ x) && decide (x ≤ 1099511627776)
theorem mb_any (a b x : Int) (w : World) : Calls Try.prog 28 #[.int .i64 a, .int .i64 b, .int .i64 x] w fun e w' => e = .returned (.bool (mb a b x)) ∧ w = w' := by
  by_cases h : a = b
  · have HM : Hid (mb a b x = decide (x = 0)) := hid (by unfold mb; rw [if_pos h])
    subst h
    generalize mb a a x = M at *
    go_enter Try.func28, Try.ntmps28
    go_wp2
    go_ret
    exact ⟨ret_bool (by rw [HM.out]; rw [Bool.eq_iff_iff]; simp), rfl⟩
  · have HM : Hid (mb a b x = (decide (0 ≤ x) && decide (x ≤ 1099511627776))) := hid (by unfold mb; rw [if_neg h])
    generalize mb a b x = M at *
    go_enter Try.func28, Try.ntmps28
    go_wp2
    all_goals
      go_ret
      exact ⟨ret_bool (by rw [HM.out]; rw [Bool.eq_iff_iff]; first | (simp; done) | (simp; omega) | (simp_all; done) | (simp_all; omega)), rfl⟩
set_option maxRecDepth 100000 in
set_option maxHeartbeats 2000000 in
theorem inn_any (b o m c b2 o2 n2 c2 pf pd i k : Nat) (z : Int) (w : World) (hf : w.cell? ⟨pf, 0, none⟩ = some (.int .i64 (i : Int))) (hd : w.cell? ⟨pd, 0, none⟩ = some (.slice (some ⟨b, o, none⟩) m c)) (hr : w.cell? ⟨b, o + i, none⟩ = some (.slice (some ⟨b2, o2, none⟩) n2 c2)) (hz : w.cell? ⟨b2, o2 + k, none⟩ = some (.int .i64 z)) (hi : i < m) (hk : k < n2) :
    Calls Try.prog 27 #[.int .i64 (k : Int), .pointer (some ⟨pf, 0, none⟩), .pointer (some ⟨pd, 0, none⟩)] w fun e w' => e = .returned (.bool (!mb (i : Int) (k : Int) z)) ∧ Below w.heap.size w w' := by
  have H := hid (fun w' => (mb_any (i : Int) (k : Int) z w').mono fun e w2 (h : _ ∧ _) => (⟨h.1, h.2.symm⟩ : e = .returned (.bool (mb (i : Int) (k : Int) z)) ∧ w2 = w'))
  generalize mb (i : Int) (k : Int) z = M at *
  have hi' : (i : Int) < (m : Int) := by omega
  have hk' : (k : Int) < (n2 : Int) := by omega
  go_enter Try.func27, Try.ntmps27
  go_wp2_with fail
  go_quiet (first | (go_at_call 28; exact Calls.quiet_of_same (H.out _)))
  go_wp2
  go_ret
  exact ⟨rfl, bel_drewN (Below.refl _ _) _⟩
set_option maxRecDepth 100000 in
set_option maxHeartbeats 2000000 in
theorem some_inn (p q n : Nat) (f : Nat → Bool) (w : World) (hn : n ≤ 100000) (hc : ∀ wr, Below w.heap.size w wr → ∀ i, i < n → Calls Try.prog 27 #[.int .i64 (i : Int), .pointer (some ⟨p, 0, none⟩), .pointer (some ⟨q, 0, none⟩)] wr fun e w' => e = .returned (.bool (f i)) ∧ Below wr.heap.size wr w') :
    Calls Try.prog 25 #[.int .i64 (n : Int), .func (.func 27) #[] #[.pointer (some ⟨p, 0, none⟩), .pointer (some ⟨q, 0, none⟩)]] w fun e w' => e = .returned (.bool (anyB f n)) ∧ Below w.heap.size w w' := by
  have HC := hid hc
  clear hc
  go_enter Try.func25, Try.ntmps25
  go_wp2
  go_loopw [7] (SomeRel w f n) (fun t _ => n - (intOf t).toNat)
  case atStart => exact ⟨0, rfl, by omega, Below.refl _ _, fun i h => by omega⟩
  case round =>
    obtain ⟨k, rfl, hk, hbel, hok⟩ := hrel
    have HB := hid hbel
    have HO := hid hok
    clear hbel hok
    by_cases hlt : k < n
    · have HCC := hid (HC.out wr HB.out k hlt)
      have hkn : (k : Int) < (n : Int) := by omega
      have HY : Hid (f k = true → anyB f n = true) := hid (anyB_yes hlt)
      have HN : Hid (∀ w2, Below wr.heap.size wr w2 → f k = false → Below w.heap.size w w2 ∧ ∀ i, i < k + 1 → f i = false) := hid fun w2 h h2 => rel_next HB.out h HO.out h2
      clear HC
      cases hR : f k with
      | false =>
        rw [hR] at HCC
        have HRR := hid hR
        clear hR
        go_wp2_with (go_at_call 27; refine HCC.out.mono ?_; rintro e w2 ⟨rfl, b2⟩)
        go_roundw
        case rel => exact ⟨k + 1, by go_num, by omega, (HN.out _ b2 HRR.out).1, (HN.out _ b2 HRR.out).2⟩
        case measure => simp [intOf]; omega
      | true =>
        rw [hR] at HCC
        have HRR := hid (HY.out hR)
        clear hR
        go_wp2_with (go_at_call 27; refine HCC.out.mono ?_; rintro e w2 ⟨rfl, b2⟩)
        go_ret
        exact ⟨ret_bool HRR.out.symm, HB.out.trans (b2.mono HB.out.size)⟩
    · have HE : Hid (anyB f n = false) := hid (anyB_no fun i hi => HO.out i (by omega))
      go_wp2
      go_ret
      exact ⟨ret_bool HE.out.symm, HB.out⟩
/-- Is the row at i wrong? -/
def inW (rs : List Ro) (i k : Nat) : Bool := !mb (i : Int) (k : Int) (zth (rth rs i).zs k)
def rowW (N : Nat) (rs : List Ro) (i : Nat) : Bool := (rth rs i).n != N || anyB (inW rs i) N
set_option maxRecDepth 100000 in
set_option maxHeartbeats 2000000 in
theorem out_any (b o c N pd pn i B : Nat) (rs : List Ro) (w : World) (ha : Mx w B (some ⟨b, o, none⟩) N rs) (hd : w.cell? ⟨pd, 0, none⟩ = some (.slice (some ⟨b, o, none⟩) N c)) (hn : w.cell? ⟨pn, 0, none⟩ = some (.int .i64 (N : Int))) (hi : i < N) (hN : N ≤ 16) :
    Calls Try.prog 26 #[.int .i64 (i : Int), .pointer (some ⟨pd, 0, none⟩), .pointer (some ⟨pn, 0, none⟩)] w fun e w' => e = .returned (.bool (rowW N rs i)) ∧ Below w.heap.size w w' := by
  have HA := hid ha
  have HD := hid hd
  obtain ⟨b', o', e', hb, hc⟩ := ha.all (by omega)
  injection e' with e'; injection e' with e1 e2; subst e1; subst e2
  have hr := hc i hi
  have HRR : Hid (Row w B (rth rs i).A (rth rs i).n (sv (rth rs i).zs)) := hid (ha.2 _ (rth_mem (by rw [ha.len]; exact hi)))
  have hi' : (i : Int) < (N : Int) := by omega
  by_cases hq : (rth rs i).n = N
  · have HW : Hid (rowW N rs i = anyB (inW rs i) N) := hid (by unfold rowW; rw [hq]; simp)
    obtain ⟨b2, o2, h2, hb2, hz⟩ := zrow_all HRR.out (by omega)
    rw [hq] at hr hz
    rw [h2] at hr
    have HR := hid hr
    have HZ := hid hz
    obtain ⟨nq, hnq⟩ : ∃ nq : Int, nq = (N : Int) := ⟨_, rfl⟩
    have hne : ((N : Int) != (N : Int)) = false := by simp
    have HS : Hid (∀ (w1 : World) (pf : Nat), Below w.heap.size w w1 → w1.cell? ⟨pf, 0, none⟩ = some (.int .i64 (i : Int)) → Calls Try.prog 25 #[.int .i64 (N : Int), .func (.func 27) #[] #[.pointer (some ⟨pf, 0, none⟩), .pointer (some ⟨pd, 0, none⟩)]] w1 fun e w' => e = .returned (.bool (anyB (inW rs i) N)) ∧ Below w1.heap.size w1 w') := hid fun w1 pf hb1 hf =>
      some_inn pf pd N (inW rs i) w1 (by omega) fun wr hbr k hk => by
        have hbb := hb1.trans (hbr.mono hb1.size)
        exact inn_any b o N c b2 o2 N (rth rs i).c pf pd i k _ wr ((hbr.cell (World.block_lt_of_cell? w1 _ hf)).trans hf) ((hbb.cell (World.block_lt_of_cell? w _ HD.out)).trans HD.out) ((hbb.cell (World.block_lt_of_cell? w _ HR.out)).trans HR.out) ((hbb.cell (World.block_lt_of_cell? w _ (HZ.out k hk))).trans (HZ.out k hk)) hi hk
    have hd1 : ∀ d os, (Sort.grow (redrawn (w.alloc (.cells #[.int .i64 (i : Int)] 3)) d) os).cell? ⟨pd, 0, none⟩ = some (.slice (some ⟨b, o, none⟩) N c) := fun d os => cell_regrown ((((Below.refl _ _).alloc (Nat.le_refl _) _).cell (World.block_lt_of_cell? w _ hd)).trans hd) d os
    have hn1 : ∀ d os, (Sort.grow (redrawn (w.alloc (.cells #[.int .i64 (i : Int)] 3)) d) os).cell? ⟨pn, 0, none⟩ = some (.int .i64 (N : Int)) := fun d os => cell_regrown ((((Below.refl _ _).alloc (Nat.le_refl _) _).cell (World.block_lt_of_cell? w _ hn)).trans hn) d os
    have hf1 : ∀ d os, (Sort.grow (redrawn (w.alloc (.cells #[.int .i64 (i : Int)] 3)) d) os).cell? ⟨w.heap.size, 0, none⟩ = some (.int .i64 (i : Int)) := fun d os => cell_regrown (by simp) d os
    have hr1 : ∀ d os, (Sort.grow (redrawn (w.alloc (.cells #[.int .i64 (i : Int)] 3)) d) os).cell? ⟨b, o + i, none⟩ = some (.slice (some ⟨b2, o2, none⟩) N (rth rs i).c) := fun d os => cell_regrown ((((Below.refl _ _).alloc (Nat.le_refl _) _).cell (World.block_lt_of_cell? w _ hr)).trans hr) d os
    clear ha hc hb hb2 h2 hq hz HRR hd hn hr
    have T0 := hid (fun (d : Nat) (os : Array Obj) => Calls.regrown_of (d := d) (os := os) (HS.out (Sort.grow (redrawn (w.alloc (.cells #[.int .i64 (i : Int)] 3)) d) os) w.heap.size (((Below.refl _ _).alloc (Nat.le_refl _) _).trans ((below_regrown _ d os).mono (by simp))) (cell_regrown (by simp) d os)))
    generalize anyB (inW rs i) N = R at *
    go_enter Try.func26, Try.ntmps26
    go_wp2_with fail
    refine wp_region_quiet_below (by kernel_rfl) (by kernel_rfl) (WQ.out ?_)
    repeat (refine WQ.step (fun K hK => ?_); go_simp; first | (refine hK _ ?_; clear hK K) | (apply Exists.intro; refine ⟨fun _ => ?_, hK _ ?_⟩; (with_reducible exact T0.out _ _); clear hK K))
    refine WQ.nil ?_
    intro _ hw'
    obtain ⟨⟨dq, osq⟩, hw''⟩ := hw'
    subst hw''
    go_wp2
    go_ret
    exact ⟨ret_bool HW.out.symm, ((Below.refl _ _).alloc (Nat.le_refl _) _).trans ((below_regrown _ dq osq).mono (by simp))⟩
  · have HW : Hid (rowW N rs i = true) := hid (by unfold rowW; rw [show ((rth rs i).n != N) = true by simp [hq]]; rfl)
    have hne : (((rth rs i).n : Int) != (N : Int)) = true := by simp; omega
    have hd1 : ∀ d os, (Sort.grow (redrawn (w.alloc (.cells #[.int .i64 (i : Int)] 3)) d) os).cell? ⟨pd, 0, none⟩ = some (.slice (some ⟨b, o, none⟩) N c) := fun d os => cell_regrown ((((Below.refl _ _).alloc (Nat.le_refl _) _).cell (World.block_lt_of_cell? w _ hd)).trans hd) d os
    have hn1 : ∀ d os, (Sort.grow (redrawn (w.alloc (.cells #[.int .i64 (i : Int)] 3)) d) os).cell? ⟨pn, 0, none⟩ = some (.int .i64 (N : Int)) := fun d os => cell_regrown ((((Below.refl _ _).alloc (Nat.le_refl _) _).cell (World.block_lt_of_cell? w _ hn)).trans hn) d os
    have hf1 : ∀ d os, (Sort.grow (redrawn (w.alloc (.cells #[.int .i64 (i : Int)] 3)) d) os).cell? ⟨w.heap.size, 0, none⟩ = some (.int .i64 (i : Int)) := fun d os => cell_regrown (by simp) d os
    have hr1 : ∀ d os, (Sort.grow (redrawn (w.alloc (.cells #[.int .i64 (i : Int)] 3)) d) os).cell? ⟨b, o + i, none⟩ = some (.slice (rth rs i).A (rth rs i).n (rth rs i).c) := fun d os => cell_regrown ((((Below.refl _ _).alloc (Nat.le_refl _) _).cell (World.block_lt_of_cell? w _ hr)).trans hr) d os
    clear ha hc hb HRR hd hn hr
    generalize rth rs i = r at *
    go_enter Try.func26, Try.ntmps26
    go_wp2_with fail
    refine wp_region_quiet_below (by kernel_rfl) (by kernel_rfl) (WQ.out ?_)
    repeat (refine WQ.step (fun K hK => ?_); go_simp; refine hK _ ?_; clear hK K)
    refine WQ.nil ?_
    intro _ hw'
    obtain ⟨⟨dq, osq⟩, hw''⟩ := hw'
    subst hw''
    go_wp2
    go_ret
    exact ⟨ret_bool HW.out.symm, ((Below.refl _ _).alloc (Nat.le_refl _) _).trans ((below_regrown _ dq osq).mono (by simp))⟩
set_option maxRecDepth 100000 in
set_option maxHeartbeats 2000000 in
theorem some_out (p q n : Nat) (f : Nat → Bool) (w : World) (hn : n ≤ 100000) (hc : ∀ wr, Below w.heap.size w wr → ∀ i, i < n → Calls Try.prog 26 #[.int .i64 (i : Int), .pointer (some ⟨p, 0, none⟩), .pointer (some ⟨q, 0, none⟩)] wr fun e w' => e = .returned (.bool (f i)) ∧ Below wr.heap.size wr w') :
    Calls Try.prog 25 #[.int .i64 (n : Int), .func (.func 26) #[] #[.pointer (some ⟨p, 0, none⟩), .pointer (some ⟨q, 0, none⟩)]] w fun e w' => e = .returned (.bool (anyB f n)) ∧ Below w.heap.size w w' := by
  have HC := hid hc
  clear hc
  go_enter Try.func25, Try.ntmps25
  go_wp2
  go_loopw [7] (SomeRel w f n) (fun t _ => n - (intOf t).toNat)
  case atStart => exact ⟨0, rfl, by omega, Below.refl _ _, fun i h => by omega⟩
  case round =>
    obtain ⟨k, rfl, hk, hbel, hok⟩ := hrel
    have HB := hid hbel
    have HO := hid hok
    clear hbel hok
    by_cases hlt : k < n
    · have HCC := hid (HC.out wr HB.out k hlt)
      have hkn : (k : Int) < (n : Int) := by omega
      have HY : Hid (f k = true → anyB f n = true) := hid (anyB_yes hlt)
      have HN : Hid (∀ w2, Below wr.heap.size wr w2 → f k = false → Below w.heap.size w w2 ∧ ∀ i, i < k + 1 → f i = false) := hid fun w2 h h2 => rel_next HB.out h HO.out h2
      clear HC
      cases hR : f k with
      | false =>
        rw [hR] at HCC
        have HRR := hid hR
        clear hR
        go_wp2_with (go_at_call 26; refine HCC.out.mono ?_; rintro e w2 ⟨rfl, b2⟩)
        go_roundw
        case rel => exact ⟨k + 1, by go_num, by omega, (HN.out _ b2 HRR.out).1, (HN.out _ b2 HRR.out).2⟩
        case measure => simp [intOf]; omega
      | true =>
        rw [hR] at HCC
        have HRR := hid (HY.out hR)
        clear hR
        go_wp2_with (go_at_call 26; refine HCC.out.mono ?_; rintro e w2 ⟨rfl, b2⟩)
        go_ret
        exact ⟨ret_bool HRR.out.symm, HB.out.trans (b2.mono HB.out.size)⟩
    · have HE : Hid (anyB f n = false) := hid (anyB_no fun i hi => HO.out i (by omega))
      go_wp2
      go_ret
      exact ⟨ret_bool HE.out.symm, HB.out⟩

/-- May delays be? -/
def delB (n : Int) (rs : List Ro) : Bool := (decide (1 ≤ n) && decide (n ≤ 16)) && (decide ((rs.length : Int) = n) && !anyB (rowW rs.length rs) rs.length)
def delE (n : Int) (rs : List Ro) : Int := if delB n rs then 0 else 1
set_option maxRecDepth 100000 in
set_option maxHeartbeats 2000000 in
theorem delays_any (A : Option Addr) (m c B : Nat) (n : Int) (rs : List Ro) (w : World) (ha : Mx w B A m rs) (hB : B ≤ w.heap.size) (hm : m ≤ 9223372036854775807) :
    Calls Try.prog 12 #[.int .i64 n, .slice A m c] w fun e w' => e = .returned (.int .i64 (delE n rs)) ∧ Below w.heap.size w w' := by
  have HL := hid ha.len
  have HE : Hid (delE n rs = if delB n rs then 0 else 1) := hid rfl
  have HD : Hid (delB n rs = ((decide (1 ≤ n) && decide (n ≤ 16)) && (decide ((m : Int) = n) && !anyB (rowW m rs) m))) := hid (by unfold delB; rw [HL.out])
  generalize delE n rs = E at *
  by_cases h1 : n < 1
  · have hd1 : decide (n < 1) = true := decide_eq_true h1
    rw [HD.out, decide_eq_false (by omega : ¬ 1 ≤ n)] at HE
    clear h1
    go_enter Try.func12, Try.ntmps12
    go_wp2
    go_ret
    exact ⟨ret_int (by rw [HE.out]; rfl), ((Below.refl _ _).alloc (Nat.le_refl _) _).alloc (by simp) _⟩
  have hd1 : decide (n < 1) = false := decide_eq_false h1
  by_cases h2 : 16 < n
  · have hd2 : decide (16 < n) = true := decide_eq_true h2
    rw [HD.out, decide_eq_false (by omega : ¬ n ≤ 16), Bool.and_false] at HE
    clear h1 h2
    go_enter Try.func12, Try.ntmps12
    go_wp2
    go_ret
    exact ⟨ret_int (by rw [HE.out]; rfl), ((Below.refl _ _).alloc (Nat.le_refl _) _).alloc (by simp) _⟩
  have hd2 : decide (16 < n) = false := decide_eq_false h2
  by_cases h3 : (m : Int) = n
  · subst h3
    obtain ⟨b, o, rfl, hb, hc⟩ := ha.all (by omega)
    have hm16 : m ≤ 16 := by omega
    have HA := hid ha
    have HS : Hid (∀ (w1 : World) (pd pn : Nat), Below w.heap.size w w1 → w1.cell? ⟨pd, 0, none⟩ = some (.slice (some ⟨b, o, none⟩) m c) → w1.cell? ⟨pn, 0, none⟩ = some (.int .i64 (m : Int)) → Calls Try.prog 25 #[.int .i64 (m : Int), .func (.func 26) #[] #[.pointer (some ⟨pd, 0, none⟩), .pointer (some ⟨pn, 0, none⟩)]] w1 fun e w' => e = .returned (.bool (anyB (rowW m rs) m)) ∧ Below w1.heap.size w1 w') := hid fun w1 pd pn hb1 hd hn =>
      some_out pd pn m (rowW m rs) w1 (by omega) fun wr hbr k hk => by
        have hbb := hb1.trans (hbr.mono hb1.size)
        exact out_any b o c m pd pn k B rs wr (HA.out.below (hbb.mono hB)) ((hbr.cell (World.block_lt_of_cell? w1 _ hd)).trans hd) ((hbr.cell (World.block_lt_of_cell? w1 _ hn)).trans hn) hk hm16
    have hne : ((m : Int) != (m : Int)) = false := by simp
    rw [HD.out, decide_eq_true (by omega : 1 ≤ (m : Int)), decide_eq_true (by omega : (m : Int) ≤ 16), decide_eq_true (rfl : (m : Int) = m), Bool.and_self, Bool.true_and, Bool.true_and] at HE
    clear ha hc hb h1 h2
    generalize anyB (rowW m rs) m = R at *
    clear HD
    go_enter Try.func12, Try.ntmps12
    go_wp2_with (go_at_call 25; refine (HS.out _ _ _ (((Below.refl _ _).alloc (Nat.le_refl _) _).alloc (by simp) _) (by simp) (by simp)).mono ?_; rintro e w3 ⟨rfl, b3⟩; cases R)
    all_goals
      go_ret
      exact ⟨ret_int (by rw [HE.out]; rfl), (((Below.refl _ _).alloc (Nat.le_refl _) _).alloc (by simp) _).trans (b3.mono (by simp; omega))⟩
  · have hd3 : ((m : Int) != n) = true := by simp; omega
    rw [HD.out, decide_eq_false h3, Bool.false_and, Bool.and_false] at HE
    clear h1 h2 h3
    go_enter Try.func12, Try.ntmps12
    go_wp2
    go_ret
    exact ⟨ret_int (by rw [HE.out]; rfl), ((Below.refl _ _).alloc (Nat.le_refl _) _).alloc (by simp) _⟩
end Go.Proofs.Ytjmkhhmibkiijaa
