/-
  medium.Check and what it calls: what it answers at slices that read as lists. What is asked: at most 100,000 things.
-/
import Derived.Test.YtjmkhhmibkiijaaC
namespace Go.Proofs.Ytjmkhhmibkiijaa
open Go Go.RowKit

/-- The worlds of a quiet region: what was there is as it was. -/
def Cl (w w' : World) : Prop := ∃ p : Regrown, w' = Sort.grow (redrawn w p.d) p.os
theorem Cl.below {w w' : World} (h : Cl w w') : Below w.heap.size w w' := by obtain ⟨p, rfl⟩ := h; exact below_regrown w p.d p.os
theorem Cl.range {w w' : World} {b o : Nat} {cs : List Value} (h : w.rangeAt b o cs) (hc : Cl w w') : w'.rangeAt b o cs := fun j v hv => by
  obtain ⟨p, rfl⟩ := hc; exact cell_regrown (h j v hv) p.d p.os
/-- A quiet region, behind a name: what is passed over is not looked into. -/
structure WQ (P : Program) (ops : Array Oper) (C : World → Prop) (Q : Act → Prop) (l : List Oper) (a : Act) : Prop where
  out : wpQuiet P ops C Q l a
section
variable {P : Program} {ops : Array Oper} {C : World → Prop} {Q : Act → Prop} {o : Oper} {rest : List Oper} {a : Act}
theorem WQ.nil (h : Q a) : WQ P ops C Q [] a := ⟨wpQuiet_nil h⟩
theorem WQ.step (h : ∀ K : Act → Prop, (∀ a, WQ P ops C Q rest a → K a) → if Region.wanted o (yielded ops a.tmps) then o.quiet P a C K else K (a.put o.dst undef)) : WQ P ops C Q (o :: rest) a :=
  ⟨wpQuiet_step fun K hK => h K fun a ha => hK a ha.out⟩
theorem WQ.skip (hw : Region.wanted o (yielded ops a.tmps) = false) (h : WQ P ops C Q rest (a.put o.dst undef)) : WQ P ops C Q (o :: rest) a :=
  ⟨by unfold wpQuiet; rw [if_neg (by rw [hw]; simp)]; exact h.out⟩
/-- A load of a thing. -/
theorem WQ.ld {w : World} {x : Operand} {b off : Nat} {v : Ar} (hw : Region.wanted o (yielded ops a.tmps) = true) (ho : o.op = .load 25 x)
    (hx : a.eval x = .pointer (some ⟨b, off, none⟩)) (hr : w.rangeAt b off (enc v)) (h : WQ Try.prog ops (fun w' => ∃ p : Regrown, w' = Sort.grow (redrawn w p.d) p.os) Q rest (a.put o.dst (itv v))) : WQ Try.prog ops (fun w' => ∃ p : Regrown, w' = Sort.grow (redrawn w p.d) p.os) Q (o :: rest) a := by
  refine ⟨?_⟩
  unfold wpQuiet
  rw [if_pos hw]
  refine ⟨itv v, fun w' hw' => ?_, h.out⟩
  unfold Oper.quietAt
  have : (execOp a.eval o).run Try.prog w' = .ok (.value (itv v)) w' := by
    unfold execOp
    have := ldv w' b off v (Cl.range hr hw')
    simp only [ho, hx, Instr.loadAt, Instr.sureAddr, Sem.run_bind, Sem.run_pure, Result.andThen_ok, this]
  rw [this]
  exact ⟨rfl, rfl⟩
end
theorem may_q (x : Ar) (w : World) (d : Nat) (os : Array Obj) : Calls Try.prog 31 #[itv x] (Sort.grow (redrawn w d) os) fun e w' => e = .returned (.bool (mayA x)) ∧ ∃ p : Regrown, w' = Sort.grow (redrawn w p.d) p.os :=
  Calls.regrown_of (may_air x (Sort.grow (redrawn w d) os))

/-- Is the thing at i wrong? -/
def wrg (xs : List Ar) (i : Nat) : Bool := !mayA (nth xs i) || (decide (0 < i) && decide ((nth xs i).id ≤ (nth xs (i - 1)).id))
set_option maxRecDepth 100000 in
set_option maxHeartbeats 2000000 in
theorem wrong_any (b o g n c i : Nat) (xs : List Ar) (w : World) (hc : ∀ k, k < n → w.rangeAt b (o + k * 8) (enc (nth xs k))) (hg : w.cell? ⟨g, 0, none⟩ = some (.slice (some ⟨b, o, none⟩) n c)) (hi : i < n) (hn : n ≤ 100000) :
    Calls Try.prog 30 #[.int .i64 (i : Int), .pointer (some ⟨g, 0, none⟩)] w fun e w' => e = .returned (.bool (wrg xs i)) ∧ Below w.heap.size w w' := by
  have HW : Hid (wrg xs i = (!mayA (nth xs i) || (decide (0 < i) && decide ((nth xs i).id ≤ (nth xs (i - 1)).id)))) := hid rfl
  have r1 := hid (hc i hi)
  have T0 := hid (fun d os => may_q (nth xs i) w d os)
  have cg : ∀ d os, (Sort.grow (redrawn w d) os).cell? ⟨g, 0, none⟩ = some (.slice (some ⟨b, o, none⟩) n c) := fun d os => cell_regrown hg d os
  have hin : (i : Int) < (n : Int) := by omega
  cases hM : mayA (nth xs i) with
  | false =>
    rw [hM] at T0 HW
    clear hc hM
    generalize nth xs i = x at *
    go_enter Try.func30, Try.ntmps30
    go_wp2_with fail
    refine wp_region_quiet_below (by kernel_rfl) (by kernel_rfl) (WQ.out ?_)
    (refine WQ.step (fun K hK => ?_); go_simp; first | (refine hK _ ?_; clear hK K) | (apply Exists.intro; refine ⟨fun _ => ?_, hK _ ?_⟩; (with_reducible exact T0.out _ _); clear hK K))
    (refine WQ.step (fun K hK => ?_); go_simp; first | (refine hK _ ?_; clear hK K) | (apply Exists.intro; refine ⟨fun _ => ?_, hK _ ?_⟩; (with_reducible exact T0.out _ _); clear hK K))
    (refine WQ.step (fun K hK => ?_); go_simp; first | (refine hK _ ?_; clear hK K) | (apply Exists.intro; refine ⟨fun _ => ?_, hK _ ?_⟩; (with_reducible exact T0.out _ _); clear hK K))
    refine WQ.ld rfl rfl rfl r1.out ?_
    repeat (refine WQ.step (fun K hK => ?_); go_simp; first | (refine hK _ ?_; clear hK K) | (apply Exists.intro; refine ⟨fun _ => ?_, hK _ ?_⟩; (with_reducible exact T0.out _ _); clear hK K))
    refine WQ.nil ?_
    intro _ hw'
    obtain ⟨⟨dq, osq⟩, hw''⟩ := hw'
    subst hw''
    go_wp2
    go_ret
    exact ⟨ret_bool (by rw [HW.out]; simp), below_regrown w dq osq⟩
  | true =>
    rw [hM] at T0 HW
    by_cases h0 : i = 0
    · have HW2 : Hid (wrg xs i = false) := hid (by rw [HW.out, h0]; simp)
      obtain ⟨z, hz⟩ : ∃ z : Int, (i : Int) = z := ⟨_, rfl⟩
      have hd0 : decide ((0 : Int) < z) = false := decide_eq_false (by omega)
      clear hc hM HW
      rw [hz] at hin
      have hz0 : 0 ≤ z := by omega
      have hzi : z.toNat = i := by omega
      have R1 : Hid (w.rangeAt b (o + z.toNat * 8) (enc (nth xs i))) := hid (by rw [hzi]; exact r1.out)
      clear r1
      rw [hz]
      generalize nth xs i = x at *
      generalize wrg xs i = R at *
      clear h0 hz hzi
      go_enter Try.func30, Try.ntmps30
      go_wp2_with fail
      refine wp_region_quiet_below (by kernel_rfl) (by kernel_rfl) (WQ.out ?_)
      (refine WQ.step (fun K hK => ?_); go_simp; first | (refine hK _ ?_; clear hK K) | (apply Exists.intro; refine ⟨fun _ => ?_, hK _ ?_⟩; (with_reducible exact T0.out _ _); clear hK K))
      (refine WQ.step (fun K hK => ?_); go_simp; first | (refine hK _ ?_; clear hK K) | (apply Exists.intro; refine ⟨fun _ => ?_, hK _ ?_⟩; (with_reducible exact T0.out _ _); clear hK K))
      (refine WQ.step (fun K hK => ?_); go_simp; first | (refine hK _ ?_; clear hK K) | (apply Exists.intro; refine ⟨fun _ => ?_, hK _ ?_⟩; (with_reducible exact T0.out _ _); clear hK K))
      refine WQ.ld rfl rfl rfl R1.out ?_
      repeat (refine WQ.step (fun K hK => ?_); go_simp; first | (refine hK _ ?_; clear hK K) | (apply Exists.intro; refine ⟨fun _ => ?_, hK _ ?_⟩; (with_reducible exact T0.out _ _); clear hK K))
      refine WQ.nil ?_
      intro _ hw'
      obtain ⟨⟨dq, osq⟩, hw''⟩ := hw'
      subst hw''
      go_wp2
      go_ret
      exact ⟨ret_bool HW2.out.symm, below_regrown w dq osq⟩
    · obtain ⟨j, hj⟩ : ∃ j, i = j + 1 := ⟨i - 1, by omega⟩
      have hd0 : decide (0 < i) = true := decide_eq_true (by omega)
      have hp0 : 0 < i := by omega
      have i1 : (i : Int) - 1 = (j : Int) := by omega
      have i2 : IntKind.i64.wrap (j : Int) = (j : Int) := by rw [IntKind.wrap_i64]; omega
      have hjn : (j : Int) < (n : Int) := by omega
      have c1 : ∀ d os, (Sort.grow (redrawn w d) os).cell? ⟨b, o + i * 8, none⟩ = some (.int .u64 (nth xs i).id) := fun d os => cell_regrown (hc i hi 0 _ rfl) d os
      have c2 : ∀ d os, (Sort.grow (redrawn w d) os).cell? ⟨b, o + j * 8, none⟩ = some (.int .u64 (nth xs j).id) := fun d os => cell_regrown (hc j (by omega) 0 _ rfl) d os
      have HW2 : Hid (wrg xs i = decide ((nth xs i).id ≤ (nth xs j).id)) := hid (by rw [HW.out, show i - 1 = j by omega]; simp; omega)
      clear hc hM HW
      generalize nth xs i = x at *
      generalize nth xs j = y at *
      generalize wrg xs i = R at *
      clear hj h0
      go_enter Try.func30, Try.ntmps30
      go_wp2_with fail
      refine wp_region_quiet_below (by kernel_rfl) (by kernel_rfl) (WQ.out ?_)
      (refine WQ.step (fun K hK => ?_); go_simp; first | (refine hK _ ?_; clear hK K) | (apply Exists.intro; refine ⟨fun _ => ?_, hK _ ?_⟩; (with_reducible exact T0.out _ _); clear hK K))
      (refine WQ.step (fun K hK => ?_); go_simp; first | (refine hK _ ?_; clear hK K) | (apply Exists.intro; refine ⟨fun _ => ?_, hK _ ?_⟩; (with_reducible exact T0.out _ _); clear hK K))
      (refine WQ.step (fun K hK => ?_); go_simp; first | (refine hK _ ?_; clear hK K) | (apply Exists.intro; refine ⟨fun _ => ?_, hK _ ?_⟩; (with_reducible exact T0.out _ _); clear hK K))
      refine WQ.ld rfl rfl rfl r1.out ?_
      repeat (refine WQ.step (fun K hK => ?_); go_simp; first | (refine hK _ ?_; clear hK K) | (apply Exists.intro; refine ⟨fun _ => ?_, hK _ ?_⟩; (with_reducible exact T0.out _ _); clear hK K))
      refine WQ.nil ?_
      intro _ hw'
      obtain ⟨⟨dq, osq⟩, hw''⟩ := hw'
      subst hw''
      go_wp2
      go_ret
      exact ⟨ret_bool HW2.out.symm, below_regrown w dq osq⟩
/-- Is one of the first n numbers such? -/
def anyB (f : Nat → Bool) (n : Nat) : Bool := (List.range n).any f
theorem anyB_yes {f : Nat → Bool} {n i : Nat} (hi : i < n) (h : f i = true) : anyB f n = true := by
  unfold anyB; rw [List.any_eq_true]; exact ⟨i, List.mem_range.2 hi, h⟩
theorem anyB_no {f : Nat → Bool} {n : Nat} (h : ∀ i, i < n → f i = false) : anyB f n = false := by
  unfold anyB; rw [List.any_eq_false]; intro i hi; rw [h i (List.mem_range.1 hi)]; simp
theorem anyB_false {f : Nat → Bool} {n : Nat} (h : anyB f n = false) {i : Nat} (hi : i < n) : f i = false := by
  cases hf : f i with
  | false => rfl
  | true => rw [anyB_yes hi hf] at h; cases h
def SomeRel (w : World) (f : Nat → Bool) (n : Nat) (t : Value) (wr : World) : Prop := ∃ k : Nat, t = .int .i64 (k : Int) ∧ k ≤ n ∧ Below w.heap.size w wr ∧ ∀ i, i < k → f i = false
theorem rel_next {w wr w2 : World} {f : Nat → Bool} {k : Nat} (hb : Below w.heap.size w wr) (hb2 : Below wr.heap.size wr w2) (ho : ∀ i, i < k → f i = false) (hk : f k = false) : Below w.heap.size w w2 ∧ ∀ i, i < k + 1 → f i = false :=
  ⟨hb.trans (hb2.mono hb.size), fun i hi => by
    by_cases e : i = k
    · subst e; exact hk
    · exact ho i (by omega)⟩
set_option maxRecDepth 100000 in
set_option maxHeartbeats 2000000 in
theorem some_wrong (b o g n c : Nat) (xs : List Ar) (w : World) (hc : ∀ k, k < n → w.rangeAt b (o + k * 8) (enc (nth xs k))) (hg : w.cell? ⟨g, 0, none⟩ = some (.slice (some ⟨b, o, none⟩) n c)) (hb : b < w.heap.size) (hn : n ≤ 100000) :
    Calls Try.prog 25 #[.int .i64 (n : Int), .func (.func 30) #[] #[.pointer (some ⟨g, 0, none⟩)]] w fun e w' => e = .returned (.bool (anyB (wrg xs) n)) ∧ Below w.heap.size w w' := by
  have HC : Hid (∀ wr, Below w.heap.size w wr → ∀ i, i < n → Calls Try.prog 30 #[.int .i64 (i : Int), .pointer (some ⟨g, 0, none⟩)] wr fun e w' => e = .returned (.bool (wrg xs i)) ∧ Below wr.heap.size wr w') :=
    hid fun wr hbel i hi => wrong_any b o g n c i xs wr (fun k hk => range_keep (hc k hk) hb hbel) ((hbel.cell (World.block_lt_of_cell? w _ hg)).trans hg) hi hn
  clear hc hg hb
  go_enter Try.func25, Try.ntmps25
  go_wp2
  go_loopw [7] (SomeRel w (wrg xs) n) (fun t _ => n - (intOf t).toNat)
  case atStart => exact ⟨0, rfl, by omega, Below.refl _ _, fun i h => by omega⟩
  case round =>
    obtain ⟨k, rfl, hk, hbel, hok⟩ := hrel
    have HB := hid hbel
    have HO := hid hok
    clear hbel hok
    by_cases hlt : k < n
    · have HCC := hid (HC.out wr HB.out k hlt)
      have hkn : (k : Int) < (n : Int) := by omega
      have HY : Hid (wrg xs k = true → anyB (wrg xs) n = true) := hid (anyB_yes hlt)
      have HN : Hid (∀ w2, Below wr.heap.size wr w2 → wrg xs k = false → Below w.heap.size w w2 ∧ ∀ i, i < k + 1 → wrg xs i = false) := hid fun w2 h h2 => rel_next HB.out h HO.out h2
      clear HC
      cases hR : wrg xs k with
      | false =>
        rw [hR] at HCC
        have HRR := hid hR
        clear hR
        go_wp2_with (go_at_call 30; refine HCC.out.mono ?_; rintro e w2 ⟨rfl, b2⟩)
        go_roundw
        case rel => exact ⟨k + 1, by go_num, by omega, (HN.out _ b2 HRR.out).1, (HN.out _ b2 HRR.out).2⟩
        case measure => simp [intOf]; omega
      | true =>
        rw [hR] at HCC
        have HRR := hid (HY.out hR)
        clear hR
        go_wp2_with (go_at_call 30; refine HCC.out.mono ?_; rintro e w2 ⟨rfl, b2⟩)
        go_ret
        exact ⟨ret_bool HRR.out.symm, HB.out.trans (b2.mono HB.out.size)⟩
    · have HE : Hid (anyB (wrg xs) n = false) := hid (anyB_no fun i hi => HO.out i (by omega))
      go_wp2
      go_ret
      exact ⟨ret_bool HE.out.symm, HB.out⟩
theorem some_none (w : World) (g : Nat) : Calls Try.prog 25 #[.int .i64 0, .func (.func 30) #[] #[.pointer (some ⟨g, 0, none⟩)]] w fun e w' => e = .returned (.bool false) ∧ Below w.heap.size w w' := by
  go_enter Try.func25, Try.ntmps25
  go_wp2
  go_loopw [7] (fun t wr => t = .int .i64 0 ∧ wr = w) (fun _ _ => 0)
  case atStart => exact ⟨rfl, rfl⟩
  case round =>
    obtain ⟨rfl, rfl⟩ := hrel
    go_wp2
    go_ret
    exact ⟨rfl, Below.refl _ _⟩
/-- May they be on the channels? -/
def okA (xs : List Ar) : Bool := decide (xs.length ≤ 256) && !anyB (wrg xs) xs.length
def okE (xs : List Ar) : Int := if okA xs then 0 else 1
set_option maxRecDepth 100000 in
set_option maxHeartbeats 2000000 in
theorem check_any (A : Option Addr) (n c B : Nat) (xs : List Ar) (w : World) (ha : Rw w B A n xs) (hB : B ≤ w.heap.size) (hn : n ≤ 100000) :
    Calls Try.prog 17 #[.slice A n c] w fun e w' => e = .returned (.int .i64 (okE xs)) ∧ Below w.heap.size w w' := by
  have HA := hid ha
  have HL := hid ha.1
  clear ha
  by_cases h0 : n = 0
  · subst h0
    have hx : xs = [] := List.eq_nil_of_length_eq_zero HL.out
    subst hx
    have HS := hid (fun w' g => some_none w' g)
    go_enter Try.func17, Try.ntmps17
    go_wp2_with (go_at_call 25; refine (HS.out _ _).mono ?_; rintro e w2 ⟨rfl, b2⟩)
    go_ret
    exact ⟨rfl, ((Below.refl _ _).alloc (Nat.le_refl _) _).trans (b2.mono (by simp))⟩
  · obtain ⟨b, o, rfl, hb, hc⟩ := HA.out.all (by omega)
    have HCC := hid hc
    have HS : Hid (∀ (w' : World) (g : Nat), Below w.heap.size w w' → w'.cell? ⟨g, 0, none⟩ = some (.slice (some ⟨b, o, none⟩) n c) → Calls Try.prog 25 #[.int .i64 (n : Int), .func (.func 30) #[] #[.pointer (some ⟨g, 0, none⟩)]] w' fun e w'' => e = .returned (.bool (anyB (wrg xs) n)) ∧ Below w'.heap.size w' w'') :=
      hid fun w' g hbel hg => some_wrong b o g n c xs w' (fun k hk => range_keep (hc k hk) (Nat.lt_of_lt_of_le hb hB) hbel) hg (Nat.lt_of_lt_of_le hb (Nat.le_trans hB hbel.size)) hn
    have HE : Hid (okE xs = if decide (n ≤ 256) && !anyB (wrg xs) n then 0 else 1) := hid (by unfold okE okA; rw [HL.out])
    clear hc HCC HA
    generalize anyB (wrg xs) n = R at *
    generalize okE xs = E at *
    by_cases h256 : n ≤ 256
    · have hd : decide ((256 : Int) < (n : Int)) = false := decide_eq_false (by omega)
      rw [decide_eq_true h256] at HE
      clear h0
      go_enter Try.func17, Try.ntmps17
      go_wp2_with (go_at_call 25; refine (HS.out _ _ ((Below.refl _ _).alloc (Nat.le_refl _) _) (by simp)).mono ?_; rintro e w2 ⟨rfl, b2⟩; cases R)
      all_goals
        go_ret
        exact ⟨ret_int (by rw [HE.out]; rfl), ((Below.refl _ _).alloc (Nat.le_refl _) _).trans (b2.mono (by simp))⟩
    · have hd : decide ((256 : Int) < (n : Int)) = true := decide_eq_true (by omega)
      rw [decide_eq_false h256] at HE
      clear h0 HS
      go_enter Try.func17, Try.ntmps17
      go_wp2
      go_ret
      exact ⟨ret_int (by rw [HE.out]; rfl), (Below.refl _ _).alloc (Nat.le_refl _) _⟩
end Go.Proofs.Ytjmkhhmibkiijaa
