/-
  The document's own Push, Pop, Take: what they answer at slices that read as lists. What is asked: at most 4200 things.
-/
import Derived.Test.YtpfidohneddgkaaL
import Derived.Deep.RegionHeld3
namespace Go.Proofs.Ytpfidohneddgkaa
open Go Go.RowKit

theorem Own.drew {w : World} {base n c : Nat} {A : Option Addr} {l : List It} (h : Own w base A n c l) : Own w.drew base A n c l := World.ownsRow.drew h
set_option maxHeartbeats 1000000 in
set_option maxHeartbeats 1000000 in
theorem bad_no {n : Nat} {xs : List It} (h : 4096 < n ∨ chk xs = false) : (chk xs && decide (n ≤ 4096)) = false := by
  rcases h with h | h
  · rw [decide_eq_false (by omega), Bool.and_false]
  · rw [h]; rfl
set_option maxHeartbeats 1000000 in
/-- A thing, a slice that reads as a list, and no error. -/
def RetR (n : Nat) (x : It) (l : List It) (w : World) (e : Ending) (w' : World) : Prop := ∃ A c, e = .returned (.tuple #[itv x, .slice A n c, .int .i64 0]) ∧ Row w' w'.heap.size A n l ∧ (∀ b o, A = some ⟨b, o, none⟩ → w.heap.size ≤ b) ∧ Below w.heap.size w w'
theorem Own.new {w : World} {base n c : Nat} {A : Option Addr} {l : List It} (h : Own w base A n c l) : ∀ b o, A = .some ⟨b, o, none⟩ → base ≤ b := by
  intro b o hA
  subst hA
  rcases h.2 with ⟨hv, _⟩ | ⟨g, cap, cur, hv, hb, _⟩
  · injection hv with h1; cases h1
  · injection hv with h1; injection h1 with h1; injection h1 with h1; omega
theorem new_at {g a k : Nat} (h : k ≤ g) : ∀ b o, some (⟨g, a, none⟩ : Addr) = some ⟨b, o, none⟩ → k ≤ b := by
  intro b o e; injection e with e; injection e with e; omega
set_option maxHeartbeats 2000000 in
set_option maxHeartbeats 1000000 in
set_option maxHeartbeats 1000000 in
set_option maxHeartbeats 1000000 in
theorem reftake_no (A : Option Addr) (n c B : Nat) (xs : List It) (s : Int) (w : World) (ha : Row w B A n xs) (hB : B ≤ w.heap.size) (hn2 : n ≤ 1000000000) (hh : 4096 < n ∨ chk xs = false) :
    Calls Try.prog 39 #[.slice A n c, .int .u64 s] w fun e w' => e = .returned (.tuple #[itv zr, .slice none 0 0, .int .i64 1]) ∧ Below w.heap.size w w' := by
  have HA := hid ha
  have HC := hid (bad_no hh)
  clear ha hh
  have T0 := hid (there_new w zr)
  have B0 : Hid (Below w.heap.size w (w.alloc (.cells (enc zr).toArray 36))) := hid ((Below.refl _ _).alloc (Nat.le_refl _) _)
  have S0 : Hid (w.heap.size < (w.alloc (.cells (enc zr).toArray 36)).heap.size) := hid (by simp)
  go_enter Try.func39, Try.ntmps39
  go_wp2_with fail
  change Calls Try.prog 37 _ (w.alloc (.cells (enc zr).toArray 36)) _
  generalize w.alloc (.cells (enc zr).toArray 36) = W at *
  refine (refcheck_any A n c B xs false W (HA.out.below (B0.out.mono hB)) (Nat.le_trans hB B0.out.size) hn2 HC.out).mono ?_
  rintro e w1 ⟨rfl, bel1⟩
  have B1 : Hid (Below w.heap.size w w1) := hid (B0.out.trans (bel1.mono B0.out.size))
  have T1 : Hid (w1.there w.heap.size 0 6) := hid (there_keep T0.out S0.out bel1)
  clear bel1 B0 S0 T0
  go_wp2_with (refine wpList_sv (v := zr) rfl (.tmp 4) (.tmp 13) rfl rfl rfl T1.out ?_; intro w4 r4 bel4 _)
  exact bodyPost_ret (results_c3 Try.results39 _ w4 w.heap.size zr rfl r4) rfl ⟨rfl, B1.out.trans bel4⟩
set_option maxHeartbeats 1000000 in
theorem reftake_none (A : Option Addr) (n c B : Nat) (xs : List It) (s : Int) (w : World) (ha : Row w B A n xs) (hB : B ≤ w.heap.size) (hn : n ≤ 4096) (hh : chk xs = true) (hs : NoSq (srt xs) s) :
    Calls Try.prog 39 #[.slice A n c, .int .u64 s] w fun e w' => e = .returned (.tuple #[itv zr, .slice none 0 0, .int .i64 8]) ∧ Below w.heap.size w w' := by
  have HA := hid ha
  have HC : Hid ((chk xs && decide (n ≤ 4096)) = true) := hid (by rw [hh, decide_eq_true hn]; rfl)
  have HS := hid hs
  clear ha hh hs
  have T0 := hid (there_new w zr)
  have B0 : Hid (Below w.heap.size w (w.alloc (.cells (enc zr).toArray 36))) := hid ((Below.refl _ _).alloc (Nat.le_refl _) _)
  have S0 : Hid (w.heap.size < (w.alloc (.cells (enc zr).toArray 36)).heap.size) := hid (by simp)
  go_enter Try.func39, Try.ntmps39
  go_wp2_with fail
  change Calls Try.prog 37 _ (w.alloc (.cells (enc zr).toArray 36)) _
  generalize w.alloc (.cells (enc zr).toArray 36) = W at *
  refine (refcheck_any A n c B xs true W (HA.out.below (B0.out.mono hB)) (Nat.le_trans hB B0.out.size) (by omega) HC.out).mono ?_
  rintro e w1 ⟨rfl, bel1⟩
  have B1 : Hid (Below w.heap.size w w1) := hid (B0.out.trans (bel1.mono B0.out.size))
  have S1 : Hid (w.heap.size < w1.heap.size) := hid (Nat.lt_of_lt_of_le S0.out bel1.size)
  have T1 : Hid (w1.there w.heap.size 0 6) := hid (there_keep T0.out S0.out bel1)
  clear bel1 B0 S0 T0
  go_wp2_with (first
    | (go_at_call 36; refine (refsorted_any A n c B xs w1 (HA.out.below (B1.out.mono hB)) (Nat.le_trans hB B1.out.size) (by omega)).mono ?_; rintro e w3 ⟨A3, c3, l3, rfl, hl3, own3, bel3⟩; have NS : Hid (NoSq l3 s) := hid (by rw [hl3]; exact HS.out); clear hl3)
    | (go_at_call 53; refine (reffind_no A3 n c3 w3.heap.size l3 s w3 own3.row (Nat.le_refl _) (by omega) NS.out).mono ?_; rintro e w4 ⟨rfl, bel4⟩)
    | (refine wpList_sv (v := zr) rfl (.tmp 4) (.tmp 24) rfl rfl rfl (there_keep (there_keep T1.out S1.out bel3) (Nat.lt_of_lt_of_le S1.out bel3.size) bel4) ?_; intro w5 r5 bel5 _))
  exact bodyPost_ret (results_c3 Try.results39 _ w5 w.heap.size zr rfl r5) rfl ⟨rfl, B1.out.trans ((bel3.mono B1.out.size).trans ((bel4.mono (Nat.le_trans B1.out.size bel3.size)).trans bel5))⟩

theorem cell_apart (w : World) (j k : Nat) (v : Value) {a b : Nat} (h : ¬b = a) : (w.setCell ⟨a, j, none⟩ v).cell? ⟨b, k, none⟩ = w.cell? ⟨b, k, none⟩ := World.cell?_setCell_other _ _ _ _ (by simp; try omega)
/-- append onto nothing, as a step of a region that draws its order. -/
theorem step_ap0 {w : World} {ops : Array Oper} {o : Oper} {a : Act} {K : Act → World → Prop} {Q : Exit → Act → World → Prop} {E : Prop} (hgd : o.guard = none) (x : Operand)
    (ho : o.op = .call { callee := .builtin .append, args := #[.const (.slice none 0 0), x], argTypes := #[22, 22] }) {A2 : Option Addr} {m c2 B : Nat} {xs : List It} (hx : a.eval x = .slice A2 m c2) (hr : Row w B A2 m xs)
    (hb : m ≤ 1000000000)
    (h : ∀ A' c' w', Own w' w.heap.size A' m c' xs → Below w.heap.size w w' → K (a.put o.dst (.slice A' m c')) w') : if Region.wanted o (yielded ops a.tmps) = true then Oper.wp Try.prog o a w K Q else E :=
  step_ap hgd (.const (.slice none 0 0)) x ho rfl (Own.nil w w.heap.size) hx hr (by omega) (Nat.le_refl _) fun A' c' w' h1 h2 => by
    rw [Nat.zero_add, List.nil_append] at h1
    rw [Nat.zero_add]
    exact h A' c' w' h1 h2
set_option maxHeartbeats 1000000 in
theorem reftake_ok (A : Option Addr) (k c B i : Nat) (xs : List It) (s : Int) (w : World) (ha : Row w B A (k + 1) xs) (hB : B ≤ w.heap.size) (hn : k < 4096) (hh : chk xs = true) (hs : First (srt xs) s i) :
    Calls Try.prog 39 #[.slice A (k + 1 : Nat) c, .int .u64 s] w (RetR k (nth (srt xs) i) ((srt xs).take i ++ (srt xs).drop (i + 1)) w) := by
  obtain ⟨n, hnk⟩ : ∃ n, n = k + 1 := ⟨_, rfl⟩
  rw [← hnk] at ha ⊢
  have HA := hid ha
  have HC : Hid ((chk xs && decide (n ≤ 4096)) = true) := hid (by rw [hh, decide_eq_true (show n ≤ 4096 by omega)]; rfl)
  have HS := hid hs
  have hin : i < n := by have := hs.1; rw [srt_len, ha.1] at this; exact this
  have HNK := hid hnk
  have hn4 : n ≤ 4096 := by omega
  clear ha hh hs hnk
  have T0 := hid (there_new w zr)
  have B0 : Hid (Below w.heap.size w (w.alloc (.cells (enc zr).toArray 36))) := hid ((Below.refl _ _).alloc (Nat.le_refl _) _)
  have S0 : Hid (w.heap.size < (w.alloc (.cells (enc zr).toArray 36)).heap.size) := hid (by simp)
  go_enter Try.func39, Try.ntmps39
  go_wp2_with fail
  change Calls Try.prog 37 _ (w.alloc (.cells (enc zr).toArray 36)) _
  generalize w.alloc (.cells (enc zr).toArray 36) = W at *
  refine (refcheck_any A n c B xs true W (HA.out.below (B0.out.mono hB)) (Nat.le_trans hB B0.out.size) (by omega) HC.out).mono ?_
  rintro e w1 ⟨rfl, bel1⟩
  have B1 : Hid (Below w.heap.size w w1) := hid (B0.out.trans (bel1.mono B0.out.size))
  have S1 : Hid (w.heap.size < w1.heap.size) := hid (Nat.lt_of_lt_of_le S0.out bel1.size)
  have T1 : Hid (w1.there w.heap.size 0 6) := hid (there_keep T0.out S0.out bel1)
  clear bel1 B0 S0 T0
  go_upto_region 7 with (first
    | (go_at_call 36; refine (refsorted_any A n c B xs w1 (HA.out.below (B1.out.mono hB)) (Nat.le_trans hB B1.out.size) (by omega)).mono ?_; rintro e w3 ⟨A3, c3, l3, rfl, hl3, own3, bel3⟩; have NS : Hid (First l3 s i) := hid (by rw [hl3]; exact HS.out); have H3 := hid hl3; clear hl3)
    | (go_at_call 53; refine (reffind_yes A3 n c3 w3.heap.size i l3 s w3 own3.row (Nat.le_refl _) (by omega) NS.out).mono ?_; rintro e w4 ⟨rfl, bel4⟩))
  have B4 : Hid (Below w.heap.size w w4) := hid (B1.out.trans ((bel3.mono B1.out.size).trans (bel4.mono (Nat.le_trans B1.out.size bel3.size))))
  have S4 : Hid (w.heap.size < w4.drew.heap.size) := hid (Nat.lt_of_lt_of_le S1.out (Nat.le_trans bel3.size bel4.size))
  have T4 : Hid (w4.drew.there w.heap.size 0 6) := hid ((World.there_drew _ _ _ _).2 (there_keep (there_keep T1.out S1.out bel3) (Nat.lt_of_lt_of_le S1.out bel3.size) bel4))
  have O4 : Hid (Own w4 w1.heap.size A3 n c3 l3) := hid (own3.below bel4)
  obtain ⟨g, rfl⟩ := own3.some (by omega)
  have hcap := own3.cap
  have hg1 : Hid (w.heap.size < g) := hid (Nat.lt_of_lt_of_le S1.out own3.ge.1)
  have hg9 : Hid (g < w4.drew.heap.size) := hid (Nat.lt_of_lt_of_le own3.ge.2 bel4.size)
  have R4 : Hid (w4.drew.rangeAt g (i * 6) (enc (nth l3 i))) := hid ((World.rangeAt_drew _ _ _ _).2 (O4.out.range hin))
  have RW4 : Hid (Row w4.drew w4.drew.heap.size (some ⟨g, 0, none⟩) n l3) := hid O4.out.drew.row
  clear bel3 bel4 own3 T1 S1 B1 NS
  have RT := hid (RW4.out.take (k := i) (by omega))
  have RD := hid (RW4.out.cut (l := i + 1) (r := n) (c := c3) (by omega) (Nat.le_refl _) hcap)
  rw [List.take_of_length_le (by rw [O4.out.len]; exact Nat.le_refl _)] at RD
  obtain ⟨⟨y1, y2, y3, y4, y5, y6⟩, hy⟩ : ∃ y : It, nth l3 i = y := ⟨_, rfl⟩
  have HY := hid hy
  rw [hy] at R4
  clear hy
  obtain ⟨r0, r1, r2, r3, r4, r5⟩ := six_of ((World.rangeAt_drew _ _ _ _).1 R4.out)
  have i1 : (i : Int) < (n : Int) := by omega
  have i2 : (i : Int) ≤ (c3 : Int) := by omega
  have i4 : (n : Int) ≤ (c3 : Int) := by omega
  have i5 : (0 : Int) ≤ (i : Int) := by omega
  obtain ⟨j, hj⟩ : ∃ j, j = i + 1 := ⟨_, rfl⟩
  rw [← hj] at RD
  have i3 : (j : Int) ≤ (n : Int) := by omega
  have hbb : i + (n - j) ≤ 1000000000 := by omega
  have hbi : i ≤ 1000000000 := by omega
  have i6 : IntKind.i64.wrap ((i : Int) + 1) = (j : Int) := by rw [show (i : Int) + 1 = (j : Int) by omega]; exact IntWalk.i64_in _ (by omega)
  have i7 : (0 : Int) ≤ (j : Int) := by omega
  have i8 : (j : Int) ≤ (c3 : Int) := by omega
  have hjn : j ≤ n := by omega
  have HJ := hid hj
  clear hj
  have e6 : (some (⟨g, 0, none⟩ : Addr)).map (fun x => x.add (j * 6)) = some ⟨g, j * 6, none⟩ := by simp [plain_add]
  rw [e6] at RD
  clear e6
  have hwb : Hid (w4.drew.heap.size ≤ w4.drew.heap.size) := hid (Nat.le_refl _)
  have hgne : ¬g = w.heap.size := by have := hg1.out; omega
  have CA := hid (fun (w' : World) (j k : Nat) (v : Value) => cell_apart w' j k v hgne)
  go_region_held3 (fun w' => w'.cell? ⟨g, i * 6, none⟩ = some (.int .i64 y1) ∧ w'.cell? ⟨g, i * 6 + 1, none⟩ = some (.int .i64 y2) ∧ w'.cell? ⟨g, i * 6 + 2, none⟩ = some (.int .u64 y3) ∧ w'.cell? ⟨g, i * 6 + 3, none⟩ = some (.int .i64 y4) ∧ w'.cell? ⟨g, i * 6 + 4, none⟩ = some (.int .i64 y5) ∧ w'.cell? ⟨g, i * 6 + 5, none⟩ = some (.int .u64 y6))
    (first | with_reducible exact ⟨a0, a1, a2, a3, a4, a5⟩ | with_reducible exact ⟨b0, b1, b2, b3, b4, b5⟩ | (simp only [CA.out]; exact ⟨b0, b1, b2, b3, b4, b5⟩) | go_keep)
    (first
      | (refine step_ap0 rfl (.tmp 31) rfl (by rfl) RT.out hbi ?_; intro A5 c5 w5 own5 bel5; obtain ⟨a0, a1, a2, a3, a4, a5⟩ := six_of (range_keep R4.out hg9.out bel5))
      | (refine step_ap rfl (.tmp 32) (.tmp 36) rfl (by rfl) own5 (by rfl) (RD.out.below bel5) hbb bel5.size ?_; intro A6 c6 w6 own6 bel6; obtain ⟨b0, b1, b2, b3, b4, b5⟩ := six_of (range_keep R4.out hg9.out (bel5.trans bel6)); obtain ⟨⟨v0, hu0⟩, ⟨v1, hu1⟩, ⟨v2, hu2⟩, ⟨v3, hu3⟩, ⟨v4, hu4⟩, ⟨v5, hu5⟩⟩ := six_there (there_keep T4.out S4.out (bel5.trans bel6)); obtain ⟨f0, f1, f2, f3, f4, f5⟩ := six_frozen (there_keep T4.out S4.out (bel5.trans bel6))))
  go_wp2_with fail
  all_goals
    obtain ⟨r9, bel9, oth9⟩ := stored_var (there_keep T4.out S4.out (bel5.trans bel6)) (y1, y2, y3, y4, y5, y6)
    refine bodyPost_ret (w := w6.setCells w.heap.size 0 (enc (y1, y2, y3, y4, y5, y6))) (results_c3 Try.results39 _ _ w.heap.size (y1, y2, y3, y4, y5, y6) rfl r9) rfl ?_
    have own9 : Own (w6.setCells w.heap.size 0 (enc (y1, y2, y3, y4, y5, y6))) w4.drew.heap.size A6 (i + (n - j)) c6 (l3.take i ++ l3.drop j) := own6.other (fun g' hg' => oth9 g' (by have := S4.out; omega))
    have hk : i + (n - j) = k := by have := HJ.out; have := HNK.out; omega
    rw [hk] at own9
    refine ⟨A6, c6, by rw [← H3.out, HY.out, ← hk]; rfl, by rw [← H3.out, ← HJ.out]; exact own9.row, (own9.base_le B4.out.size).new, B4.out.drew.trans (((bel5.trans bel6).mono B4.out.size).trans bel9)⟩
end Go.Proofs.Ytpfidohneddgkaa
