/-
  heap.Sorted: what it answers at a slice that reads as a list. What is asked: at most 100000 things.
-/
import Derived.Test.YtpfidohneddgkaaH
import Derived.Test.YtpfidohneddgkaaShelf
import Derived.Lib.RowBridge
import Derived.LoopN
namespace Go.Proofs.Ytpfidohneddgkaa
open Go Go.RowKit

set_option maxHeartbeats 2000000 in
theorem less_ex (x y : It) (w : World) : Calls Try.prog 51 #[itv x, itv y] w fun e w' => e = .returned (.bool (lt x y)) ∧ ∃ os, w' = Sort.grow w os := by
  obtain ⟨R, hR⟩ : ∃ R, R = lt x y := ⟨_, rfl⟩
  rw [← hR]
  obtain ⟨a1, a2, a3, a4, a5, a6⟩ := x
  obtain ⟨b1, b2, b3, b4, b5, b6⟩ := y
  unfold lt lex at hR
  dsimp only at hR
  unfold itv enc
  by_cases h1 : a1 = b1
  · subst h1
    rw [if_pos rfl] at hR
    by_cases h2 : a2 = b2
    · subst h2
      rw [if_pos rfl] at hR
      by_cases h3 : a3 = b3
      · subst h3
        rw [if_pos rfl] at hR
        by_cases h4 : a4 = b4
        · subst h4
          rw [if_pos rfl] at hR
          by_cases h5 : a5 = b5
          · subst h5
            rw [if_pos rfl] at hR
            have HR := hid hR
            clear hR
            go_enter Try.func51, Try.ntmps51
            go_wp2
            go_ret
            exact ⟨ret_bool HR.out.symm, _, by rw [Sort.alloc_eq_grow, Sort.alloc_eq_grow, Sort.grow_grow]⟩
          · rw [if_neg h5] at hR
            have HR := hid hR
            have t5 : (a5 != b5) = true := by simpa using h5
            clear hR h5
            go_enter Try.func51, Try.ntmps51
            go_wp2
            go_ret
            exact ⟨ret_bool HR.out.symm, _, by rw [Sort.alloc_eq_grow, Sort.alloc_eq_grow, Sort.grow_grow]⟩
        · rw [if_neg h4] at hR
          have HR := hid hR
          have t4 : (a4 != b4) = true := by simpa using h4
          clear hR h4
          go_enter Try.func51, Try.ntmps51
          go_wp2
          go_ret
          exact ⟨ret_bool HR.out.symm, _, by rw [Sort.alloc_eq_grow, Sort.alloc_eq_grow, Sort.grow_grow]⟩
      · rw [if_neg h3] at hR
        have HR := hid hR
        have t3 : (a3 != b3) = true := by simpa using h3
        clear hR h3
        go_enter Try.func51, Try.ntmps51
        go_wp2
        go_ret
        exact ⟨ret_bool HR.out.symm, _, by rw [Sort.alloc_eq_grow, Sort.alloc_eq_grow, Sort.grow_grow]⟩
    · rw [if_neg h2] at hR
      have HR := hid hR
      have t2 : (a2 != b2) = true := by simpa using h2
      clear hR h2
      go_enter Try.func51, Try.ntmps51
      go_wp2
      go_ret
      exact ⟨ret_bool HR.out.symm, _, by rw [Sort.alloc_eq_grow, Sort.alloc_eq_grow, Sort.grow_grow]⟩
  · rw [if_neg h1] at hR
    have HR := hid hR
    have t1 : (a1 != b1) = true := by simpa using h1
    clear hR h1
    go_enter Try.func51, Try.ntmps51
    go_wp2
    go_ret
    exact ⟨ret_bool HR.out.symm, _, by rw [Sort.alloc_eq_grow, Sort.alloc_eq_grow, Sort.grow_grow]⟩


def cf (x y : It) : Int := if lt x y then -1 else if lt y x then 1 else 0
theorem cf_lt (x y : It) : Go.Proofs.ltOf cf x y = lt x y := by
  unfold Go.Proofs.ltOf cf
  cases h1 : lt x y
  · cases h2 : lt y x <;> rfl
  · rfl
theorem cf_swo : Sort.SWO (Go.Proofs.ltOf cf) where
  irrefl x := by rw [cf_lt]; exact lt_irr x
  trans x y z h1 h2 := by rw [cf_lt] at *; exact lt_trans h1 h2
  ntrans x y z h1 h2 := by rw [cf_lt] at *; exact le_trans h2 h1
theorem below_grow (w : World) (os : Array Obj) : Below w.heap.size w (Sort.grow w os) := below_regrown w w.drawn os
set_option maxHeartbeats 1000000 in
theorem cmp_ex (x y : It) (w : World) : Calls Try.prog 55 #[itv x, itv y] w fun e w' => e = .returned (.int .i64 (cf x y)) ∧ ∃ os, w' = Sort.grow w os := by
  have L1 := hid (fun w => less_ex x y w)
  have L2 := hid (fun w => less_ex y x w)
  obtain ⟨r, hr⟩ : ∃ r, r = cf x y := ⟨_, rfl⟩
  have HR := hid hr
  unfold cf at hr
  have HC := hid hr
  rw [← HR.out]
  clear hr HR
  obtain ⟨W, hW⟩ : ∃ W, W = (w.alloc (.cells (enc x).toArray 36)).alloc (.cells (enc y).toArray 36) := ⟨_, rfl⟩
  have RA : Hid (W.rangeAt w.heap.size 0 (enc x)) := hid (by rw [hW]; exact World.rangeAt_alloc (range_new w x 36) _)
  have RB : Hid (W.rangeAt (w.heap.size + 1) 0 (enc y)) := hid (by rw [hW]; have := range_new (w.alloc (.cells (enc x).toArray 36)) y 36; simpa using this)
  have GW : Hid (∃ os, W = Sort.grow w os) := hid ⟨_, by rw [hW, Sort.alloc_eq_grow, Sort.alloc_eq_grow, Sort.grow_grow]⟩
  have SW : Hid (w.heap.size + 2 ≤ W.heap.size) := hid (by rw [hW]; simp)
  generalize lt x y = R1 at *
  generalize lt y x = R2 at *
  obtain ⟨a1, a2, a3, a4, a5, a6⟩ := x
  obtain ⟨b1, b2, b3, b4, b5, b6⟩ := y
  change W = (w.alloc (.cells #[.int .i64 a1, .int .i64 a2, .int .u64 a3, .int .i64 a4, .int .i64 a5, .int .u64 a6] 36)).alloc (.cells #[.int .i64 b1, .int .i64 b2, .int .u64 b3, .int .i64 b4, .int .i64 b5, .int .u64 b6] 36) at hW
  show Calls Try.prog 55 #[.agg #[.int .i64 a1, .int .i64 a2, .int .u64 a3, .int .i64 a4, .int .i64 a5, .int .u64 a6], .agg #[.int .i64 b1, .int .i64 b2, .int .u64 b3, .int .i64 b4, .int .i64 b5, .int .u64 b6]] w _
  have HW := hid hW
  clear hW
  have hs := SW.out
  cases R1
  · cases R2
    · go_enter Try.func55, Try.ntmps55
      go_upto_region 1 with fail
      rw [← HW.out]
      go_wp2_with (first
        | (refine wpList_ld rfl (.tmp 2) rfl rfl (by first | exact RA.out | exact range_keep RA.out (B := W.heap.size) (by omega) (below_grow W _)) ?_)
        | (refine wpList_ld rfl (.tmp 3) rfl rfl (by first | exact RB.out | exact range_keep RB.out (B := W.heap.size) (by omega) (below_grow W _)) ?_)
        | (go_at_call 51; ((with_reducible refine (L1.out _).mono ?_); rintro e w2 ⟨rfl, os2, rfl⟩))
        | (go_at_call 51; ((with_reducible refine (L2.out _).mono ?_); rintro e w3 ⟨rfl, os3, rfl⟩)))
      go_ret
      obtain ⟨os, e⟩ := GW.out
      exact ⟨ret_int (by rw [HC.out]; rfl), _, by rw [e, Sort.grow_grow, Sort.grow_grow]⟩
    · go_enter Try.func55, Try.ntmps55
      go_upto_region 1 with fail
      rw [← HW.out]
      go_wp2_with (first
        | (refine wpList_ld rfl (.tmp 2) rfl rfl (by first | exact RA.out | exact range_keep RA.out (B := W.heap.size) (by omega) (below_grow W _)) ?_)
        | (refine wpList_ld rfl (.tmp 3) rfl rfl (by first | exact RB.out | exact range_keep RB.out (B := W.heap.size) (by omega) (below_grow W _)) ?_)
        | (go_at_call 51; ((with_reducible refine (L1.out _).mono ?_); rintro e w2 ⟨rfl, os2, rfl⟩))
        | (go_at_call 51; ((with_reducible refine (L2.out _).mono ?_); rintro e w3 ⟨rfl, os3, rfl⟩)))
      go_ret
      obtain ⟨os, e⟩ := GW.out
      exact ⟨ret_int (by rw [HC.out]; rfl), _, by rw [e, Sort.grow_grow, Sort.grow_grow]⟩
  · go_enter Try.func55, Try.ntmps55
    go_upto_region 1 with fail
    rw [← HW.out]
    go_wp2_with (first
      | (refine wpList_ld rfl (.tmp 2) rfl rfl RA.out ?_)
      | (refine wpList_ld rfl (.tmp 3) rfl rfl RB.out ?_)
      | (go_at_call 51; ((with_reducible refine (L1.out _).mono ?_); rintro e w2 ⟨rfl, os2, rfl⟩)))
    go_ret
    obtain ⟨os, e⟩ := GW.out
    exact ⟨ret_int (by rw [HC.out]; rfl), _, by rw [e, Sort.grow_grow]⟩
theorem cmp_lays (g n : Nat) (w : World) : Go.Proofs.CmpLays Try.prog 55 #[] enc 6 cf g 0 n w :=
  fun _ _ _ _ x y => (cmp_ex x y _).mono fun _ _ ⟨he, os, hw⟩ => ⟨he, 0, os, hw⟩
theorem bang_nth (l : List It) (i : Nat) : l.toArray[i]! = nth l i := by simp [nth, List.getD]
theorem flatK_eq (l : List It) : Sort.flatK enc 6 l.toArray = (flat l).toArray := by
  refine Array.ext (by simp [flat_len]) fun j h1 h2 => ?_
  have hj : j < l.length * 6 := by simpa using h1
  have e1 := Sort.get_flatK enc 6 l.toArray j (by simpa using hj)
  rw [getElem!_pos _ j h1] at e1
  rw [e1, bang_nth]
  have h3 := flat_at l (j / 6) (j % 6) (by omega) (by omega)
  rw [show j / 6 * 6 + j % 6 = j by omega] at h3
  have h4 : j < (flat l).length := by rw [flat_len]; exact hj
  rw [List.getElem?_eq_getElem h4, List.getElem?_eq_getElem (by rw [enc_len]; omega)] at h3
  rw [getElem!_pos _ (j % 6) (by rw [enc_len]; omega)]
  have := Option.some.inj h3
  simpa using this.symm
theorem own_holds {w : World} {base g n c : Nat} {l : List It} (h : Own w base (some ⟨g, 0, none⟩) n c l) : Sort.HoldsK enc 6 w g 0 l.toArray := by
  unfold Sort.HoldsK Sort.Holds
  rw [flatK_eq]
  intro j hj
  have hj' : j < (flat l).length := by simpa using hj
  refine ⟨?_, World.ownsRow.frozenAt h _⟩
  rw [Nat.zero_add, World.ownsRow.cellAt h j (by have := h.1; omega), List.getElem?_eq_getElem hj']
  rw [getElem!_pos _ j hj]
  simp
theorem perm_of_in {d d' : Array It} (h : Sort.PermIn 0 d.size d d') : d'.toList.Perm d.toList := by
  have h3 := h.2.2
  rw [Array.extract_size] at h3
  have : d'.extract 0 d.size = d' := by rw [← h.1, Array.extract_size]
  rwa [this] at h3
theorem srt_of_in {d' : Array It} (h : Sort.SortedIn (Go.Proofs.ltOf cf) 0 d'.size d') : Srt d'.toList := by
  unfold Srt
  rw [List.pairwise_iff_getElem]
  intro i j hi hj hij
  have := h i j (by omega) hij (by simpa using hj)
  rw [cf_lt, getElem!_pos d' j (by simpa using hj), getElem!_pos d' i (by simpa using hi)] at this
  simpa using this
set_option maxHeartbeats 1000000 in
theorem sortfunc_any (base g n c : Nat) (l : List It) (w : World) (h : Own w base (some ⟨g, 0, none⟩) n c l) (hn : n ≤ 100000) :
    Calls Try.prog 54 #[.slice (some ⟨g, 0, none⟩) n c, .func (.func 55) #[] #[]] w fun e w' => e = .returned (.tuple #[]) ∧ Own w' base (some ⟨g, 0, none⟩) n c (srt l) ∧ Below base w w' := by
  have eg : ∀ args w, (callFunc 55 args).run Try.prog w = .ok (.enter 55 args) w := enters_of Try.func55 (by kernel_rfl) rfl
  have hsz : l.toArray.size = n := by simpa using h.len
  have hcon := AnyQ.slices_SortFunc Try.laysSort 6 Try.isAgg36 Try.sizeOf36 enc (fun _ => rfl) enc_one cf cf_swo 55 #[] g 0 c l.toArray w eg (cmp_lays g l.toArray.size w) (own_holds h) h.ge.2 (by rw [hsz]; omega)
  rw [hsz] at hcon
  refine (show Calls Try.prog 54 _ _ _ from hcon).mono ?_
  rintro e w' ⟨he, d', q, os, hp, hs, hw⟩
  rw [← hsz] at hp hs
  have hp' := perm_of_in hp
  have hd : d'.size = l.toArray.size := hp.1
  rw [← hd] at hs
  have hs' := srt_of_in hs
  have hl : d'.toList = srt l := srt_uniq hs' (srt_srt l) (hp'.trans (by simpa using (srt_perm l).symm))
  refine ⟨he, ?_⟩
  have hdl : d' = (srt l).toArray := by rw [← hl]
  have hput := Lib.putRow_eq_setCells id w g 0 (Sort.flatK enc 6 l.toArray) (flat (srt l)) q (own_holds h) (by rw [flatK_eq, flat_len, srt_len]; simp [flat_len])
  have hw2 : w' = Sort.grow ((w.drewN q).setCells g 0 (flat (srt l))) os := by
    rw [hw]
    unfold sortWorldK Sort.putRowK
    rw [hdl, flatK_eq, hput]
    simp
  have hown : Own (w.drewN q) base (some ⟨g, 0, none⟩) n c l := h
  obtain ⟨h1, h2⟩ := ownsRow_setCells (flat (srt l)) 0 (w.drewN q) _ hown h.ge.1
  rw [setL_front l _ (by rw [srt_len]; exact Nat.le_refl _), srt_len, List.drop_of_length_le (Nat.le_refl _), List.append_nil] at h1
  have hbd : Below base w (w.drewN q) := ⟨rfl, rfl, rfl, Nat.le_refl _, fun _ _ => rfl⟩
  have hsz2 : base ≤ ((w.drewN q).setCells g 0 (flat (srt l))).heap.size := Nat.le_trans (Nat.le_trans h.ge.1 (Nat.le_of_lt h.ge.2)) (hbd.trans h2).size
  rw [hw2]
  exact ⟨Own.below h1 (below_grow _ os), (hbd.trans h2).trans ((below_grow _ os).mono hsz2)⟩
theorem ins_none (A : Option Addr) (c : Nat) (fv : Value) (w : World) : Calls Try.prog 65 #[.slice A 0 c, .int .i64 0, .int .i64 0, fv] w fun e w' => e = .returned (.tuple #[]) ∧ w' = w := by
  go_enter Try.func65, Try.ntmps65
  go_wp2
  refine wp_loop_rounds 1 ?_
  rw [rounds_succ]
  go_wp2
  go_end0
  exact ⟨rfl, rfl⟩
set_option maxRecDepth 100000 in
theorem len64_0 (w : World) : Calls Try.prog 74 #[.int .u64 0] w fun e w' => (∃ k, e = .returned (.int .i64 k)) ∧ w' = w := by
  go_enter Try.func74, Try.ntmps74
  go_wp2
  go_ret
  exact ⟨⟨_, rfl⟩, rfl⟩
theorem len_0 (w : World) : Calls Try.prog 63 #[.int .u64 0] w fun e w' => (∃ k, e = .returned (.int .i64 k)) ∧ w' = w := by
  go_enter Try.func63, Try.ntmps63
  go_wp2_with (go_at_call 74; refine (len64_0 _).mono ?_; rintro e w1 ⟨⟨k, rfl⟩, rfl⟩)
  go_ret
  exact ⟨⟨_, rfl⟩, rfl⟩
set_option maxRecDepth 100000 in
set_option maxHeartbeats 1000000 in
theorem pdq_none (A : Option Addr) (c : Nat) (k : Int) (fv : Value) (w : World) : Calls Try.prog 62 #[.slice A 0 c, .int .i64 0, .int .i64 0, .int .i64 k, fv] w fun e w' => e = .returned (.tuple #[]) ∧ w' = w := by
  go_enter Try.func62, Try.ntmps62
  go_wp2
  refine wp_loop_rounds 1 ?_
  rw [rounds_succ]
  go_wp2_with (go_at_call 65; refine (ins_none A c fv _).mono ?_; rintro e w1 ⟨rfl, rfl⟩)
  exact bodyPost_ret (v := .tuple #[]) (results_none Try.results62 _ _ _) rfl ⟨rfl, rfl⟩
theorem sortfunc_none (A : Option Addr) (c : Nat) (fv : Value) (w : World) : Calls Try.prog 54 #[.slice A 0 c, fv] w fun e w' => e = .returned (.tuple #[]) ∧ w' = w := by
  go_enter Try.func54, Try.ntmps54
  go_wp2_with (first
    | (go_at_call 63; refine (len_0 _).mono ?_; rintro e w1 ⟨⟨k, rfl⟩, rfl⟩)
    | (go_at_call 62; refine (pdq_none A c _ fv _).mono ?_; rintro e w1 ⟨rfl, rfl⟩))
  go_end0
  exact ⟨rfl, rfl⟩
set_option maxHeartbeats 1000000 in
theorem sorted_any (A : Option Addr) (n c B : Nat) (xs : List It) (w : World) (ha : Row w B A n xs) (hB : B ≤ w.heap.size) (hn : n ≤ 100000) :
    Calls Try.prog 41 #[.slice A n c] w (RetS w.heap.size n (· = srt xs) w) := by
  have HA := hid ha
  have HL := hid ha.1
  clear ha
  go_enter Try.func41, Try.ntmps41
  go_wp2_with fail
  refine (clone_any A n c B xs w HA.out hB hn).mono ?_
  rintro e w1 ⟨A1, c1, l1, rfl, hl1, own1, bel1⟩
  have O1 := hid own1
  have B1 := hid bel1
  have H1 := hid hl1
  clear own1 bel1 hl1
  by_cases h0 : n = 0
  · subst h0
    have SN : Hid (Calls Try.prog 54 #[.slice A1 0 c1, .func (.func 55) #[] #[]] w1 fun e w' => e = .returned (.tuple #[]) ∧ w' = w1) := hid (sortfunc_none A1 c1 (.func (.func 55) #[] #[]) w1)
    have HX : Hid (xs = []) := hid (List.eq_nil_of_length_eq_zero HL.out)
    go_wp2_with (go_at_call 54; refine SN.out.mono ?_; rintro e w2 ⟨rfl, rfl⟩)
    go_ret
    exact ⟨A1, c1, l1, rfl, by rw [H1.out, HX.out]; rfl, O1.out, B1.out⟩
  · obtain ⟨g, rfl⟩ := O1.out.some (by omega)
    have SN := hid (sortfunc_any w.heap.size g n c1 l1 w1 O1.out hn)
    clear h0
    go_wp2_with (go_at_call 54; refine SN.out.mono ?_; rintro e w2 ⟨rfl, own2, bel2⟩)
    go_ret
    exact ⟨_, c1, _, rfl, by rw [H1.out], own2, B1.out.trans bel2⟩
end Go.Proofs.Ytpfidohneddgkaa
