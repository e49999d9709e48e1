/-
  The walk of OscParts: it returns true at every oscillator and every slice of numbers of 64 bits.
-/
import Derived.Test.YtmmcnbhhdgnljaaU
import Derived.Test.YtmmcnbhhdgnljaaR
import Derived.Laws.StructEq
namespace Go.Proofs.Ytmmcnbhhdgnljaa
open Go Go.RowKit

theorem fo23 : Try.prog.underlying 23 = some (.struct (Try.prog.fieldsOf 23)) := by kernel_rfl
theorem si23 : Try.prog.stoodInHeld 23 = false := by kernel_rfl
theorem eg23 : Try.prog.eqGuardType Try.prog.depth 23 = false := by kernel_rfl
theorem eqOc (x : Oc) (w : World) : (binOp .eql 23 (ov x) (ov x)).run Try.prog w = .ok (.bool true) w := by
  have h : (Op.equalIn 10000 23 (ov x) (ov x)).run Try.prog w = .ok true w := by
    obtain ⟨p, d, r⟩ := x
    unfold ov enco
    rw [run_equalIn_agg w 9999 23 _ _ fo23 si23]
    simp [go_sem]
  unfold ov at h ⊢
  rw [run_eql_struct, h]; rfl
theorem guOc (op : BinOp) (a b : Operand) (x y : Oc) (w : World) : (eqGuard op 23 a b (ov x) (ov y)).run Try.prog w = .ok () w := run_eqGuard_agg w op 23 a b _ _ eg23

set_option maxRecDepth 100000 in
theorem parts_bad (p d r : Int) (A : Option Addr) (n c : Nat) (w : World) (hk : ¬ Ok ⟨p, d, r⟩) :
    Calls Try.prog 3 #[ov ⟨p, d, r⟩, .slice A n c] w fun e w' => e = .returned (.bool true) ∧ Below w.heap.size w w' := by
  have HK := hid hk
  clear hk
  go_enter Try.func3, Try.ntmps3
  go_wp2_with (first
    | (go_at_call 9; (with_reducible refine (check_bad p d r w2 HK.out).mono ?_); rintro e w3 ⟨rfl, b3⟩; have v3 := v2.keep b3; have B3 : Hid (Below w.heap.size w w3) := hid (B2.out.trans (b3.mono B2.out.size)); clear v2 b3)
    | (refine wpList_ldo rfl (.tmp 2) rfl rfl v2 ?_)
    | (go_at_call 8; (with_reducible refine (live_any w1).mono ?_); rintro e w2 ⟨rfl, b2⟩; have v2 := v1.keep b2; have B2 : Hid (Below w.heap.size w w2) := hid (B1.out.trans (b2.mono B1.out.size)); clear v1 b2)
    | (refine wpList_boxo (x := ⟨p, d, r⟩) rfl (.tmp 0) rfl rfl ?_; intro w1 v1 b1 s1; have B1 : Hid (Below w.heap.size w w1) := hid b1; clear b1 s1))
  go_ret
  exact ⟨rfl, B3.out⟩
set_option maxRecDepth 100000 in
theorem parts_many (p d r : Int) (A : Option Addr) (n c : Nat) (w : World) (hk : Ok ⟨p, d, r⟩) (hn : 100 < n) :
    Calls Try.prog 3 #[ov ⟨p, d, r⟩, .slice A n c] w fun e w' => e = .returned (.bool true) ∧ Below w.heap.size w w' := by
  have HK := hid hk
  clear hk
  go_enter Try.func3, Try.ntmps3
  go_wp2_with (first
    | (go_at_call 9; (with_reducible refine (check_ok p d r w2 HK.out).mono ?_); rintro e w3 ⟨rfl, b3⟩; have v3 := v2.keep b3; have B3 : Hid (Below w.heap.size w w3) := hid (B2.out.trans (b3.mono B2.out.size)); clear v2 b3)
    | (refine wpList_ldo rfl (.tmp 2) rfl rfl v2 ?_)
    | (go_at_call 8; (with_reducible refine (live_any w1).mono ?_); rintro e w2 ⟨rfl, b2⟩; have v2 := v1.keep b2; have B2 : Hid (Below w.heap.size w w2) := hid (B1.out.trans (b2.mono B1.out.size)); clear v1 b2)
    | (refine wpList_boxo (x := ⟨p, d, r⟩) rfl (.tmp 0) rfl rfl ?_; intro w1 v1 b1 s1; have B1 : Hid (Below w.heap.size w w1) := hid b1; clear b1 s1))
  go_ret
  exact ⟨rfl, B3.out⟩
set_option maxRecDepth 100000 in
set_option maxHeartbeats 2000000 in
theorem parts_walk (p d r : Int) (A : Option Addr) (n c B : Nat) (ns : List Int) (w : World) (hk : Ok ⟨p, d, r⟩) (ha : Row w B A n (sv ns)) (hB : B ≤ w.heap.size) (hn : n ≤ 100) :
    Calls Try.prog 3 #[ov ⟨p, d, r⟩, .slice A n c] w fun e w' => e = .returned (.bool true) ∧ Below w.heap.size w w' := by
  have HK := hid hk
  have HA := hid ha
  clear hk ha
  go_enter Try.func3, Try.ntmps3
  go_wp2_with (first
    | (go_at_call 9; (with_reducible refine (check_ok p d r w2 HK.out).mono ?_); rintro e w3 ⟨rfl, b3⟩; have v3 := v2.keep b3; have B3 : Hid (Below w.heap.size w w3) := hid (B2.out.trans (b3.mono B2.out.size)); clear v2 b3)
    | (refine wpList_ldo rfl (.tmp 2) rfl rfl v2 ?_)
    | (go_at_call 8; (with_reducible refine (live_any w1).mono ?_); rintro e w2 ⟨rfl, b2⟩; have v2 := v1.keep b2; have B2 : Hid (Below w.heap.size w w2) := hid (B1.out.trans (b2.mono B1.out.size)); clear v1 b2)
    | (refine wpList_boxo (x := ⟨p, d, r⟩) rfl (.tmp 0) rfl rfl ?_; intro w1 v1 b1 s1; have B1 : Hid (Below w.heap.size w w1) := hid b1; clear b1 s1))
  go_loop [6, 32] (fun s i => ∃ k : Nat, k ≤ n ∧ i = .int .i64 (k : Int) ∧ s = .int .i64 (ns.take k).sum ∧ (∀ z ∈ ns.take k, 0 ≤ z ∧ z ≤ 8589934592)) (fun _ i => n - (intOf i).toNat)
  case atStart => exact ⟨0, Nat.zero_le _, rfl, by simp, by simp⟩
  case round =>
    obtain ⟨k, hkn, rfl, rfl, hall⟩ := hrel
    have HL := hid hall
    have S0 : Hid (0 ≤ (ns.take k).sum) := hid (sum_nonneg fun z hz => (hall z hz).1)
    have S1 : Hid ((ns.take k).sum ≤ 858993459200) := hid (by
      have h1 := sum_le (M := 8589934592) (fun z hz => (hall z hz).2)
      have h2 : (ns.take k).length ≤ 100 := by rw [List.length_take]; omega
      have h3 : ((ns.take k).length : Int) * 8589934592 ≤ 100 * 8589934592 := by omega
      omega)
    clear hall
    by_cases hlt : k < n
    · obtain ⟨b, off, u, hA, hb, hu, hcell⟩ := (HA.out.below (B3.out.mono hB)).at_ hlt
      subst hA
      obtain ⟨z, hz, rfl⟩ : ∃ z, ns[k]? = some z ∧ Value.int .i64 z = u := by simpa [sv] using hu
      have HTK := hid (sum_take hz)
      have s0 := S0.out
      have s1 := S1.out
      have HZ := hid hz
      clear hu hz HA
      generalize hSS : (ns.take k).sum = S at *
      by_cases hz0 : z < 0 ∨ 8589934592 < z
      · have hzb : (decide (z < 0) || decide (8589934592 < z)) = true := by simpa using hz0
        clear hz0
        go_wp2_with fail
        all_goals
          go_ret
          exact ⟨rfl, B3.out⟩
      · have z0 : 0 ≤ z := by omega
        have z1 : z ≤ 8589934592 := by omega
        clear hz0
        go_wp2_with fail
        refine ⟨⟨k + 1, by omega, by go_num, by rw [HTK.out], fun y hy => ?_⟩, by simp [intOf]; omega⟩
        rw [List.take_add_one, HZ.out] at hy
        rcases List.mem_append.1 hy with h | h
        · exact HL.out y h
        · simp at h; subst h; exact ⟨z0, z1⟩
    · obtain rfl : k = n := by omega
      have eT : ns.take k = ns := List.take_of_length_le (by have := HA.out.1; rw [sv_len] at this; omega)
      rw [eT] at HL S0 S1
      rw [eT]
      have MA := hid (fun w' (hb : Below w.heap.size w w') => many_any p d r A k c B ns w' HK.out (HA.out.below (hb.mono hB)) (Nat.le_trans hB hb.size) hn HL.out)
      have hS0 := S0.out
      have hS1 := S1.out
      have HRO := hid (fun w h => run_over ⟨p, d, r⟩ ns.sum w HK.out hS0 (by omega) h)
      have HRK := hid (fun w h => run_ok ⟨p, d, r⟩ ns.sum w HK.out hS0 (by omega) h)
      have HP0 := hid (psO_nonneg HK.out hS0)
      clear HA HL S0 S1 eT
      generalize hSS : ns.sum = S at *
      generalize hPS : psO ⟨p, d, r⟩ S = P at *
      generalize hXS : aft ⟨p, d, r⟩ S = X at *
      have MB : Hid (∀ w', Below w.heap.size w w' → Calls Try.prog 10 #[ov ⟨p, d, r⟩, .slice A k c] w' fun e w'' => Below w'.heap.size w' w'' ∧ ((∃ A4 c4 xs, e = .returned (.tuple #[.slice A4 k c4, ov X, .int .i64 0]) ∧ Row w'' w''.heap.size A4 k (sv xs) ∧ xs.sum = P ∧ (∀ x ∈ xs, 0 ≤ x ∧ x ≤ 1152921504606846976)) ∨ (e = .returned (.tuple #[.slice none 0 0, ov oz, .int .i64 2]) ∧ 1152921504606846976 < P))) := hid (fun w' hb => (MA.out w' hb).mono fun e w'' h => by
        unfold ManyPost at h
        rw [hSS, hPS, hXS] at h
        exact h)
      clear MA hSS hPS hXS
      go_wp2_with (first | (refine wpList_ldo rfl (.tmp 2) rfl rfl v3 ?_))
      refine (MB.out w3 B3.out).mono ?_
      rintro e w4 ⟨b4, ⟨A4, c4, xs, rfl, row4, sum4, bd4⟩ | ⟨rfl, hov⟩⟩
      · have v4 := v3.keep b4
        have B4 : Hid (Below w.heap.size w w4) := hid (B3.out.trans (b4.mono B3.out.size))
        have R4 := hid row4
        have SM := hid sum4
        have BD := hid bd4
        clear row4 sum4 bd4 v3 b4 MB
        by_cases hov : P ≤ 1152921504606846976
        · have HR := hid (fun w => HRK.out w hov)
          have BN : Hid (∀ i, 0 ≤ (xs.take i).sum ∧ (xs.take i).sum ≤ P) := hid (fun i => ⟨sum_nonneg (fun z hz => (BD.out z (List.mem_of_mem_take hz)).1), by rw [← SM.out]; exact sum_take_le i (fun z hz => (BD.out z hz).1)⟩)
          clear HRO HRK
          go_wp2_with (first
            | (refine wpList_svo (x := X) rfl (.tmp 13) (.tmp 59) rfl rfl rfl q8 ?_; intro w9 q9 b9 o9 _; have p9 := p8.other o9 (by have := p7.lt; omega); have B9 : Hid (Below w.heap.size w w9) := hid (B8.out.trans (b9.mono B7.out.size)))
            | (refine wpList_alo rfl rfl ?_; intro w8 q8 b8 s8; have p8 := p7.keep b8; have B8 : Hid (Below w.heap.size w w8) := hid (B7.out.trans (b8.mono B7.out.size)))
            | (go_at_call 11; (with_reducible refine (HR.out w6).mono ?_); rintro e w7 ⟨rfl, b7⟩; have p7 := p6.keep b7; have B7 : Hid (Below w.heap.size w w7) := hid (B6.out.trans (b7.mono B6.out.size)))
            | (refine wpList_ldo rfl (.tmp 2) rfl rfl v6 ?_)
            | (refine wpList_svo (x := X) rfl (.tmp 10) (.tmp 52) rfl rfl rfl q5 ?_; intro w6 p6 b6 o6 _; have v6 := v5.other o6 (by have := v4.lt; omega); have B6 : Hid (Below w.heap.size w w6) := hid (B5.out.trans (b6.mono B4.out.size)))
            | (refine wpList_alo rfl rfl ?_; intro w5 q5 b5 s5; have v5 := v4.keep b5; have B5 : Hid (Below w.heap.size w w5) := hid (B4.out.trans (b5.mono B4.out.size))))
          have R9 : Hid (Row w9 w4.heap.size A4 k (sv xs)) := hid (R4.out.below ((((b5.trans b6).trans (b7.mono (b5.trans b6).size)).trans (b8.mono (Nat.le_trans (b5.trans b6).size b7.size))).trans (b9.mono (Nat.le_trans (b5.trans b6).size b7.size))))
          have P9 := hid p9
          have Q9 := hid q9
          clear R4 v4 v5 v6 q5 q8 b5 b6 b7 b8 b9 o6 o9 s5 s8 p6 p7 p8 BD HR
          clear B4 B5 B6 B7 B8
          go_loop [15, 74] (fun s i => ∃ j : Nat, j ≤ k ∧ i = .int .i64 (j : Int) ∧ s = .int .i64 (xs.take j).sum) (fun _ i => k - (intOf i).toNat)
          case atStart => exact ⟨0, Nat.zero_le _, rfl, by simp⟩
          case round =>
            obtain ⟨j, hjk, rfl, rfl⟩ := hrel
            by_cases hlt2 : j < k
            · obtain ⟨b2, off2, u2, hA2, hb2, hu2, hcell2⟩ := R9.out.at_ hlt2
              subst hA2
              obtain ⟨z, hz, rfl⟩ : ∃ z, xs[j]? = some z ∧ Value.int .i64 z = u2 := by simpa [sv] using hu2
              have HTK := hid (sum_take hz)
              have t0 := BN.out j
              have t1 := BN.out (j + 1)
              rw [HTK.out] at t1
              clear hu2 hz R9
              generalize (xs.take j).sum = T at *
              obtain ⟨t2, t3⟩ := t0
              obtain ⟨t4, t5⟩ := t1
              go_wp2_with fail
              exact ⟨⟨j + 1, by omega, by go_num, by rw [HTK.out]⟩, by simp [intOf]; omega⟩
            · obtain rfl : j = k := by omega
              have eX : xs.take j = xs := List.take_of_length_le (by have := R9.out.1; rw [sv_len] at this; omega)
              rw [eX, SM.out]
              have q3 := fun w => eqOc X w
              have q4 := fun p q w => guOc .eql p q X X w
              go_wp2_with (first
                | (refine wpList_ldo rfl (.tmp 10) rfl rfl P9.out ?_)
                | (refine wpList_ldo rfl (.tmp 13) rfl rfl Q9.out ?_))
              go_ret
              exact ⟨ret_bool (by simp), B9.out⟩
        · have HR := hid (fun w => HRO.out w (by omega))
          clear HRO HRK
          go_wp2_with (first
            | (refine wpList_svo (x := oz) rfl (.tmp 13) (.tmp 59) rfl rfl rfl q8 ?_; intro w9 q9 b9 o9 _; have p9 := p8.other o9 (by have := p7.lt; omega); have B9 : Hid (Below w.heap.size w w9) := hid (B8.out.trans (b9.mono B7.out.size)))
            | (refine wpList_alo rfl rfl ?_; intro w8 q8 b8 s8; have p8 := p7.keep b8; have B8 : Hid (Below w.heap.size w w8) := hid (B7.out.trans (b8.mono B7.out.size)))
            | (go_at_call 11; (with_reducible refine (HR.out w6).mono ?_); rintro e w7 ⟨rfl, b7⟩; have p7 := p6.keep b7; have B7 : Hid (Below w.heap.size w w7) := hid (B6.out.trans (b7.mono B6.out.size)))
            | (refine wpList_ldo rfl (.tmp 2) rfl rfl v6 ?_)
            | (refine wpList_svo (x := X) rfl (.tmp 10) (.tmp 52) rfl rfl rfl q5 ?_; intro w6 p6 b6 o6 _; have v6 := v5.other o6 (by have := v4.lt; omega); have B6 : Hid (Below w.heap.size w w6) := hid (B5.out.trans (b6.mono B4.out.size)))
            | (refine wpList_alo rfl rfl ?_; intro w5 q5 b5 s5; have v5 := v4.keep b5; have B5 : Hid (Below w.heap.size w w5) := hid (B4.out.trans (b5.mono B4.out.size))))
          go_ret
          exact ⟨rfl, B9.out⟩
      · have v4 := v3.keep b4
        have B4 : Hid (Below w.heap.size w w4) := hid (B3.out.trans (b4.mono B3.out.size))
        have HR := hid (fun w => HRO.out w hov)
        clear v3 b4 HRO HRK MB
        go_wp2_with (first
          | (refine wpList_svo (x := oz) rfl (.tmp 13) (.tmp 59) rfl rfl rfl q8 ?_; intro w9 q9 b9 o9 _; have B9 : Hid (Below w.heap.size w w9) := hid (B8.out.trans (b9.mono B7.out.size)))
          | (refine wpList_alo rfl rfl ?_; intro w8 q8 b8 s8; have B8 : Hid (Below w.heap.size w w8) := hid (B7.out.trans (b8.mono B7.out.size)))
          | (go_at_call 11; (with_reducible refine (HR.out w6).mono ?_); rintro e w7 ⟨rfl, b7⟩; have B7 : Hid (Below w.heap.size w w7) := hid (B6.out.trans (b7.mono B6.out.size)))
          | (refine wpList_ldo rfl (.tmp 2) rfl rfl v6 ?_)
          | (refine wpList_svo (x := oz) rfl (.tmp 10) (.tmp 52) rfl rfl rfl q5 ?_; intro w6 q6 b6 o6 _; have v6 := v5.other o6 (by have := v4.lt; omega); have B6 : Hid (Below w.heap.size w w6) := hid (B5.out.trans (b6.mono B4.out.size)))
          | (refine wpList_alo rfl rfl ?_; intro w5 q5 b5 s5; have v5 := v4.keep b5; have B5 : Hid (Below w.heap.size w w5) := hid (B4.out.trans (b5.mono B4.out.size))))
        go_ret
        exact ⟨rfl, B9.out⟩
theorem parts_row {w : World} (p d r : Int) (_ : (-9223372036854775808 ≤ p ∧ p ≤ 9223372036854775807)) (_ : (-9223372036854775808 ≤ d ∧ d ≤ 9223372036854775807)) (_ : (-9223372036854775808 ≤ r ∧ r ≤ 9223372036854775807)) (A : Option Addr) (n c : Nat) (zs : List Int) (h : Came .i64 w A n c zs) :
    Calls Try.prog 3 #[ov ⟨p, d, r⟩, .slice A n c] w fun e w' => e = .returned (.bool true) ∧ Below w.heap.size w w' := by
  by_cases hk : Ok ⟨p, d, r⟩
  · by_cases hn : n ≤ 100
    · exact parts_walk p d r A n c w.heap.size zs w hk (came_i64 h).1 (Nat.le_refl _) hn
    · exact parts_many p d r A n c w hk (by omega)
  · exact parts_bad p d r A n c w hk
end Go.Proofs.Ytmmcnbhhdgnljaa
