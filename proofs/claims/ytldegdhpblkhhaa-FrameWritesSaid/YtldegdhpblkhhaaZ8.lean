/-
  The document's own TakeVary: what it answers, at every text and place.
-/
import Derived.Test.YtldegdhpblkhhaaWD
namespace Go.Proofs.Ytldegdhpblkhhaa
open Go Go.RowKit
set_option maxRecDepth 100000 in
set_option maxHeartbeats 1000000 in
theorem reftakeVary_R (A : Option Addr) (n c B k0 : Nat) (bs : List Nat) (R : Nat × Nat × Nat) (w : World) (hr : Row w B A n (bv bs)) (ho : Oct bs) (hn : n ≤ 9000000000000000000) (hR : tv true 0 k0 (bs.drop k0) = R) :
    Calls Try.prog 33 #[.slice A n c, .int .i64 (k0 : Int)] w fun e w' => e = tri .u64 R ∧ w = w' := by
  have HR := hid hr
  have HO := hid ho
  have hnl := hr.1
  rw [bv_len] at hnl
  have HNL := hid hnl
  have HRR := hid hR
  clear hr ho hnl hR
  go_enter Try.func33, Try.ntmps33
  go_wp2
  go_loop [7, 8] (TvRel bs k0 R) (fun _ i => n - (intOf i).toNat)
  case atStart => exact ⟨k0, 0, Nat.le_refl _, rfl, rfl, by decide, by simpa using HRR.out⟩
  case round =>
    obtain ⟨k, acc, hk, rfl, rfl, hacc, hrec⟩ := hrel
    have HREC := hid hrec
    clear hrec HRR
    by_cases hlt : k < n
    · obtain ⟨b, o, u, rfl, hbb, hu, hcell⟩ := HR.out.at_ hlt
      have hkn : k < bs.length := by have := HNL.out; omega
      obtain ⟨x, hxx⟩ : ∃ x, x = bs[k] := ⟨_, rfl⟩
      have hu' : u = .int .u8 (x : Int) := by
        simp only [bv, List.getElem?_map, List.getElem?_eq_getElem hkn] at hu
        rw [hxx]; simpa using hu.symm
      subst hu'
      have hx : x < 256 := by rw [hxx]; exact HO.out _ (List.getElem_mem hkn)
      have HT : Hid (bs.drop k = x :: bs.drop (k + 1)) := hid (by rw [hxx]; exact List.drop_eq_getElem_cons hkn)
      clear hxx hu
      have HSTEP : Hid (tv (decide (k = k0)) acc k (x :: bs.drop (k + 1)) = R) := hid (by rw [← HT.out]; exact HREC.out)
      clear HREC HT
      by_cases hkx : k = k0 ∧ x = 128
      · have HF : Hid ((0, 0, 4) = R) := hid (by rw [← HSTEP.out]; simp only [tv]; rw [if_pos (.inl ⟨by simp [hkx.1], hkx.2⟩)])
        have hkb : ((k : Int) == (k0 : Int)) = true := by rw [hkx.1]; simp
        have hxb : ((x : Int) == 128) = true := by rw [hkx.2]; rfl
        clear hkx HSTEP
        go_wp2
        go_ret3
        exact ⟨by rw [← HF.out]; rfl, rfl⟩
      · by_cases hbig : 144115188075855872 ≤ acc
        · have HF : Hid ((0, 0, 4) = R) := hid (by rw [← HSTEP.out]; simp only [tv]; rw [if_pos (.inr hbig)])
          have hq : decide (0 < (acc : Int) / 144115188075855872) = true := by rw [decide_eq_true_eq]; omega
          by_cases hkk : k = k0
          · have hkb : ((k : Int) == (k0 : Int)) = true := by rw [hkk]; simp
            have hxb : ((x : Int) == 128) = false := by rw [beq_eq_false_iff_ne]; intro e; exact hkx ⟨hkk, by omega⟩
            clear hkx HSTEP hbig hkk
            go_wp2
            go_ret3
            exact ⟨by rw [← HF.out]; rfl, rfl⟩
          · have hkb : ((k : Int) == (k0 : Int)) = false := by rw [beq_eq_false_iff_ne]; omega
            clear hkx HSTEP hbig hkk
            go_wp2
            go_ret3
            exact ⟨by rw [← HF.out]; rfl, rfl⟩
        · have HC : Hid (¬ ((decide (k = k0) = true ∧ x = 128) ∨ 144115188075855872 ≤ acc)) := hid (by simp only [decide_eq_true_eq]; rintro (e | e); exact hkx e; exact hbig e)
          have hsm : acc < 144115188075855872 := by omega
          have hq : decide (0 < (acc : Int) / 144115188075855872) = false := by rw [decide_eq_false_iff_not]; omega
          have hm : (x : Int).tmod 128 = ((x % 128 : Nat) : Int) := by rw [Int.tmod_eq_emod_of_nonneg (Int.natCast_nonneg _)]; norm_cast
          have hm8 : x % 128 < 128 := Nat.mod_lt _ (by omega)
          by_cases hx8 : x < 128
          · have HF : Hid ((acc * 128 + x % 128, k + 1, 0) = R) := hid (by rw [← HSTEP.out]; simp only [tv]; rw [if_neg HC.out, if_pos hx8, Nat.mod_eq_of_lt hx8])
            have hxd : decide ((x : Int) < 128) = true := by rw [decide_eq_true_eq]; omega
            generalize x % 128 = y at *
            by_cases hkk : k = k0
            · have hkb : ((k : Int) == (k0 : Int)) = true := by rw [hkk]; simp
              have hxb : ((x : Int) == 128) = false := by rw [beq_eq_false_iff_ne]; intro e; exact hkx ⟨hkk, by omega⟩
              clear hkx hbig hkk HC HSTEP
              go_wp2
              go_ret3
              exact ⟨by rw [← HF.out]; simp [tri], rfl⟩
            · have hkb : ((k : Int) == (k0 : Int)) = false := by rw [beq_eq_false_iff_ne]; omega
              clear hkx hbig hkk HC HSTEP
              go_wp2
              go_ret3
              exact ⟨by rw [← HF.out]; simp [tri], rfl⟩
          · have HF : Hid (tv (decide (k + 1 = k0)) (acc * 128 + x % 128) (k + 1) (bs.drop (k + 1)) = R) := hid (by rw [← HSTEP.out]; simp only [tv]; rw [if_neg HC.out, if_neg hx8, decide_eq_false (by omega : ¬ k + 1 = k0)])
            have hxd : decide ((x : Int) < 128) = false := by rw [decide_eq_false_iff_not]; omega
            generalize x % 128 = y at *
            by_cases hkk : k = k0
            · have hkb : ((k : Int) == (k0 : Int)) = true := by rw [hkk]; simp
              have hxb : ((x : Int) == 128) = false := by rw [beq_eq_false_iff_ne]; intro e; exact hkx ⟨hkk, by omega⟩
              clear hkx hbig hkk HC HSTEP
              go_wp2
              go_round
              case rel => exact ⟨k + 1, acc * 128 + y, by omega, by go_num, by simp, by omega, HF.out⟩
              case measure => simp [intOf]; omega
            · have hkb : ((k : Int) == (k0 : Int)) = false := by rw [beq_eq_false_iff_ne]; omega
              clear hkx hbig hkk HC HSTEP
              go_wp2
              go_round
              case rel => exact ⟨k + 1, acc * 128 + y, by omega, by go_num, by simp, by omega, HF.out⟩
              case measure => simp [intOf]; omega
    · have HN : Hid (tv (decide (k = k0)) acc k [] = R) := hid (by have h1 : bs.drop k = [] := List.drop_eq_nil_of_le (by have := HNL.out; omega); rw [← h1]; exact HREC.out)
      go_wp2
      go_ret3
      exact ⟨by rw [← HN.out]; rfl, rfl⟩
theorem reftakeVary_3 (A : Option Addr) (n c B k0 a p e : Nat) (bs : List Nat) (w : World) (hr : Row w B A n (bv bs)) (ho : Oct bs) (hn : n ≤ 9000000000000000000) (hR : tv true 0 k0 (bs.drop k0) = (a, p, e)) :
    Calls Try.prog 33 #[.slice A n c, .int .i64 (k0 : Int)] w fun r w' => r = .returned (.tuple #[.int .u64 (a : Int), .int .i64 (p : Int), .int .i64 (e : Int)]) ∧ w = w' :=
  reftakeVary_R A n c B k0 bs (a, p, e) w hr ho hn hR
end Go.Proofs.Ytldegdhpblkhhaa
