/-
  Contracts of the document's own digits (palletref01.digits) and Digits (palletref14.Digits): a number's text.
-/
import Derived.Test.YtkfnkieljcipnaaGreatDoorK4
import Derived.Deep.RegionHeld3
import Derived.Deep.RegionWith
import Derived.IntWalk
namespace Go.Proofs.YtkfnkieljcipnaaGreatDoor
open Go Go.RowKit Go.Joins

theorem conv1 (w : World) (x : Nat) (g : Nat) (hc : w.cell? ⟨g, 0, none⟩ = some (.int .u8 (x : Nat))) : (convert 54 9 (.slice (some ⟨g, 0, none⟩) 1 1)).run Tryz.prog w = .ok (.string (bA [UInt8.ofNat x])) w := by
  have h := run_convert_bytes_arg (P := Tryz.prog) w 54 5 Tryz.underlying54 Tryz.underlying5 g 0 1 1 [(x : Int)] rfl (fun i hi => by
    obtain rfl : i = 0 := by omega
    exact hc) 9 Tryz.underlying9
  rw [h]
  simp [strOfNums, bA]
theorem cell_new1 (w : World) (v : Value) (t : TypeId) : (w.alloc (.cells #[v] t)).cell? ⟨w.heap.size, 0, none⟩ = some v := range_new w [v] t 0 v rfl
theorem conv_drew {w : World} {r : Nat} {T : ByteArray} (hT : bA [UInt8.ofNat (48 + r)] = T) : (convert 54 9 (.slice (some ⟨w.heap.size, 0, none⟩) 1 1)).run Tryz.prog (w.alloc (.cells #[.int .u8 (48 + (r : Int))] 5)).drew = .ok (.string T) (w.alloc (.cells #[.int .u8 (48 + (r : Int))] 5)).drew := by
  rw [← hT]
  exact conv1 _ (48 + r) w.heap.size (by rw [World.cell?_drew]; exact cell_new1 w _ _)
theorem conv_between {w w1 : World} {r : Nat} {T : ByteArray} (hT : bA [UInt8.ofNat (48 + r)] = T) (g1 : Below (w.alloc (.cells #[.int .u8 (48 + (r : Int))] 5)).drew.heap.size (w.alloc (.cells #[.int .u8 (48 + (r : Int))] 5)).drew w1) : (convert 54 9 (.slice (some ⟨w.heap.size, 0, none⟩) 1 1)).run Tryz.prog w1 = .ok (.string T) w1 := by
  rw [← hT]
  exact conv1 w1 (48 + r) w.heap.size ((g1.cell (p := ⟨w.heap.size, 0, none⟩) (by simp)).trans (by rw [World.cell?_drew]; exact cell_new1 w _ _))
theorem step_cv {w : World} {ops : Array Oper} {o : Oper} {a : Act} {Q : Exit → Act → World → Prop} {K : Act → World → Prop} {E : Prop} (hgd : o.guard = none) (s : Operand) (ho : o.op = .convert 54 9 s) {g x : Nat} (hs : a.eval s = .slice (some ⟨g, 0, none⟩) 1 1) (hc : w.cell? ⟨g, 0, none⟩ = some (.int .u8 (x : Nat)))
    (h : K (a.put o.dst (.string (bA [UInt8.ofNat x]))) w) : if Region.wanted o (yielded ops a.tmps) = true then Oper.wp Tryz.prog o a w K Q else E := by
  have hw : Region.wanted o (yielded ops a.tmps) = true := by simp [Region.wanted, hgd]
  rw [if_pos hw]
  have := conv1 w x g hc
  unfold Oper.wp execOp
  simp only [ho, hs, this, Sem.run_bind, Sem.run_pure, Result.andThen_ok]
  exact h

set_option maxHeartbeats 1000000 in
set_option maxRecDepth 100000 in
theorem dig1_nat : ∀ (n : Nat) (w : World), n ≤ 9223372036854775807 → Calls Tryz.prog 92 #[.int .i64 (n : Int)] w fun e w' => e = .returned (.string (bA (Lib.decDigits n))) ∧ Below w.heap.size w w' := by
  intro n
  induction n using Nat.strongRecOn with
  | _ n ih =>
    intro w hn
    by_cases h10 : n < 10
    · have h10' : (n : Int) < 10 := by omega
      have h0 : ¬ (n : Int) < 0 := by omega
      have hd : Lib.decDigits n = [UInt8.ofNat (48 + n)] := Lib.decDigits_one h10
      have hcv := conv1 (w.alloc (.cells #[.int .u8 (48 + (n : Int))] 5)) (48 + n) w.heap.size (cell_new1 w _ _)
      rw [hd]
      go_enter Tryz.func92, Tryz.ntmps92
      go_wp2
      go_ret
      exact ⟨rfl, (Below.refl _ _).alloc (Nat.le_refl _) _⟩
    · have h10' : ¬ (n : Int) < 10 := by omega
      have h0 : ¬ (n : Int) < 0 := by omega
      have hq : (n : Int).tdiv 10 = ((n / 10 : Nat) : Int) := by rw [Int.tdiv_eq_ediv_of_nonneg (by omega)]; omega
      have hr : (n : Int).tmod 10 = ((n % 10 : Nat) : Int) := by rw [Int.tmod_eq_emod_of_nonneg (by omega)]; omega
      have IH := hid (fun w => ih (n / 10) (by omega) w (by omega))
      have hd : Lib.decDigits n = Lib.decDigits (n / 10) ++ [UInt8.ofNat (48 + n % 10)] := by rw [Lib.decDigits, dif_neg h10]
      have hsz : (bA (Lib.decDigits (n / 10))).size ≤ 19 := by
        rw [bA_size, Lib.decDigits_length]
        exact nDigits_le 19 _ (by omega) (by omega)
      rw [hd, bA_app]
      have hm : n / 10 ≤ 9223372036854775807 := by omega
      have hr10 : n % 10 < 10 := by omega
      clear hd ih h10
      generalize bA (Lib.decDigits (n / 10)) = S at *
      generalize n / 10 = m at *
      generalize n % 10 = r at *
      have f1 : IntKind.i64.wrap (m : Int) = (m : Int) := IntWalk.i64_in _ (by omega)
      have f2 : IntKind.i64.wrap (r : Int) = (r : Int) := IntWalk.i64_in _ (by omega)
      have f3 : IntKind.u8.wrap (r : Int) = (r : Int) := by rw [IntKind.wrap_u8]; omega
      go_enter Tryz.func92, Tryz.ntmps92
      go_wp2_with fail
      have hcw : IntKind.u8.wrap ((48 : Int) + (r : Int)) = 48 + (r : Int) := by rw [IntKind.wrap_u8]; omega
      have hcv : ∀ w' : World, (convert 54 9 (.slice (some ⟨w'.heap.size, 0, none⟩) 1 1)).run Tryz.prog (w'.alloc (.cells #[.int .u8 (48 + (r : Int))] 5)) = .ok (.string (bA [UInt8.ofNat (48 + r)])) (w'.alloc (.cells #[.int .u8 (48 + (r : Int))] 5)) := fun w' => conv1 _ (48 + r) w'.heap.size (cell_new1 w' _ _)
      have hTs : (bA [UInt8.ofNat (48 + r)]).size = 1 := by rw [bA_size]; rfl
      generalize hT : bA [UInt8.ofNat (48 + r)] = T at *
      have hcv2 := fun w' : World => conv_drew (w := w') hT
      go_region_with (first | (go_at_call 92; with_reducible refine (IH.out _).mono ?_; rintro e w1 ⟨rfl, g1⟩; (try have hcv1 := conv_between hT g1)))
      all_goals
        go_wp2_with fail
        go_ret
        refine ⟨by rw [hT]; rfl, ?_⟩
        first
          | exact (((Below.refl w.heap.size w).drew).trans (g1.mono (by simp))).alloc (by have := g1.size; simpa using this) _
          | exact ((((Below.refl w.heap.size w).alloc (Nat.le_refl _) _).drew).trans (g1.mono (by simp)))
set_option maxRecDepth 100000 in
theorem dig1_any (n : Int) (w : World) (hs : smallI n = true) : Calls Tryz.prog 92 #[.int .i64 n] w fun e w' => e = .returned (.string (bA (Lib.itoa n))) ∧ Below w.heap.size w w' := by
  have hs' : -1000000000000000000 < n ∧ n < 1000000000000000000 := by simpa [smallI] using hs
  by_cases h0 : n < 0
  · obtain ⟨m, hm⟩ : ∃ m : Nat, -n = m := ⟨(-n).toNat, by omega⟩
    have H := hid (fun w => by have := dig1_nat m w (by omega); rwa [← hm] at this)
    have hd : Lib.itoa n = 45 :: Lib.decDigits m := by
      unfold Lib.itoa
      rw [if_pos h0, show n.natAbs = m by omega]
    have hsz : (bA (Lib.decDigits m)).size ≤ 19 := by
      rw [bA_size, Lib.decDigits_length]
      exact nDigits_le 19 _ (by omega) (by omega)
    have he : bA (Lib.itoa n) = (⟨#[45]⟩ : ByteArray) ++ bA (Lib.decDigits m) := by
      rw [hd, show (45 :: Lib.decDigits m) = [45] ++ Lib.decDigits m from rfl, bA_app]; rfl
    rw [he]
    clear he hd hs hm
    generalize bA (Lib.decDigits m) = S at *
    go_enter Tryz.func92, Tryz.ntmps92
    go_wp2_with (first | (go_at_call 92; (with_reducible refine (H.out w).mono ?_); rintro e w1 ⟨rfl, g1⟩))
    go_ret
    exact ⟨rfl, g1⟩
  · obtain ⟨m, rfl⟩ := Int.eq_ofNat_of_zero_le (show 0 ≤ n by omega)
    have he : Lib.itoa (m : Int) = Lib.decDigits m := by
      unfold Lib.itoa
      rw [if_neg h0]; rfl
    rw [he]
    exact dig1_nat m w (by omega)

set_option maxHeartbeats 1000000 in
set_option maxRecDepth 100000 in
theorem dig14_nat : ∀ (n : Nat) (w : World), n ≤ 9223372036854775807 → Calls Tryz.prog 74 #[.int .i64 (n : Int)] w fun e w' => e = .returned (.string (bA (Lib.decDigits n))) ∧ Below w.heap.size w w' := by
  intro n
  induction n using Nat.strongRecOn with
  | _ n ih =>
    intro w hn
    by_cases h10 : n < 10
    · have h10' : (n : Int) < 10 := by omega
      have h0 : ¬ (n : Int) < 0 := by omega
      have hd : Lib.decDigits n = [UInt8.ofNat (48 + n)] := Lib.decDigits_one h10
      have hcv := conv1 (w.alloc (.cells #[.int .u8 (48 + (n : Int))] 5)) (48 + n) w.heap.size (cell_new1 w _ _)
      rw [hd]
      go_enter Tryz.func74, Tryz.ntmps74
      go_wp2
      go_ret
      exact ⟨rfl, (Below.refl _ _).alloc (Nat.le_refl _) _⟩
    · have h10' : ¬ (n : Int) < 10 := by omega
      have h0 : ¬ (n : Int) < 0 := by omega
      have hq : (n : Int).tdiv 10 = ((n / 10 : Nat) : Int) := by rw [Int.tdiv_eq_ediv_of_nonneg (by omega)]; omega
      have hr : (n : Int).tmod 10 = ((n % 10 : Nat) : Int) := by rw [Int.tmod_eq_emod_of_nonneg (by omega)]; omega
      have IH := hid (fun w => ih (n / 10) (by omega) w (by omega))
      have hd : Lib.decDigits n = Lib.decDigits (n / 10) ++ [UInt8.ofNat (48 + n % 10)] := by rw [Lib.decDigits, dif_neg h10]
      have hsz : (bA (Lib.decDigits (n / 10))).size ≤ 19 := by
        rw [bA_size, Lib.decDigits_length]
        exact nDigits_le 19 _ (by omega) (by omega)
      rw [hd, bA_app]
      have hm : n / 10 ≤ 9223372036854775807 := by omega
      have hr10 : n % 10 < 10 := by omega
      clear hd ih h10
      generalize bA (Lib.decDigits (n / 10)) = S at *
      generalize n / 10 = m at *
      generalize n % 10 = r at *
      have f1 : IntKind.i64.wrap (m : Int) = (m : Int) := IntWalk.i64_in _ (by omega)
      have f2 : IntKind.i64.wrap (r : Int) = (r : Int) := IntWalk.i64_in _ (by omega)
      have f3 : IntKind.u8.wrap (r : Int) = (r : Int) := by rw [IntKind.wrap_u8]; omega
      go_enter Tryz.func74, Tryz.ntmps74
      go_wp2_with fail
      have hcw : IntKind.u8.wrap ((48 : Int) + (r : Int)) = 48 + (r : Int) := by rw [IntKind.wrap_u8]; omega
      have hcv : ∀ w' : World, (convert 54 9 (.slice (some ⟨w'.heap.size, 0, none⟩) 1 1)).run Tryz.prog (w'.alloc (.cells #[.int .u8 (48 + (r : Int))] 5)) = .ok (.string (bA [UInt8.ofNat (48 + r)])) (w'.alloc (.cells #[.int .u8 (48 + (r : Int))] 5)) := fun w' => conv1 _ (48 + r) w'.heap.size (cell_new1 w' _ _)
      have hTs : (bA [UInt8.ofNat (48 + r)]).size = 1 := by rw [bA_size]; rfl
      generalize hT : bA [UInt8.ofNat (48 + r)] = T at *
      have hcv2 := fun w' : World => conv_drew (w := w') hT
      go_region_with (first | (go_at_call 74; with_reducible refine (IH.out _).mono ?_; rintro e w1 ⟨rfl, g1⟩; (try have hcv1 := conv_between hT g1)))
      all_goals
        go_wp2_with fail
        go_ret
        refine ⟨by rw [hT]; rfl, ?_⟩
        first
          | exact (((Below.refl w.heap.size w).drew).trans (g1.mono (by simp))).alloc (by have := g1.size; simpa using this) _
          | exact ((((Below.refl w.heap.size w).alloc (Nat.le_refl _) _).drew).trans (g1.mono (by simp)))
set_option maxRecDepth 100000 in
theorem dig14_any (n : Int) (w : World) (hs : smallI n = true) : Calls Tryz.prog 74 #[.int .i64 n] w fun e w' => e = .returned (.string (bA (Lib.itoa n))) ∧ Below w.heap.size w w' := by
  have hs' : -1000000000000000000 < n ∧ n < 1000000000000000000 := by simpa [smallI] using hs
  by_cases h0 : n < 0
  · obtain ⟨m, hm⟩ : ∃ m : Nat, -n = m := ⟨(-n).toNat, by omega⟩
    have H := hid (fun w => by have := dig14_nat m w (by omega); rwa [← hm] at this)
    have hd : Lib.itoa n = 45 :: Lib.decDigits m := by
      unfold Lib.itoa
      rw [if_pos h0, show n.natAbs = m by omega]
    have hsz : (bA (Lib.decDigits m)).size ≤ 19 := by
      rw [bA_size, Lib.decDigits_length]
      exact nDigits_le 19 _ (by omega) (by omega)
    have he : bA (Lib.itoa n) = (⟨#[45]⟩ : ByteArray) ++ bA (Lib.decDigits m) := by
      rw [hd, show (45 :: Lib.decDigits m) = [45] ++ Lib.decDigits m from rfl, bA_app]; rfl
    rw [he]
    clear he hd hs hm
    generalize bA (Lib.decDigits m) = S at *
    go_enter Tryz.func74, Tryz.ntmps74
    go_wp2_with (first | (go_at_call 74; (with_reducible refine (H.out w).mono ?_); rintro e w1 ⟨rfl, g1⟩))
    go_ret
    exact ⟨rfl, g1⟩
  · obtain ⟨m, rfl⟩ := Int.eq_ofNat_of_zero_le (show 0 ≤ n by omega)
    have he : Lib.itoa (m : Int) = Lib.decDigits m := by
      unfold Lib.itoa
      rw [if_neg h0]; rfl
    rw [he]
    exact dig14_nat m w (by omega)
end Go.Proofs.YtkfnkieljcipnaaGreatDoor
