/-
  The walk of PrintBack: it is true; under: the tables hold what the program lays.
-/
import Derived.Test.YtkfnkieljcipnaaGreatDoorZWO
import Derived.Test.YtkfnkieljcipnaaGreatDoorZWI
import Derived.Test.YtkfnkieljcipnaaGreatDoorZWK
namespace Go.Proofs.YtkfnkieljcipnaaGreatDoor
open Go Go.RowKit Go.Joins

theorem chk2_at {f : Fo} {w : World} {K : Nat → Prop} {A : Option Addr} {n c : Nat} (ht : TrS w K A n f) (hok : f.okS) (hc : f.okL) (hd : f.depth ≤ 13) : ChkAt f (.slice A n c) w :=
  fun w1 hb => check2_any f w1 K A n c (ht.below hb) hok hc (by omega)
theorem prE_ok {f : Fo} (h : prE f = 0) : f.okA 6 ∧ f.count ≤ 2000 ∧ (f.text []).length ≤ 65536 ∧ prT f = f.text [] := by
  have hT : prT f = f.text [] := by unfold prT; rw [if_pos h]
  unfold prE at h
  split at h
  · rename_i h0
    split at h
    · cases h
    · obtain ⟨h1, h2⟩ := chk_ok h0
      exact ⟨h1, h2, by omega, hT⟩
  · cases h
theorem prE_3 (f : Fo) : prE f = 0 ∨ prE f = 6 ∨ (prE f = 1 ∧ chkE f = 1) := by
  unfold prE
  rcases chk_01 f with h | h
  · rw [if_pos h]; split <;> simp
  · rw [if_neg (by omega)]; exact .inr (.inr ⟨rfl, h⟩)
theorem prT_no {f : Fo} (h : prE f ≠ 0) : prT f = [] := by unfold prT; rw [if_neg h]
theorem text_is {f : Fo} (h : prE f = 0) : isB (bA (f.text [])).data.toList = true := by
  obtain ⟨h1, h2, h3, _⟩ := prE_ok h
  show isB (f.text []) = true
  unfold isB
  rw [text_tidy h1 h2 h3]
  simp

set_option maxHeartbeats 4000000 in
set_option maxRecDepth 100000 in
theorem back_few (f : Fo) (w : World) (K : Nat → Prop) (A : Option Addr) (n c : Nat) (hL : LaidW w) (ht : TrS w K A n f) (hfew : (fewH f.len 12 && f.fewE 12) = false) :
    Calls Tryz.prog 8 #[.slice A n c] w fun e w' => e = .returned (.bool true) ∧ Below w.heap.size w w' := by
  have HV := hid (live16_any w hL)
  have HF := hid (fun w1 (hb : Below w.heap.size w w1) => by have := rfew_any f w1 K A n c 12 (ht.below hb) (by decide) (by decide); rwa [hfew] at this)
  clear hL ht hfew
  go_enter Tryz.func8, Tryz.ntmps8
  go_wp2_with (go_at_call 26; refine HV.out.mono ?_; rintro e w1 ⟨rfl, g1⟩; have B1 := hid g1; clear g1)
  go_at_call 16
  refine (HF.out w1 B1.out).mono ?_
  rintro e w2 ⟨rfl, g2⟩
  have B2 := hid (B1.out.trans (g2.mono B1.out.size))
  clear g2
  go_wp2_with fail
  go_ret
  exact ⟨rfl, B2.out⟩
set_option maxHeartbeats 4000000 in
set_option maxRecDepth 100000 in
theorem back_many (f : Fo) (w : World) (K : Nat → Prop) (A : Option Addr) (n c : Nat) (hL : LaidW w) (ht : TrS w K A n f) (hfew : (fewH f.len 12 && f.fewE 12) = true) (hm : 2500 < IntKind.i64.wrap (f.count : Nat)) :
    Calls Tryz.prog 8 #[.slice A n c] w fun e w' => e = .returned (.bool true) ∧ Below w.heap.size w w' := by
  have HV := hid (live16_any w hL)
  have HF := hid (fun w1 (hb : Below w.heap.size w w1) => by have := rfew_any f w1 K A n c 12 (ht.below hb) (by decide) (by decide); rwa [hfew] at this)
  obtain ⟨hokL, hokS, hokN, hdep⟩ := few_ok hfew
  have HC := hid (fun w1 (hb : Below w.heap.size w w1) => rcount2_any f w1 K A n c (ht.below hb) hokL)
  generalize IntKind.i64.wrap ((f.count : Nat) : Int) = m at *
  clear hL ht hfew hokL hokS hokN hdep
  go_enter Tryz.func8, Tryz.ntmps8
  go_wp2_with (go_at_call 26; refine HV.out.mono ?_; rintro e w1 ⟨rfl, g1⟩; have B1 := hid g1; clear g1)
  go_at_call 16
  refine (HF.out w1 B1.out).mono ?_
  rintro e w2 ⟨rfl, g2⟩
  have B2 := hid (B1.out.trans (g2.mono B1.out.size))
  clear g2
  go_wp2_with fail
  go_at_call 17
  refine (HC.out w2 B2.out).mono ?_
  rintro e w3 ⟨rfl, g3⟩
  have B3 := hid (B2.out.trans (g3.mono B2.out.size))
  clear g3
  go_wp2_with fail
  go_ret
  exact ⟨rfl, B3.out⟩
set_option maxHeartbeats 4000000 in
set_option maxRecDepth 100000 in
theorem back_long (f : Fo) (w : World) (K : Nat → Prop) (A : Option Addr) (n c : Nat) (hL : LaidW w) (ht : TrS w K A n f) (hK : ∀ k, K k → k < w.heap.size) (hfew : (fewH f.len 12 && f.fewE 12) = true) (hm : ¬ 2500 < IntKind.i64.wrap (f.count : Nat)) (he : prE f = 6) :
    Calls Tryz.prog 8 #[.slice A n c] w fun e w' => e = .returned (.bool true) ∧ Below w.heap.size w w' := by
  have HV := hid (live16_any w hL)
  have HF := hid (fun w1 (hb : Below w.heap.size w w1) => by have := rfew_any f w1 K A n c 12 (ht.below hb) (by decide) (by decide); rwa [hfew] at this)
  obtain ⟨hokL, hokS, hokN, hdep⟩ := few_ok hfew
  have HC := hid (fun w1 (hb : Below w.heap.size w w1) => rcount2_any f w1 K A n c (ht.below hb) hokL)
  have HP := hid (fun w1 (hb : Below w.heap.size w w1) => print_any f w1 K A n c (hL.below hb) (ht.below hb) (fun k hk => Nat.lt_of_lt_of_le (hK k hk) hb.size) (chk2_at (ht.below hb) hokS hokL hdep))
  have HK2 := hid (fun w1 (hb : Below w.heap.size w w1) => check2_any f w1 K A n c (ht.below hb) hokS hokL (by omega))
  rw [he, prT_no (by omega)] at HP
  rw [show bA [] = ⟨#[]⟩ from rfl] at HP
  generalize IntKind.i64.wrap ((f.count : Nat) : Int) = m at *
  clear hL ht hK hfew hokL hokS hokN hdep he
  go_enter Tryz.func8, Tryz.ntmps8
  go_wp2_with (go_at_call 26; refine HV.out.mono ?_; rintro e w1 ⟨rfl, g1⟩; have B1 := hid g1; clear g1)
  go_at_call 16
  refine (HF.out w1 B1.out).mono ?_
  rintro e w2 ⟨rfl, g2⟩
  have B2 := hid (B1.out.trans (g2.mono B1.out.size))
  clear g2
  go_wp2_with fail
  go_at_call 17
  refine (HC.out w2 B2.out).mono ?_
  rintro e w3 ⟨rfl, g3⟩
  have B3 := hid (B2.out.trans (g3.mono B2.out.size))
  clear g3
  go_wp2_with (go_at_call 27; refine (HP.out w3 B3.out).mono ?_; rintro e w4 ⟨rfl, b⟩; have B4 := hid (B3.out.trans (b.mono B3.out.size)); clear b)
  go_ret
  exact ⟨rfl, B4.out⟩
set_option maxHeartbeats 4000000 in
set_option maxRecDepth 100000 in
theorem back_arg (f : Fo) (w : World) (K : Nat → Prop) (A : Option Addr) (n c : Nat) (hL : LaidW w) (ht : TrS w K A n f) (hK : ∀ k, K k → k < w.heap.size) (hfew : (fewH f.len 12 && f.fewE 12) = true) (hm : ¬ 2500 < IntKind.i64.wrap (f.count : Nat)) (he : prE f = 1) (hc : chkE f = 1) :
    Calls Tryz.prog 8 #[.slice A n c] w fun e w' => e = .returned (.bool true) ∧ Below w.heap.size w w' := by
  have HV := hid (live16_any w hL)
  have HF := hid (fun w1 (hb : Below w.heap.size w w1) => by have := rfew_any f w1 K A n c 12 (ht.below hb) (by decide) (by decide); rwa [hfew] at this)
  obtain ⟨hokL, hokS, hokN, hdep⟩ := few_ok hfew
  have HC := hid (fun w1 (hb : Below w.heap.size w w1) => rcount2_any f w1 K A n c (ht.below hb) hokL)
  have HP := hid (fun w1 (hb : Below w.heap.size w w1) => print_any f w1 K A n c (hL.below hb) (ht.below hb) (fun k hk => Nat.lt_of_lt_of_le (hK k hk) hb.size) (chk2_at (ht.below hb) hokS hokL hdep))
  have HK2 := hid (fun w1 (hb : Below w.heap.size w w1) => check2_any f w1 K A n c (ht.below hb) hokS hokL (by omega))
  rw [he, prT_no (by omega)] at HP
  rw [show bA [] = ⟨#[]⟩ from rfl] at HP
  rw [hc] at HK2
  generalize IntKind.i64.wrap ((f.count : Nat) : Int) = m at *
  clear hL ht hK hfew hokL hokS hokN hdep he hc
  go_enter Tryz.func8, Tryz.ntmps8
  go_wp2_with (go_at_call 26; refine HV.out.mono ?_; rintro e w1 ⟨rfl, g1⟩; have B1 := hid g1; clear g1)
  go_at_call 16
  refine (HF.out w1 B1.out).mono ?_
  rintro e w2 ⟨rfl, g2⟩
  have B2 := hid (B1.out.trans (g2.mono B1.out.size))
  clear g2
  go_wp2_with fail
  go_at_call 17
  refine (HC.out w2 B2.out).mono ?_
  rintro e w3 ⟨rfl, g3⟩
  have B3 := hid (B2.out.trans (g3.mono B2.out.size))
  clear g3
  go_wp2_with (go_at_call 27; refine (HP.out w3 B3.out).mono ?_; rintro e w4 ⟨rfl, b⟩; have B4 := hid (B3.out.trans (b.mono B3.out.size)); clear b)
  go_at_call 20
  refine (HK2.out w4 B4.out).mono ?_
  rintro e w5 ⟨rfl, b⟩
  have B5 := hid (B4.out.trans (b.mono B4.out.size))
  clear b
  go_wp2_with fail
  go_ret
  exact ⟨rfl, B5.out⟩
set_option maxHeartbeats 4000000 in
set_option maxRecDepth 100000 in
theorem back_ok (f : Fo) (w : World) (K : Nat → Prop) (A : Option Addr) (n c : Nat) (hL : LaidW w) (ht : TrS w K A n f) (hK : ∀ k, K k → k < w.heap.size) (hfew : (fewH f.len 12 && f.fewE 12) = true) (hm : ¬ 2500 < IntKind.i64.wrap (f.count : Nat)) (he : prE f = 0) :
    Calls Tryz.prog 8 #[.slice A n c] w fun e w' => e = .returned (.bool true) ∧ Below w.heap.size w w' := by
  have HV := hid (live16_any w hL)
  have HF := hid (fun w1 (hb : Below w.heap.size w w1) => by have := rfew_any f w1 K A n c 12 (ht.below hb) (by decide) (by decide); rwa [hfew] at this)
  obtain ⟨hokL, hokS, hokN, hdep⟩ := few_ok hfew
  have HC := hid (fun w1 (hb : Below w.heap.size w w1) => rcount2_any f w1 K A n c (ht.below hb) hokL)
  have HP := hid (fun w1 (hb : Below w.heap.size w w1) => print_any f w1 K A n c (hL.below hb) (ht.below hb) (fun k hk => Nat.lt_of_lt_of_le (hK k hk) hb.size) (chk2_at (ht.below hb) hokS hokL hdep))
  have HK2 := hid (fun w1 (hb : Below w.heap.size w w1) => check2_any f w1 K A n c (ht.below hb) hokS hokL (by omega))
  obtain ⟨hok, hcn, hl, hT⟩ := prE_ok he
  rw [he, hT] at HP
  have hpt := text_par hok hcn hl
  have HPA := hid (fun w1 (hb : Below w.heap.size w w1) => by have := parse_any (bA (f.text [])) w1 (hL.below hb) (by rw [bA_size]; omega); rwa [show parF (bA (f.text [])).data.toList = .ok f from hpt] at this)
  have HI := hid (fun w1 (hb : Below w.heap.size w w1) => by have := is_any (bA (f.text [])) w1 (hL.below hb) (by rw [bA_size]; omega); rwa [text_is he] at this)
  have HSE := hid (fun wx K2 A2 n2 c2 (t2 : TrS wx K2 A2 n2 f) (hb : Below w.heap.size w wx) => by have := psame_any f f wx K2 K A2 A n2 c2 n c t2 (ht.below hb) (by omega) (by omega) hokN hokN; rwa [decide_eq_true (rfl : f = f)] at this)
  generalize IntKind.i64.wrap ((f.count : Nat) : Int) = m at *
  generalize bA (f.text []) = z at *
  clear hL ht hK hfew hokL hokS hokN hdep he hok hcn hl hT hpt
  go_enter Tryz.func8, Tryz.ntmps8
  go_wp2_with (go_at_call 26; refine HV.out.mono ?_; rintro e w1 ⟨rfl, g1⟩; have B1 := hid g1; clear g1)
  go_at_call 16
  refine (HF.out w1 B1.out).mono ?_
  rintro e w2 ⟨rfl, g2⟩
  have B2 := hid (B1.out.trans (g2.mono B1.out.size))
  clear g2
  go_wp2_with fail
  go_at_call 17
  refine (HC.out w2 B2.out).mono ?_
  rintro e w3 ⟨rfl, g3⟩
  have B3 := hid (B2.out.trans (g3.mono B2.out.size))
  clear g3
  go_wp2_with (first
    | (go_at_call 34; refine (HI.out w8 B8.out).mono ?_; rintro e w9 ⟨rfl, b⟩; have B9 := hid (B8.out.trans (b.mono B8.out.size)); clear b)
    | (go_at_call 25; refine (HSE.out w7 _ A5 n5 c5 (T5.out.below J7.out) B7.out).mono ?_; rintro e w8 ⟨rfl, b⟩; have B8 := hid (B7.out.trans (b.mono B7.out.size)); clear b)
    | (refine Sh.wp_sv plS (x := ⟨0, 0⟩) rfl (.tmp 7) (.tmp 44) rfl rfl (by rfl) q6 ?_; intro w7 q b o s; have J7 := hid (J6.out.trans (b.mono (Nat.le_refl _))); have B7 := hid (B5.out.trans (J7.out.mono B5.out.size)); clear q b o s q6)
    | (refine Sh.wp_al plS rfl rfl ?_; intro w6 q6 b s; have J6 := hid b; clear b s)
    | (go_at_call 13; refine (HPA.out w4 B4.out).mono ?_; rintro e w5 ⟨b, A5, n5, c5, rfl, tr⟩; have B5 := hid (B4.out.trans (b.mono B4.out.size)); have T5 := hid tr; clear b tr)
    | (go_at_call 27; refine (HP.out w3 B3.out).mono ?_; rintro e w4 ⟨rfl, b⟩; have B4 := hid (B3.out.trans (b.mono B3.out.size)); clear b))
  go_ret
  exact ⟨rfl, B9.out⟩
theorem back_any (f : Fo) (w : World) (K : Nat → Prop) (A : Option Addr) (n c : Nat) (hL : LaidW w) (ht : TrS w K A n f) (hK : ∀ k, K k → k < w.heap.size) :
    Calls Tryz.prog 8 #[.slice A n c] w fun e w' => e = .returned (.bool true) ∧ Below w.heap.size w w' := by
  cases hfew : (fewH f.len 12 && f.fewE 12) with
  | false => exact back_few f w K A n c hL ht hfew
  | true =>
    by_cases hm : 2500 < IntKind.i64.wrap (f.count : Nat)
    · exact back_many f w K A n c hL ht hfew hm
    · rcases prE_3 f with he | he | ⟨he, hc⟩
      · exact back_ok f w K A n c hL ht hK hfew hm he
      · exact back_long f w K A n c hL ht hK hfew hm he
      · exact back_arg f w K A n c hL ht hK hfew hm he hc
theorem back_row (A : Option Addr) (n c : Nat) (f : Fo) (w : World) (hL : LaidW w) (ht : TrS w (fun b => b < w.heap.size) A n f) (_ : n ≤ 9223372036854775807) :
    Calls Tryz.prog 8 #[.slice A n c] w fun e w' => e = .returned (.bool true) ∧ Below w.heap.size w w' := back_any f w _ A n c hL ht (fun _ h => h)
end Go.Proofs.YtkfnkieljcipnaaGreatDoor
