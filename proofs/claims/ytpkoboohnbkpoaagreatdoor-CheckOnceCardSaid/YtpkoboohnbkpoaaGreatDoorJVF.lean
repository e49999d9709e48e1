/-
  Walk of palletlaw17.CheckOnce: its early ways. Under: the tables hold what the program lays (LaidW, LaidC).
-/
import Derived.Test.YtpkoboohnbkpoaaGreatDoorJVE
namespace Go.Proofs.YtpkoboohnbkpoaaGreatDoor
open Go Go.RowKit Go.Maps

def OnceSaid (w : World) (A : Option Addr) (n c : Nat) (k : Int) : Prop := Calls Tryz.prog 9 #[.slice A n c, .int .i64 k] w fun e w' => e = .returned (.bool true) ∧ Below w.heap.size w w'
set_option maxRecDepth 100000 in
set_option maxHeartbeats 1000000 in
theorem once_early (f : Fo) (w : World) (K : Nat → Prop) (A : Option Addr) (n c : Nat) (k : Int) (hL : LaidW w) (hC : LaidC w) (ht : TrS w K A n f) (he : fw17 f = false ∨ n = 0) : OnceSaid w A n c k := by
  unfold OnceSaid
  have HV := hid (live17_any w hL hC)
  have HF := hid (fun w1 (hb : Below w.heap.size w w1) => few17_any f w1 K A n c (ht.below hb))
  cases hq : fw17 f with
  | false =>
    rw [hq] at HF
    clear hL hC ht he hq
    go_enter Tryz.func9, Tryz.ntmps9
    go_wp2_with (first
      | (go_at_call 22; refine (HF.out w1 B1.out).mono ?_; rintro e w2 ⟨rfl, g2⟩; have B2 := hid (B1.out.trans (g2.mono B1.out.size)); clear g2)
      | (go_at_call 21; refine HV.out.mono ?_; rintro e w1 ⟨rfl, g1⟩; have B1 := hid g1; clear g1))
    go_ret
    exact ⟨rfl, B2.out⟩
  | true =>
    obtain rfl : n = 0 := he.resolve_left (by rw [hq]; simp)
    rw [hq] at HF
    clear hL hC ht he hq
    go_enter Tryz.func9, Tryz.ntmps9
    go_wp2_with (first
      | (go_at_call 22; refine (HF.out w1 B1.out).mono ?_; rintro e w2 ⟨rfl, g2⟩; have B2 := hid (B1.out.trans (g2.mono B1.out.size)); clear g2)
      | (go_at_call 21; refine HV.out.mono ?_; rintro e w1 ⟨rfl, g1⟩; have B1 := hid g1; clear g1))
    go_ret
    exact ⟨rfl, B2.out⟩
theorem fw17_few {f : Fo} (h : fw17 f = true) : (fewH f.len 12 && f.fewE 12) = true ∧ IntKind.i64.wrap (f.count : Nat) ≤ 400 := by
  unfold fw17 at h
  simp only [Bool.and_eq_true, decide_eq_true_eq] at h
  exact ⟨by simp [h.1.1, h.1.2], h.2⟩
theorem fw17_chk {f : Fo} {w : World} {K : Nat → Prop} {A : Option Addr} {n c : Nat} (h : fw17 f = true) (ht : TrS w K A n f) : ChkAt f (.slice A n c) w := by
  obtain ⟨h1, h2, _, h4⟩ := few_ok (fw17_few h).1
  exact fun w1 hb => check2_any f w1 K A n c (ht.below hb) h2 h1 (by omega)
set_option maxRecDepth 100000 in
set_option maxHeartbeats 1000000 in
theorem once_bad (f : Fo) (w : World) (K : Nat → Prop) (A : Option Addr) (n c : Nat) (k : Int) (hL : LaidW w) (hC : LaidC w) (ht : TrS w K A n f) (hK : ∀ k, K k → k < w.heap.size) (hfw : fw17 f = true) (hn : 0 < n) (he : (chkF f).2 ≠ 0) : OnceSaid w A n c k := by
  unfold OnceSaid
  have HV := hid (live17_any w hL hC)
  have HF := hid (fun w1 (hb : Below w.heap.size w w1) => few17_any f w1 K A n c (ht.below hb))
  have HC := hid (fun w1 (hb : Below w.heap.size w w1) => chkc_any f w1 K A n c (hC.below hb) (ht.below hb) (fun k hk => Nat.lt_of_lt_of_le (hK k hk) hb.size) (fw17_chk hfw (ht.below hb)))
  rw [hfw] at HF
  have hn1 : ((n : Int) = 0) = False := by simp; omega
  generalize (chkF f).1 = P at *
  generalize (chkF f).2 = E at *
  have he1 : ((E : Int) = 0) = False := by simp; omega
  clear hL hC ht hK hfw
  go_enter Tryz.func9, Tryz.ntmps9
  go_wp2_with (first
    | (go_at_call 25; refine (HC.out w2 B2.out).mono ?_; rintro e w3 ⟨rfl, g3⟩; have B3 := hid (B2.out.trans (g3.mono B2.out.size)); clear g3)
    | (go_at_call 22; refine (HF.out w1 B1.out).mono ?_; rintro e w2 ⟨rfl, g2⟩; have B2 := hid (B1.out.trans (g2.mono B1.out.size)); clear g2)
    | (go_at_call 21; refine HV.out.mono ?_; rintro e w1 ⟨rfl, g1⟩; have B1 := hid g1; clear g1))
  go_ret
  exact ⟨rfl, B3.out⟩
end Go.Proofs.YtpkoboohnbkpoaaGreatDoor
