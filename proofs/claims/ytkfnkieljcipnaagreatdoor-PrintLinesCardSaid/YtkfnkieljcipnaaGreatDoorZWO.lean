/-
  Contract of the document's own Count at forests of any size, each level of which has at most a million statements: what is told is the count modulo 2^64.
-/
import Derived.Test.YtkfnkieljcipnaaGreatDoorZWN
import Derived.IntWalk
namespace Go.Proofs.YtkfnkieljcipnaaGreatDoor
open Go Go.RowKit Go.Joins

def Count2Said (f : Fo) : Prop := ∀ (w : World) (K : Nat → Prop) (A : Option Addr) (n c : Nat), TrS w K A n f → f.okL → Calls Tryz.prog 17 #[.slice A n c] w fun e w' => e = .returned (.int .i64 (IntKind.i64.wrap (f.count : Nat))) ∧ Below w.heap.size w w'
set_option maxRecDepth 100000 in
theorem wrap_add2 (a b : Nat) : IntKind.i64.wrap (IntKind.i64.wrap (a : Nat) + IntKind.i64.wrap (b : Nat)) = IntKind.i64.wrap ((a + b : Nat) : Int) := by
  simp only [IntKind.wrap_i64]
  omega
set_option maxRecDepth 100000 in
theorem rcount2_step (f : Fo) (hf : f.Bodies (Count2Said)) : Count2Said f := by
  intro w K A n c ht hc
  obtain ⟨xs, hx, htr⟩ := ht
  have HX := hid hx
  have HL := hid (show f.len = n by rw [← htr.len, hx.1])
  have HC := hid hc
  have HB := hid hf
  have HT := hid htr
  have hn : (n : Int) ≤ 1000000 := by have := HC.out.1; have := HL.out; omega
  clear hx hc hf htr
  go_enter Tryz.func17, Tryz.ntmps17
  go_wp2
  go_loopw [3, 10] (fun v3 v10 wr => ∃ (i m : Nat) (r : Fo), v3 = .int .i64 (IntKind.i64.wrap (m : Nat)) ∧ v10 = .int .i64 (i : Nat) ∧ i ≤ n ∧ m + r.nest = f.count ∧ r.okB ∧ r.Bodies (Count2Said) ∧ Tr w K r (xs.drop i) ∧ Below w.heap.size w wr) (fun _ v10 _ => n - (intOf v10).toNat)
  case atStart => exact ⟨0, n, f, by rw [IntWalk.i64_in _ (by omega)], rfl, Nat.zero_le _, by rw [f.count_nest, HL.out], HC.out.2, HB.out, by simpa using HT.out, Below.refl _ _⟩
  case round =>
    obtain ⟨i, m, r, rfl, rfl, hi, hm, hob, hbo, htr, hbel⟩ := hrel
    have HO := hid hob
    clear hob
    have BW := hid hbel
    have HM := hid hm
    by_cases hlt : i < n
    · obtain ⟨wd, ns, bl, y, nx, rfl, _, _, _, hy, hnx⟩ := htr.step (by rw [HX.out.1]; exact hlt)
      obtain ⟨b, o, rfl, hb, hcell⟩ := (HX.out.size.below hbel).at_ hlt
      generalize hxe : smS.nth xs i = x at *
      clear hxe
      have r1 : wr.rangeAt b (o + i * 4) (smS.enc x) := hcell
      have HY := hid hbo.1
      have HN := hid (And.intro hbo.2 hnx)
      have HYT := hid hy
      clear hcell hbel hm hbo htr hy hnx hb
      go_wp2_with (first
        | (go_at_call 17; have h9 := HY.out w3 K x.bA x.bn x.bc (HYT.out.below B3.out) HO.out.1; (with_reducible refine h9.mono ?_); rintro e w4 ⟨rfl, b4⟩; have B4 := hid (B3.out.trans (b4.mono B3.out.size)); clear b4)
        | (refine Sh.wp_sv smS (x := x) rfl (.tmp 5) (.tmp 13) rfl rfl (by rfl) q2 ?_; intro w3 q3 b3 o3 s3; have c3 : w3.cell? ⟨wr.heap.size, 3, none⟩ = some (.slice x.bA x.bn x.bc) := q3.cell (j := 3) rfl; have B3 := hid (BW.out.trans ((B2.out.trans (b3.mono (Nat.le_refl _))).mono BW.out.size)); clear q3 b3 o3 s3)
        | (refine Sh.wp_al smS rfl rfl ?_; intro w2 q2 b2 s2; have B2 := hid b2; clear b2 s2)
        | (refine Sh.wp_ld smS rfl (.tmp 12) rfl rfl r1 ?_))
      go_roundw
      case rel => exact ⟨i + 1, m + y.count, nx, congrArg (Value.int .i64) (by have := wrap_add2 m y.count; simpa only [IntWalk.i64_left] using this), by go_num, by omega, by have := HM.out; simp only [Fo.nest] at this; omega, HO.out.2, HN.out.1, HN.out.2, B4.out⟩
      case measure => simp [intOf]; omega
    · obtain rfl : i = n := by omega
      have hr := htr.done (by rw [HX.out.1]; exact Nat.le_refl _)
      subst hr
      have hm2 : m = f.count := by simpa [Fo.nest] using hm
      clear hm hbo htr hbel
      have HM2 := hid hm2
      clear hm2
      go_wp2
      go_ret
      exact ⟨by rw [← HM2.out]; rfl, BW.out⟩
theorem rcount2_any (f : Fo) : Count2Said f := (Fo.ind rcount2_step f).1
end Go.Proofs.YtkfnkieljcipnaaGreatDoor
