/-
  medium.Launch onto nothing.
-/
import Derived.Test.YtjmkhhmibkiijaaM
namespace Go.Proofs.Ytjmkhhmibkiijaa
open Go Go.RowKit

set_option maxRecDepth 100000 in
set_option maxHeartbeats 4000000 in
theorem launch_ok0 (A : Option Addr) (c B : Nat) (x : Ar) (w : World) (hx : Row w B x.A x.n (bv x.b)) (hB : B ≤ w.heap.size) (h2 : okA [x] = true) :
    Calls Try.prog 15 #[.slice A 0 c, itv x] w (RetLE w 1 (lauP [] x)) := by
  have HX := hid hx
  have HXN : Hid (x.n ≤ 64) := hid (may_n (by rw [← okA_one]; exact h2))
  have HK1 : Hid (∀ w', Below w.heap.size w w' → Calls Try.prog 17 #[.slice A 0 c] w' fun e w'' => e = .returned (.int .i64 (okE [])) ∧ Below w'.heap.size w' w'') :=
    hid fun w' hb => check_any A 0 c B [] w' (Rw.nil _ _ _) (Nat.le_trans hB hb.size) (by omega)
  have HK2 : Hid (∀ w' : World, Calls Try.prog 17 #[.slice (some ⟨w'.heap.size, 0, none⟩) 1 1] (w'.alloc (.cells (enc x).toArray 25)) fun e w'' => e = .returned (.int .i64 (okE [x])) ∧ Below w'.heap.size w' w'') :=
    hid fun w' => (check_any _ 1 1 (w'.heap.size + 1) [x] _ (row_one w' x) (by simp) (by omega)).mono fun e w'' ⟨he, hb⟩ => ⟨he, ((Below.refl _ _).alloc (Nat.le_refl _) _).trans (hb.mono (by simp))⟩
  rw [okE_one rfl] at HK1
  rw [okE_one h2] at HK2
  clear h2 hx
  go_enter Try.func15, Try.ntmps15
  go_wp2_with (first
      | (go_at_call 17; refine (HK2.out w3).mono ?_; rintro e w4 ⟨rfl, b4⟩; have B4 : Hid (Below w.heap.size w w4) := hid (B3.out.trans (b4.mono B3.out.size)); have v4 := v3.below b4 v3.lt; have V4 := hid v4; clear v3 v4)
      | (refine wpList_bs (x := x) rfl (.tmp 13) rfl rfl ?_)
      | (refine wpList_lda (x := x) rfl (.tmp 3) rfl rfl v3 ?_)
      | (go_at_call 17; refine (HK1.out w1 b1).mono ?_; rintro e w3 ⟨rfl, b3⟩; have B3 : Hid (Below w.heap.size w w3) := hid (b1.trans (b3.mono b1.size)); have v3 := v1.below b3 v1.lt)
      | (refine wpList_boxa (x := x) rfl (.tmp 1) rfl rfl ?_; intro w1 v1 b1 s1))
  refine wp_region_quiet_lit (by kernel_rfl) (by kernel_rfl) (WQ.out ?_)
  repeat (refine WQ.step (fun K hK => ?_); go_simp; refine hK _ ?_; clear hK K)
  refine WQ.nil ?_
  intro _ hw'
  obtain ⟨nq, hw''⟩ := hw'
  subst hw''
  have B5 : Hid (Below w.heap.size w (w4.drewN nq)) := hid (bel_drewN B4.out nq)
  have V5 : Hid (VarA (w4.drewN nq) w.heap.size x) := V4
  generalize w4.drewN nq = w5 at *
  obtain ⟨g, hgg⟩ : ∃ g, g = w.heap.size := ⟨_, rfl⟩
  obtain ⟨base, hbb⟩ : ∃ base, base = w5.heap.size := ⟨_, rfl⟩
  have hgb : g < base := by rw [hgg, hbb]; exact V5.out.lt
  have hwg : w.heap.size ≤ g := by omega
  have hwb : w.heap.size ≤ base := by omega
  rw [← hgg] at V5 ⊢
  have HGG := hid hgg
  have HB5 := hid hbb
  clear hgg hbb V4 B4 HK1 HK2
  go_wp2_with (refine wpList_mk0 rfl (.const (.int .i64 0)) (.tmp 38) rfl _ 1 rfl rfl (by rfl) (by omega) base (by have := HB5.out; omega) ?_; intro w6 own6 b6)
  have B6 : Hid (Below w.heap.size w w6) := hid (B5.out.trans (b6.mono B5.out.size))
  have V6 : Hid (VarA w6 g x) := hid (V5.out.below b6 V5.out.lt)
  have W6 := hid own6
  have HS6 : Hid (base ≤ w6.heap.size) := hid (by have := b6.size; have := HB5.out; omega)
  clear own6 b6 V5 B5
  go_loopw [6, 42] (LauRel w g base [] x) (fun _ t _ => 0 - (intOf t).toNat)
  case atStart => exact ⟨0, _, _, [], rfl, by omega, rfl, W6.out, El.nil _ _, by rw [bads_zero]; exact V6.out, B6.out, HS6.out, fun i h => by omega⟩
  case round =>
    obtain ⟨k, c1, A1, l, rfl, hk, rfl, own, el, vx, hbel, hbase, hat⟩ := hrel
    have HB := hid hbel
    have HO := hid hat
    have HK := hid hk
    have HW := hid own
    have HE := hid el
    have HV := hid vx
    have HBB := hid hbase
    have HLL := hid own.len
    clear hbel hat hk own el vx hbase
    obtain rfl : k = 0 := Nat.le_zero.1 HK.out
    have HRX : Hid (Row wr B x.A x.n (bv x.b)) := hid (HX.out.below (HB.out.mono hB))
    have HLE : Hid (∀ (A : Option Addr) (c : Nat), lauP [] x (l ++ [{ x with A := A, c := c, bad := bads [] x 0 }])) := hid fun A c => by
      have h1 := HO.out
      exact lau_end (xs := []) h1 HLL.out
    generalize bads [] x 0 = X at *
    go_wp2_with (first
      | (at_builtin; refine wpList_push rfl (.tmp 58) (.tmp 61) rfl (base := base) (l := l) (x := { x with A := A4, c := c4, bad := X }) rfl (HW.out.below b4) rfl (by omega) (Nat.le_trans HBB.out b4.size) ?_; intro A5 c5 w5 own5 b5 k5)
      | (refine wpList_bs (x := { x with A := A4, c := c4, bad := X }) rfl (.tmp 60) rfl rfl ?_)
      | (go_at_call 29; refine (own_any { x with bad := X } B wr HRX.out (Nat.le_trans hB HB.out.size) (by have := HXN.out; show x.n ≤ 10000000; omega)).mono ?_; rintro e w4 ⟨A4, c4, rfl, new4, b4⟩)
      | (refine wpList_lda (x := { x with bad := X }) rfl (.tmp 3) rfl rfl HV.out ?_))
    go_ret2
    exact ⟨A5, c5, _, rfl, HLE.out A4 c4, own5.base_le hwb, (El.app (fun z hz => k5 _ _ _ _ _ ((HE.out.below b4) z hz)) (El.one (k5 _ _ _ _ _ (new4.base_le HBB.out)))).base_le hwb, (HB.out.trans (b4.mono HB.out.size)).trans (b5.mono hwb)⟩
end Go.Proofs.Ytjmkhhmibkiijaa
