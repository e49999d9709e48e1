/-
  The chapter's example (palletlaw17.live) is true; what palletlaw17.few tells; under: the tables hold what the program lays (LaidW, LaidC).
-/
import Derived.Test.YtpkoboohnbkpoaaGreatDoorJVB
import Derived.Test.YtpkoboohnbkpoaaGreatDoorK9
namespace Go.Proofs.YtpkoboohnbkpoaaGreatDoor
open Go Go.RowKit Go.Maps

def liveT : List UInt8 := [110, 111, 100, 101, 115, 32, 52, 59, 32, 116, 105, 99, 107, 32, 49, 110, 115, 59, 32, 115, 108, 111, 116, 32, 49, 48, 48, 32, 50, 48, 32, 51, 48, 32, 49, 48, 59, 32, 104, 111, 114, 105, 122, 111, 110, 32, 49, 109, 115, 59]
def liveQ : Fo := .cons wNodes [(4, false)] false .nil (.cons wTick [(1000, true)] false .nil (.cons wSlot [(100, false), (20, false), (30, false), (10, false)] false .nil (.cons wHorizon [(1000000000, true)] false .nil .nil)))
theorem live_par17 : parF liveT = .ok liveQ := by
  rw [parN_eq 50 _ (by decide)]
  decide +kernel
theorem live_okS : liveQ.okS := by simp [liveQ, Fo.okS, wNodes, wTick, wSlot, wHorizon]
def liveC : Cf := ⟨4, 100, 20, 30, 10, 1000, 1000000000, [0, 0, 0, 0], [0, 0, 0, 0], [[0, 0, 0, 0], [0, 0, 0, 0], [0, 0, 0, 0], [0, 0, 0, 0]], false⟩
theorem live_chk : chkF liveQ = (0, 0) := by decide +kernel
theorem live_conf : confF liveQ = liveC := by decide +kernel
theorem nil_chk : chkF .nil = (0, 8) := by decide +kernel
theorem chkAt_of {f : Fo} {w : World} {K : Nat → Prop} {A : Option Addr} {n c : Nat} (ht : TrS w K A n f) (hok : f.okS) (hc : f.count ≤ 2305843009213693000) : ChkAt f (.slice A n c) w := fun w1 hb => check_any f w1 K A n c (ht.below hb) hok hc
set_option maxRecDepth 100000 in
set_option maxHeartbeats 1000000 in
theorem live17_any (w : World) (hL : LaidW w) (hC : LaidC w) : Calls Tryz.prog 21 #[] w fun e w' => e = .returned (.bool true) ∧ Below w.heap.size w w' := by
  have HP := parse_any ⟨#[110, 111, 100, 101, 115, 32, 52, 59, 32, 116, 105, 99, 107, 32, 49, 110, 115, 59, 32, 115, 108, 111, 116, 32, 49, 48, 48, 32, 50, 48, 32, 51, 48, 32, 49, 48, 59, 32, 104, 111, 114, 105, 122, 111, 110, 32, 49, 109, 115, 59]⟩ w hL (by decide)
  rw [show parF (⟨#[110, 111, 100, 101, 115, 32, 52, 59, 32, 116, 105, 99, 107, 32, 49, 110, 115, 59, 32, 115, 108, 111, 116, 32, 49, 48, 48, 32, 50, 48, 32, 51, 48, 32, 49, 48, 59, 32, 104, 111, 114, 105, 122, 111, 110, 32, 49, 109, 115, 59]⟩ : ByteArray).data.toList = .ok liveQ from live_par17] at HP
  have HP := hid HP
  have HC := hid (fun w' (hb : Below w.heap.size w w') (K : Nat → Prop) A n c (ht : TrS w' K A n liveQ) (hK : ∀ k, K k → k < w'.heap.size) => conf_any liveQ w' K A n c (hC.below hb) ht hK (chkAt_of ht live_okS (by decide)))
  have HN := hid (fun w' (hb : Below w.heap.size w w') => chkc_any .nil w' (fun _ => False) none 0 0 (hC.below hb) TrS.nil (fun k hk => hk.elim) (chkAt_of (K := fun _ => False) TrS.nil trivial (by decide)))
  simp only [live_chk, live_conf] at HC
  simp only [nil_chk] at HN
  clear hL hC
  go_enter Tryz.func21, Tryz.ntmps21
  go_wp2_with fail
  refine HP.out.mono ?_
  rintro e w1 ⟨b1, A, n, c, rfl, ht⟩
  have T1 := hid ht
  have B1 := hid b1
  clear ht b1
  unfold plV
  have plz : ∀ w' : World, Sh.val plS ⟨0, 0⟩ = .agg #[.int .i64 0, .int .i64 0] := fun _ => rfl
  clear plz
  go_wp2_with (first
    | (go_at_call 25; refine (HN.out w5 B5.out).mono ?_; rintro e w6 ⟨rfl, b6⟩; have q6 := Q5.out.keep b6; have x0 : w6.cell? ⟨w4.heap.size, 0, none⟩ = some (.int .i64 4) := q6.cell (j := 0) rfl; have x5 : w6.cell? ⟨w4.heap.size, 5, none⟩ = some (.int .i64 1000) := q6.cell (j := 5) rfl; have x6 : w6.cell? ⟨w4.heap.size, 6, none⟩ = some (.int .i64 1000000000) := q6.cell (j := 6) rfl; have x9 : w6.cell? ⟨w4.heap.size, 9, none⟩ = some (.slice lA 4 lc) := q6.cell (j := 9) rfl; have B6 := hid (B5.out.trans (b6.mono B5.out.size)); clear b6 q6)
    | (refine Sv.wp_sv cfS (x := (liveC, ⟨dA, dn, dc, pA, pn, pc, lA, 4, lc⟩)) rfl (.tmp 4) (.tmp 17) rfl rfl (by rfl) Q8.out ?_; intro w5 q5 b5 o5 s5; have Q5 := hid q5; have B5 := hid (B4.out.trans ((B48.out.trans (b5.mono (Nat.le_refl _))).mono B4.out.size)); clear q5 b5 o5 s5)
    | (have hk := B4; clear hk; refine Sv.wp_al cfS rfl rfl ?_; intro w8 q8 b8 s8; have Q8 := hid q8; have B48 := hid b8; have B8 := hid (B4.out.trans (b8.mono B4.out.size)); clear q8 b8 s8)
    | (go_at_call 27; refine (HC.out w3 B3.out _ _ _ _ (T1.out.below B13.out) (fun k hk => Nat.lt_of_lt_of_le hk.2 B13.out.size)).mono ?_; rintro e w4 ⟨s, rfl, cm, b4⟩; obtain ⟨dA, dn, dc, pA, pn, pc, lA, ln, lc⟩ := s; obtain rfl : ln = 4 := by { obtain ⟨rs, h1, h2, _⟩ := cm.l; simp [liveC] at h2; omega }; have B4 := hid (B3.out.trans (b4.mono B3.out.size)); clear b4 cm)
    | (refine Sh.wp_sv plS (x := ⟨0, 0⟩) rfl (.tmp 2) (.tmp 12) rfl rfl (by rfl) q2 ?_; intro w3 q3 b3 o3 s3; have B13 := hid (B12.out.trans (b3.mono (Nat.le_refl _))); have B3 := hid (B1.out.trans (B13.out.mono B1.out.size)); clear q2 q3 b3 o3 s3)
    | (refine Sh.wp_al plS rfl rfl ?_; intro w2 q2 b2 s2; have B12 := hid b2; clear b2 s2))
  go_ret
  exact ⟨rfl, B6.out⟩
/-- few enough to be played -/
def fw17 (f : Fo) : Bool := (fewH f.len 12 && f.fewE 12) && decide (IntKind.i64.wrap (f.count : Nat) ≤ 400)
theorem few17_any (f : Fo) (w : World) (K : Nat → Prop) (A : Option Addr) (n c : Nat) (ht : TrS w K A n f) :
    Calls Tryz.prog 22 #[.slice A n c] w fun e w' => e = .returned (.bool (fw17 f)) ∧ Below w.heap.size w w' := by
  have HF := hid (fun w1 (hb : Below w.heap.size w w1) => rfew_any f w1 K A n c 12 (ht.below hb) (by decide) (by decide))
  have HV := hid (show fw17 f = ((fewH f.len 12 && f.fewE 12) && decide (IntKind.i64.wrap (f.count : Nat) ≤ 400)) from rfl)
  generalize fw17 f = R at *
  cases hfew : (fewH f.len 12 && f.fewE 12) with
  | false =>
    have HR := hid (show R = false by rw [HV.out, hfew]; rfl)
    rw [hfew] at HF
    clear HV hfew ht
    go_enter Tryz.func22, Tryz.ntmps22
    go_wp2_with (first
      | (go_at_call 49; refine (HF.out w (Below.refl _ _)).mono ?_; rintro e w2 ⟨rfl, g2⟩; have B2 := hid g2; clear g2))
    go_ret
    exact ⟨ret_bool HR.out.symm, B2.out⟩
  | true =>
    obtain ⟨hokL, _, _, _⟩ := few_ok hfew
    have HC := hid (fun w1 (hb : Below w.heap.size w w1) => rcount2_any f w1 K A n c (ht.below hb) hokL)
    rw [hfew] at HF HV
    generalize IntKind.i64.wrap ((f.count : Nat) : Int) = m at *
    clear hfew ht hokL
    go_enter Tryz.func22, Tryz.ntmps22
    go_wp2_with (first
      | (go_at_call 50; refine (HC.out w2 B2.out).mono ?_; rintro e w3 ⟨rfl, g3⟩; have B3 := hid (B2.out.trans (g3.mono B2.out.size)); clear g3)
      | (go_at_call 49; refine (HF.out w (Below.refl _ _)).mono ?_; rintro e w2 ⟨rfl, g2⟩; have B2 := hid g2; clear g2))
    all_goals
      go_ret
      exact ⟨ret_bool (by rw [HV.out]; first | (simp; done) | (simp; omega) | (simp_all; done)), B3.out⟩
end Go.Proofs.YtpkoboohnbkpoaaGreatDoor
