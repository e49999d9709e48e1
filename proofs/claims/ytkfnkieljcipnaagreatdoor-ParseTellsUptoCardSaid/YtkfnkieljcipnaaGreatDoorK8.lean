/-
  RB: Contracts of parse.room and parse.Check, at every forest of at most 2^61 statements; and when Check answers OK.
  RC: The contract of parse.Check at every forest of at most 2^61 statements; and what is parsed may be: Check answers OK.
  QI: Words for memory: a slice appended whole to one of the call's own; two forests put together so. No condition but what each head says.
  RD: Contracts of slices.Clone at numbers, and words for flatBehind's region.
  RE: Contracts of parse.flatBehind and parse.Flat, at every forest of at most a million statements whose words and numbers are of some size.
  SA: Contract of the document's own Count.
  SC: Contract of the document's own Few.
  WJ: The contract of the document's Same of tokens (palletref14), at every two slices of tokens.
  RG: What the rows' condition on the listed tables gives the walks: they lie in memory as the program lays them (LaidW).
-/
import Derived.Test.YtkfnkieljcipnaaGreatDoorK7
import Derived.Test.YtkfnkieljcipnaaGreatDoorK6
import Derived.Deep.RegionHeld3
import Derived.Test.YtkfnkieljcipnaaGreatDoorK4
import Derived.Deep.QuietTactic
import Derived.BigQuiet
import Derived.Test.YtkfnkieljcipnaaGreatDoorRows
import Derived.Test.YtkfnkieljcipnaaGreatDoorK2
import Derived.ProofKit
import Derived.LaidMore
import Derived.OpenShut
import Derived.Stop.Joined
import Derived.Stop.LaidErr
import Derived.Lib.LaidTab
import Derived.Lib.LaidU8T
import Derived.Below
import Derived.ChangeSame
import Derived.ChangeMaps5
/-! RB -/
namespace Go.Proofs.YtkfnkieljcipnaaGreatDoor
open Go Go.RowKit Go.Joins

/-- words and numbers of statements are of some size -/
def Fo.okS : Fo → Prop
  | nil => True
  | cons wd ns _ y n => wd.length ≤ 1000000 ∧ ns.length ≤ 1000000 ∧ y.okS ∧ n.okS
def RoomSaid (f : Fo) : Prop := ∀ (w : World) (K : Nat → Prop) (A : Option Addr) (n c : Nat) (many deep : Int), TrS w K A n f → f.okS → f.count ≤ 2305843009213693952 → -2305843009213693952 ≤ many → many ≤ 2305843009213693952 → -2305843009213693952 ≤ deep - f.depth → deep ≤ 2305843009213693952 →
  Calls Tryz.prog 44 #[.slice A n c, .int .i64 many, .int .i64 deep] w fun e w' => e = .returned (.int .i64 (f.roomF (many - f.len) deep)) ∧ Below w.heap.size w w'
set_option maxHeartbeats 2000000 in
set_option maxRecDepth 100000 in
theorem room_step (f : Fo) (hf : f.Bodies RoomSaid) : RoomSaid f := by
  intro w K A n c many deep ht hok hc hm1 hm2 hd1 hd2
  have HL := hid (show f.len = n from ht.len.symm)
  obtain ⟨xs, hx, htr⟩ := ht
  have HX := hid hx
  have HC := hid hc
  have HS0 := hid (And.intro hf (And.intro htr hok))
  have hn : (n : Int) ≤ 2305843009213693952 := by have := f.len_le; have := HL.out; omega
  obtain ⟨R, hR⟩ : ∃ R, f.roomF (many - f.len) deep = R := ⟨_, rfl⟩
  rw [hR]
  have HR := hid (show f.roomF (many - n) deep = R by rw [← HL.out]; exact hR)
  have HD := hid hd1
  have hdl : -2305843009213693952 ≤ deep := by have := f.depth; omega
  clear hx hc hf htr hR hok hd1
  go_enter Tryz.func44, Tryz.ntmps44
  go_wp2
  go_loopw [1, 15] (fun v1 v15 wr => ∃ (i : Nat) (m : Int) (r : Fo), v1 = .int .i64 m ∧ v15 = .int .i64 (i : Int) ∧ i ≤ n ∧ r.roomF m deep = R ∧ -4611686018427387904 ≤ m ∧ m ≤ 2305843009213693952 ∧ r.count ≤ f.count ∧ r.depth ≤ f.depth ∧ r.Bodies RoomSaid ∧ Tr w K r (xs.drop i) ∧ r.okS ∧ Below w.heap.size w wr) (fun _ v15 _ => n - (intOf v15).toNat)
  case atStart => exact ⟨0, many - n, f, rfl, rfl, Nat.zero_le _, HR.out, by omega, by omega, Nat.le_refl _, Nat.le_refl _, HS0.out.1, by simpa using HS0.out.2.1, HS0.out.2.2, Below.refl _ _⟩
  case round =>
    obtain ⟨i, m, r, rfl, rfl, hi, hrm, hml, hmu, hrc, hrd, hbo, htr, hok, hbel⟩ := hrel
    have BW := hid hbel
    by_cases hlt : i < n
    · obtain ⟨wd, ns, bl, y, nx, rfl, e1, e2, hns, hy, hnx⟩ := htr.step (by rw [HX.out.1]; exact hlt)
      obtain ⟨b, o, rfl, hb, hcell⟩ := (HX.out.size.below hbel).at_ hlt
      generalize smS.nth xs i = x at *
      obtain ⟨xw, xA, xn, xc, xb, xB, xm, xk⟩ := x
      simp only at e1 e2 hns hy
      subst e1 e2
      have r1 : wr.rangeAt b (o + i * 4) (smS.enc ⟨xw, xA, xn, xc, xb, xB, xm, xk⟩) := hcell
      have HF := hid (fun w3 (b3 : Below w.heap.size w w3) => show Calls Tryz.prog 69 #[.agg #[.string (strB xw), .slice xA xn xc, .bool xb, .slice xB xm xk]] w3 fun e w' => e = .returned (.bool (fitB xw ns xb xm)) ∧ Below w3.heap.size w3 w' from
        fits_any ⟨xw, xA, xn, xc, xb, xB, xm, xk⟩ ns w3 (hns.below b3).size (by have := hns.1; have := hok.2.1; simp only; omega) hok.1 (by have := hy.len; have := y.len_le; have := HC.out; simp only [Fo.count] at hrc; simp only; omega))
      have hyl : y.len = xm := hy.len.symm
      have YL := hid hyl
      have HY := hid hbo.1
      have YT := hid hy
      have HQ := hid (show y.okS ∧ y.count ≤ 2305843009213693952 ∧ -2305843009213693952 ≤ deep - 1 - (y.depth : Int) from ⟨hok.2.2.1, by have := HC.out; simp only [Fo.count] at hrc; omega, by have := HD.out; simp only [Fo.depth] at hrd; omega⟩)
      have NX := hid (show nx.count ≤ f.count ∧ nx.depth ≤ f.depth ∧ nx.Bodies RoomSaid ∧ Tr w K nx (xs.drop (i + 1)) ∧ nx.okS from ⟨by simp only [Fo.count] at hrc; omega, by simp only [Fo.depth] at hrd; omega, hbo.2, hnx, hok.2.2.2⟩)
      rw [Fo.roomF, hyl] at hrm
      have HRM := hid hrm
      have LOW := hid (roomF_low y (m - xm) (deep - 1))
      have TOP := hid (roomF_top y (m - xm) (deep - 1))
      have YC := hid (show (y.nest : Int) + xm ≤ 2305843009213693952 by have := y.count_nest; have := HQ.out.2.1; omega)
      clear hcell hbel hrm hrc hrd hbo htr hok hns hy hnx hb hyl
      by_cases hneg : m < 0
      · have HV := hid (show -1 = R by rw [← HRM.out, if_pos (.inl hneg)])
        clear hml hmu
        go_upto_region 5 with (first
          | (refine Sh.wp_sv smS (x := ⟨xw, xA, xn, xc, xb, xB, xm, xk⟩) rfl (.tmp 8) (.tmp 18) rfl rfl (by rfl) q2 ?_; intro w3 q3 b3 o3 s3; have c0 : w3.cell? ⟨wr.heap.size, 0, none⟩ = some (.string (strB xw)) := q3.cell (j := 0) rfl; have c1 : w3.cell? ⟨wr.heap.size, 1, none⟩ = some (.slice xA xn xc) := q3.cell (j := 1) rfl; have c2 : w3.cell? ⟨wr.heap.size, 2, none⟩ = some (.bool xb) := q3.cell (j := 2) rfl; have c3 : w3.cell? ⟨wr.heap.size, 3, none⟩ = some (.slice xB xm xk) := q3.cell (j := 3) rfl; have V3 := hid q3; have B3 := hid (BW.out.trans ((B2.out.trans (b3.mono (Nat.le_refl _))).mono BW.out.size)); clear q3 b3 o3 s3)
          | (refine Sh.wp_al smS rfl rfl ?_; intro w2 q2 b2 s2; have B2 := hid b2; clear b2 s2)
          | (refine Sh.wp_ld smS rfl (.tmp 17) rfl rfl r1 ?_))
        go_wp2_with fail
        go_ret
        exact ⟨ret_int HV.out, B3.out⟩
      obtain ⟨fb, hfb⟩ : ∃ fb, fitB xw ns xb xm = fb := ⟨_, rfl⟩
      rw [hfb] at HF
      have HFB := hid hfb
      clear hfb
      cases fb with
      | false =>
        have HV := hid (show -1 = R by rw [← HRM.out, if_pos (.inr (.inl HFB.out))])
        go_upto_region 5 with (first
          | (refine Sh.wp_sv smS (x := ⟨xw, xA, xn, xc, xb, xB, xm, xk⟩) rfl (.tmp 8) (.tmp 18) rfl rfl (by rfl) q2 ?_; intro w3 q3 b3 o3 s3; have c0 : w3.cell? ⟨wr.heap.size, 0, none⟩ = some (.string (strB xw)) := q3.cell (j := 0) rfl; have c1 : w3.cell? ⟨wr.heap.size, 1, none⟩ = some (.slice xA xn xc) := q3.cell (j := 1) rfl; have c2 : w3.cell? ⟨wr.heap.size, 2, none⟩ = some (.bool xb) := q3.cell (j := 2) rfl; have c3 : w3.cell? ⟨wr.heap.size, 3, none⟩ = some (.slice xB xm xk) := q3.cell (j := 3) rfl; have V3 := hid q3; have B3 := hid (BW.out.trans ((B2.out.trans (b3.mono (Nat.le_refl _))).mono BW.out.size)); clear q3 b3 o3 s3)
          | (refine Sh.wp_al smS rfl rfl ?_; intro w2 q2 b2 s2; have B2 := hid b2; clear b2 s2)
          | (refine Sh.wp_ld smS rfl (.tmp 17) rfl rfl r1 ?_))
        go_wp2_with (first
          | (go_at_call 69; have h9 := HF.out w3 B3.out; (with_reducible refine h9.mono ?_); rintro e w4 ⟨rfl, b4⟩; have V4 := V3.out.keep b4; have c2 : w4.cell? ⟨wr.heap.size, 2, none⟩ = some (.bool xb) := V4.cell (j := 2) rfl; have c3 : w4.cell? ⟨wr.heap.size, 3, none⟩ = some (.slice xB xm xk) := V4.cell (j := 3) rfl; have B4 := hid (B3.out.trans (b4.mono B3.out.size)); clear b4 V4))
        go_ret
        exact ⟨ret_int HV.out, B4.out⟩
      | true =>
        cases xb with
        | true =>
          by_cases hd : deep = 1
          · have HV := hid (show -1 = R by rw [← HRM.out, if_pos (.inr (.inr ⟨rfl, hd⟩))])
            subst hd
            go_upto_region 5 with (first
              | (refine Sh.wp_sv smS (x := ⟨xw, xA, xn, xc, true, xB, xm, xk⟩) rfl (.tmp 8) (.tmp 18) rfl rfl (by rfl) q2 ?_; intro w3 q3 b3 o3 s3; have c0 : w3.cell? ⟨wr.heap.size, 0, none⟩ = some (.string (strB xw)) := q3.cell (j := 0) rfl; have c1 : w3.cell? ⟨wr.heap.size, 1, none⟩ = some (.slice xA xn xc) := q3.cell (j := 1) rfl; have c2 : w3.cell? ⟨wr.heap.size, 2, none⟩ = some (.bool true) := q3.cell (j := 2) rfl; have c3 : w3.cell? ⟨wr.heap.size, 3, none⟩ = some (.slice xB xm xk) := q3.cell (j := 3) rfl; have V3 := hid q3; have B3 := hid (BW.out.trans ((B2.out.trans (b3.mono (Nat.le_refl _))).mono BW.out.size)); clear q3 b3 o3 s3)
              | (refine Sh.wp_al smS rfl rfl ?_; intro w2 q2 b2 s2; have B2 := hid b2; clear b2 s2)
              | (refine Sh.wp_ld smS rfl (.tmp 17) rfl rfl r1 ?_))
            go_wp2_with (first
              | (go_at_call 69; have h9 := HF.out w3 B3.out; (with_reducible refine h9.mono ?_); rintro e w4 ⟨rfl, b4⟩; have V4 := V3.out.keep b4; have c2 : w4.cell? ⟨wr.heap.size, 2, none⟩ = some (.bool true) := V4.cell (j := 2) rfl; have c3 : w4.cell? ⟨wr.heap.size, 3, none⟩ = some (.slice xB xm xk) := V4.cell (j := 3) rfl; have B4 := hid (B3.out.trans (b4.mono B3.out.size)); clear b4 V4))
            go_ret
            exact ⟨ret_int HV.out, B4.out⟩
          · have hd' : (deep == 1) = false := beq_eq_false_iff_ne.2 hd
            have HV := hid (show nx.roomF (y.roomF (m - xm) (deep - 1)) deep = R by rw [← HRM.out, if_neg (by rintro (h | h | h) <;> first | exact hneg h | (rw [HFB.out] at h; cases h; done) | exact hd h.2)])
            go_upto_region 5 with (first
              | (refine Sh.wp_sv smS (x := ⟨xw, xA, xn, xc, true, xB, xm, xk⟩) rfl (.tmp 8) (.tmp 18) rfl rfl (by rfl) q2 ?_; intro w3 q3 b3 o3 s3; have c0 : w3.cell? ⟨wr.heap.size, 0, none⟩ = some (.string (strB xw)) := q3.cell (j := 0) rfl; have c1 : w3.cell? ⟨wr.heap.size, 1, none⟩ = some (.slice xA xn xc) := q3.cell (j := 1) rfl; have c2 : w3.cell? ⟨wr.heap.size, 2, none⟩ = some (.bool true) := q3.cell (j := 2) rfl; have c3 : w3.cell? ⟨wr.heap.size, 3, none⟩ = some (.slice xB xm xk) := q3.cell (j := 3) rfl; have V3 := hid q3; have B3 := hid (BW.out.trans ((B2.out.trans (b3.mono (Nat.le_refl _))).mono BW.out.size)); clear q3 b3 o3 s3)
              | (refine Sh.wp_al smS rfl rfl ?_; intro w2 q2 b2 s2; have B2 := hid b2; clear b2 s2)
              | (refine Sh.wp_ld smS rfl (.tmp 17) rfl rfl r1 ?_))
            go_wp2_with (first
              | (go_at_call 44; have h9 := HY.out w4 K xB xm xk m (deep - 1) (YT.out.below B4.out) HQ.out.1 HQ.out.2.1 (by omega) (by omega) (by have := HQ.out.2.2; omega) (by omega); (with_reducible refine h9.mono ?_); rintro e w5 ⟨rfl, b5⟩; have B5 := hid (B4.out.trans (b5.mono B4.out.size)); clear b5)
              | (go_at_call 69; have h9 := HF.out w3 B3.out; (with_reducible refine h9.mono ?_); rintro e w4 ⟨rfl, b4⟩; have V4 := V3.out.keep b4; have c2 : w4.cell? ⟨wr.heap.size, 2, none⟩ = some (.bool true) := V4.cell (j := 2) rfl; have c3 : w4.cell? ⟨wr.heap.size, 3, none⟩ = some (.slice xB xm xk) := V4.cell (j := 3) rfl; have B4 := hid (B3.out.trans (b4.mono B3.out.size)); clear b4 V4))
            go_roundw
            case rel => exact ⟨i + 1, y.roomF (m - y.len) (deep - 1), nx, rfl, by go_num, by omega, by rw [YL.out]; exact HV.out, by rw [YL.out]; have := LOW.out; have := YC.out; omega, by rw [YL.out]; have := TOP.out; omega, NX.out.1, NX.out.2.1, NX.out.2.2.1, NX.out.2.2.2.1, NX.out.2.2.2.2, B5.out⟩
            case measure => simp [intOf]; omega
        | false =>
          have HV := hid (show nx.roomF (y.roomF (m - xm) (deep - 1)) deep = R by rw [← HRM.out, if_neg (by rintro (h | h | h) <;> first | exact hneg h | (rw [HFB.out] at h; cases h; done) | exact absurd h.1 (by decide))])
          go_upto_region 5 with (first
            | (refine Sh.wp_sv smS (x := ⟨xw, xA, xn, xc, false, xB, xm, xk⟩) rfl (.tmp 8) (.tmp 18) rfl rfl (by rfl) q2 ?_; intro w3 q3 b3 o3 s3; have c0 : w3.cell? ⟨wr.heap.size, 0, none⟩ = some (.string (strB xw)) := q3.cell (j := 0) rfl; have c1 : w3.cell? ⟨wr.heap.size, 1, none⟩ = some (.slice xA xn xc) := q3.cell (j := 1) rfl; have c2 : w3.cell? ⟨wr.heap.size, 2, none⟩ = some (.bool false) := q3.cell (j := 2) rfl; have c3 : w3.cell? ⟨wr.heap.size, 3, none⟩ = some (.slice xB xm xk) := q3.cell (j := 3) rfl; have V3 := hid q3; have B3 := hid (BW.out.trans ((B2.out.trans (b3.mono (Nat.le_refl _))).mono BW.out.size)); clear q3 b3 o3 s3)
            | (refine Sh.wp_al smS rfl rfl ?_; intro w2 q2 b2 s2; have B2 := hid b2; clear b2 s2)
            | (refine Sh.wp_ld smS rfl (.tmp 17) rfl rfl r1 ?_))
          go_wp2_with (first
            | (go_at_call 44; have h9 := HY.out w4 K xB xm xk m (deep - 1) (YT.out.below B4.out) HQ.out.1 HQ.out.2.1 (by omega) (by omega) (by have := HQ.out.2.2; omega) (by omega); (with_reducible refine h9.mono ?_); rintro e w5 ⟨rfl, b5⟩; have B5 := hid (B4.out.trans (b5.mono B4.out.size)); clear b5)
            | (go_at_call 69; have h9 := HF.out w3 B3.out; (with_reducible refine h9.mono ?_); rintro e w4 ⟨rfl, b4⟩; have V4 := V3.out.keep b4; have c2 : w4.cell? ⟨wr.heap.size, 2, none⟩ = some (.bool false) := V4.cell (j := 2) rfl; have c3 : w4.cell? ⟨wr.heap.size, 3, none⟩ = some (.slice xB xm xk) := V4.cell (j := 3) rfl; have B4 := hid (B3.out.trans (b4.mono B3.out.size)); clear b4 V4))
          go_roundw
          case rel => exact ⟨i + 1, y.roomF (m - y.len) (deep - 1), nx, rfl, by go_num, by omega, by rw [YL.out]; exact HV.out, by rw [YL.out]; have := LOW.out; have := YC.out; omega, by rw [YL.out]; have := TOP.out; omega, NX.out.1, NX.out.2.1, NX.out.2.2.1, NX.out.2.2.2.1, NX.out.2.2.2.2, B5.out⟩
          case measure => simp [intOf]; omega
    · obtain rfl : i = n := by omega
      have hr := htr.done (by rw [HX.out.1]; exact Nat.le_refl _)
      subst hr
      have HV := hid (show m = R from hrm)
      clear hrm hbo htr hbel
      go_wp2
      go_ret
      exact ⟨ret_int HV.out, BW.out⟩
theorem room_any (f : Fo) : RoomSaid f := (Fo.ind room_step f).1
end Go.Proofs.YtkfnkieljcipnaaGreatDoor

/-! RC -/
namespace Go.Proofs.YtkfnkieljcipnaaGreatDoor
open Go Go.RowKit Go.Joins

def chkE (f : Fo) : Nat := if f.roomF (2000 - f.len) 6 < 0 then 1 else 0
set_option maxRecDepth 100000 in
theorem check_any (f : Fo) (w : World) (K : Nat → Prop) (A : Option Addr) (n c : Nat) (ht : TrS w K A n f) (hok : f.okS) (hc : f.count ≤ 2305843009213693000) :
    Calls Tryz.prog 20 #[.slice A n c] w fun e w' => e = .returned (.int .i64 (chkE f : Nat)) ∧ Below w.heap.size w w' := by
  have HR := hid (room_any f w K A n c 2000 6 ht hok (by omega) (by omega) (by omega) (by have := f.depth_le; omega) (by omega))
  clear ht hok hc
  unfold chkE
  generalize f.roomF (2000 - f.len) 6 = R at *
  by_cases hR : R < 0
  · rw [if_pos hR]
    go_enter Tryz.func20, Tryz.ntmps20
    go_wp2_with (first
      | (go_at_call 44; refine HR.out.mono ?_; rintro e w1 ⟨rfl, b1⟩; have B1 := hid b1; clear b1))
    go_ret
    exact ⟨rfl, B1.out⟩
  · rw [if_neg hR]
    go_enter Tryz.func20, Tryz.ntmps20
    go_wp2_with (first
      | (go_at_call 44; refine HR.out.mono ?_; rintro e w1 ⟨rfl, b1⟩; have B1 := hid b1; clear b1))
    go_ret
    exact ⟨rfl, B1.out⟩

/-! ### What is parsed may be -/
def Fo.okA : Fo → Int → Prop
  | nil, _ => True
  | cons wd ns bl y n, k => fitB wd ns bl y.len = true ∧ (bl = true → 1 < k) ∧ y.okA (k - 1) ∧ n.okA k
theorem roomF_ok : ∀ (f : Fo) (m k : Int), f.okA k → (f.nest : Int) ≤ m → f.roomF m k = m - f.nest := by
  intro f
  induction f with
  | nil => intro m k _ _; simp [Fo.roomF, Fo.nest]
  | cons wd ns bl y n ih1 ih2 =>
    intro m k h hm
    obtain ⟨h1, h2, h3, h4⟩ := h
    have hy := y.count_nest
    simp only [Fo.nest] at hm ⊢
    rw [Fo.roomF, if_neg (by
      rintro (h | h | h)
      · omega
      · rw [h1] at h; cases h
      · have := h2 h.1; omega), ih1 _ _ h3 (by omega), ih2 _ _ h4 (by omega)]
    omega
theorem okA_app {f g : Fo} {k : Int} (h : f.okA k) (h2 : g.okA k) : (f.app g).okA k := by
  induction f with
  | nil => exact h2
  | cons w ns b y n _ ih => exact ⟨h.1, h.2.1, h.2.2.1, ih h.2.2.2⟩
def goodT (t : Tk) : Prop := (t.kind = 1 → wordB t.s = true) ∧ (t.kind = 2 → -1000000000000000000 < t.n ∧ t.n < 1000000000000000000)
def Good (ts : List Tk) : Prop := ∀ t ∈ ts, goodT t
def OkB (d : Nat) : Res → Prop
  | .ok f _ r => f.okA (7 - d) ∧ Good r
  | .bad _ _ => True
theorem nums_fit {ts : List Tk} (h : Good ts) : (numsF ts).any farB = false := by
  rw [List.any_eq_false]
  intro x hx
  obtain ⟨t, ht, rfl⟩ := List.mem_map.1 hx
  have h1 : isN t = true := by
    have := List.all_eq_true.1 (show (ts.takeWhile isN).all isN = true from by
      clear hx ht h
      induction ts with
      | nil => rfl
      | cons u us ih =>
        by_cases hu : isN u = true
        · rw [List.takeWhile_cons_of_pos hu, List.all_cons, hu, ih]; rfl
        · rw [List.takeWhile_cons_of_neg hu]; rfl) t ht
    exact this
  have h2 := (h t ((List.takeWhile_prefix isN).subset ht)).2 (by simpa [isN] using h1)
  show ¬ (decide (t.n ≤ -1000000000000000000) || decide (1000000000000000000 ≤ t.n)) = true
  rw [Bool.or_eq_true, decide_eq_true_eq, decide_eq_true_eq]
  omega
theorem good_tail {t : Tk} {r : List Tk} (h : Good (t :: r)) : Good r := fun x hx => h x (List.mem_cons_of_mem _ hx)
theorem good_rest {ts : List Tk} (h : Good ts) : Good (restF ts) := fun x hx => h x ((List.dropWhile_suffix isN).subset hx)
section
variable {L : Nat → Nat → List Tk → Res}
theorem blk_okB (hL : ∀ d m ts, Good ts → OkB d (L d m ts)) (d m : Nat) (ts : List Tk) (hg : Good ts) : OkB d (blkF L d m ts) := by
  have h := hL d m ts hg
  unfold blkF
  generalize L d m ts = X at *
  match X with
  | .bad e r => trivial
  | .ok f m r =>
    match r with
    | [] => trivial
    | c :: r3 =>
      simp only
      split
      · exact ⟨h.1, good_tail h.2⟩
      · trivial
theorem end_okB (hL : ∀ d m ts, Good ts → OkB d (L d m ts)) (wd : List UInt8) (ns : List (Int × Bool)) (d m : Nat) (ts : List Tk) (hg : Good ts) (hw : wordB wd = true) (hn : ns.length ≤ 8) (hf : ns.any farB = false) : OkB d (endF L wd ns d m ts) := by
  unfold endF
  match ts with
  | [] => trivial
  | s :: r2 =>
    simp only
    split
    · trivial
    split
    · exact ⟨⟨by simp [fitB, hw, hn, hf, Fo.len], fun h => (by cases h), trivial, trivial⟩, good_tail hg⟩
    split
    · split
      · trivial
      · rename_i hd
        have hb := blk_okB hL (d + 1) m r2 (good_tail hg)
        generalize blkF L (d + 1) m r2 = X at *
        match X with
        | .bad e r => trivial
        | .ok f m r =>
          refine ⟨⟨by simp [fitB, hw, hn, hf], fun _ => by omega, ?_, trivial⟩, hb.2⟩
          have := hb.1
          rwa [show (7 : Int) - ((d + 1 : Nat) : Int) = 7 - (d : Int) - 1 by omega] at this
    · trivial
end
theorem lst_okB : ∀ (n d m : Nat) (ts : List Tk), Good ts → OkB d (lstF n d m ts)
  | 0, _, _, _, hg => ⟨trivial, hg⟩
  | n + 1, d, m, [], hg => ⟨trivial, hg⟩
  | n + 1, d, m, t :: r, hg => by
    by_cases h1 : t.kind = 1
    · rw [lst_word n d m t r h1]
      have hs : OkB d (stmX (lstF n) d m t r) := by
        unfold stmX
        split
        · trivial
        · unfold stmF
          split
          · rename_i hf
            exact end_okB (fun d m ts h => lst_okB n d m ts h) _ _ _ _ _ (good_rest (good_tail hg)) ((hg t (List.mem_cons_self ..)).1 h1) (by unfold numsF; rw [List.length_map]; simpa [fewN] using hf) (nums_fit (good_tail hg))
          · trivial
      generalize stmX (lstF n) d m t r = X at *
      match X with
      | .bad e r => trivial
      | .ok x m2 r2 =>
        simp only
        have := lst_okB n d m2 r2 hs.2
        generalize lstF n d m2 r2 = Y at *
        match Y with
        | .bad e r => trivial
        | .ok f m r => exact ⟨okA_app hs.1 this.1, this.2⟩
    · rw [lstF, if_neg h1]; exact ⟨trivial, hg⟩
theorem dig_is {l : List UInt8} (h : l.all digB = true) : isDigits l := fun c hc => by
  have := List.all_eq_true.1 h c hc
  simpa [digB] using this
theorem tok_good (p : List UInt8) (t : Tk) (h : tokF p = .ok t) : goodT t := by
  have hn : ∀ p t, numF p = .ok t → goodT t := by
    intro p t h
    unfold numF at h
    split at h
    · cases h
    split at h
    · cases h
    rename_i h18
    split at h
    · split at h
      · rename_i hb
        cases h
        exact ⟨fun h => absurd (show _ = _ from h) (by simp), fun _ => hb⟩
      · cases h
    · cases h
      refine ⟨fun h => absurd (show _ = _ from h) (by simp), fun _ => ?_⟩
      have := decV_18 _ (dig_is (all_takeWhile digB (sizeF p))) (by omega)
      unfold valF
      split <;> (constructor <;> (simp only; omega))
  match p with
  | [] => cases h
  | c :: r =>
    unfold tokF at h
    simp only at h
    split at h
    · cases h; exact ⟨fun h => absurd (show _ = _ from h) (by simp), fun h => absurd (show _ = _ from h) (by simp)⟩
    split at h
    · rename_i hw
      cases h; exact ⟨fun _ => hw, fun h => absurd (show _ = _ from h) (by simp)⟩
    split at h
    · cases h
    · exact hn _ _ h
theorem cut_good : ∀ (n : Nat) (l : List UInt8) (rem : Bool) (p : Pl), l.length ≤ n → ∀ x ∈ (cutL l rem p).1, goodT x.1 := by
  intro n
  induction n with
  | zero =>
    intro l rem p h
    have : l = [] := List.eq_nil_of_length_eq_zero (by omega)
    subst this
    rw [cutL]
    exact fun _ h => (by cases h)
  | succ n ih =>
    intro l rem p h
    match l with
    | [] =>
      rw [cutL]
      exact fun _ h => (by cases h)
    | c :: r =>
      have hr : r.length ≤ n := by simpa using h
      have hd : ∀ k, (r.drop k).length ≤ n := fun k => by rw [List.length_drop]; omega
      rw [cutL]
      split
      · exact fun _ h => (by cases h)
      split
      · exact ih _ _ _ (hd _)
      split
      · exact ih _ _ _ (hd _)
      split
      · exact ih _ _ _ (hd _)
      split
      · exact fun _ h => (by cases h)
      · rename_i t hte
        have h1 := tok_good _ _ hte
        have h2 := ih (r.drop ((pieceF (c :: r)).length - 1)) false ⟨p.line, p.col + (pieceF (c :: r)).length⟩ (hd _)
        intro x hx
        rcases List.mem_cons.1 hx with rfl | hx
        · exact h1
        · exact h2 x hx
theorem toks_good (l : List UInt8) : Good (toksF l) := by
  intro t ht
  obtain ⟨x, hx, rfl⟩ := List.mem_map.1 ht
  exact cut_good _ l false firstP (Nat.le_refl _) x hx
theorem par_okA {l : List UInt8} {f : Fo} (h : parF l = .ok f) : f.okA 6 ∧ f.count ≤ 2000 := by
  unfold parF at h
  split at h
  · cases h
  split at h
  · cases h
  cases ha : allF (toksF l) with
  | bad er r => rw [ha] at h; cases h
  | ok f2 m2 r =>
    rw [ha] at h
    cases h
    obtain ⟨h1, h2, h3⟩ := all_ok ha
    have h4 := lst_okB (toksF l).length 1 0 (toksF l) (toks_good l)
    rw [show lstF (toksF l).length 1 0 (toksF l) = lst 1 0 (toksF l) from rfl, h1] at h4
    exact ⟨h4.1, by omega⟩
theorem okA_okS : ∀ {f : Fo} {k : Int}, f.okA k → f.okS
  | .nil, _, _ => trivial
  | .cons wd ns bl y n, k, h => by
    obtain ⟨h1, _, h3, h4⟩ := h
    simp only [fitB, Bool.and_eq_true, decide_eq_true_eq] at h1
    refine ⟨?_, by omega, okA_okS h3, okA_okS h4⟩
    have hw := h1.1
    unfold wordB at hw
    match wd, hw with
    | c :: r, hw =>
      simp only [Bool.and_eq_true, decide_eq_true_eq] at hw
      simp only [List.length_cons]; omega
theorem par_check {l : List UInt8} {f : Fo} (h : parF l = .ok f) : chkE f = 0 := by
  obtain ⟨h1, h2⟩ := par_okA h
  have hn := f.count_nest
  unfold chkE
  rw [roomF_ok f _ _ h1 (by omega), if_neg (by omega)]
end Go.Proofs.YtkfnkieljcipnaaGreatDoor

/-! QI -/
namespace Go.Proofs.YtkfnkieljcipnaaGreatDoor
open Go Go.RowKit Go.Joins

theorem run_append_none {P : Program} {w : World} (base : Nat) (t ty e : TypeId) (i : TypeInfo) (size : Nat) (ht : P.underlying t = some (.slice e)) (hi : P.info? e = some i)
    (v : Value) (n : Nat) (xs : List Value) (hown : w.ownsRow base e size v n xs) (c : Nat) :
    (Builtin.append_ #[t, t] ty #[v, .slice none 0 c]).run P w = .ok v w := by
  rcases hown.2 with ⟨rfl, rfl⟩ | ⟨g, cap, cur, rfl, _, _, hnc, _⟩
  · simp [Builtin.append_, run_underlying ht, sizeOf, typeInfo, hi, Builtin.lenOf, Builtin.firstCells]
  · simp [Builtin.append_, run_underlying ht, sizeOf, typeInfo, hi, Builtin.lenOf, Builtin.firstCells, hnc, storeCells]
section
variable {P : Program} {α : Type} (σ : Sh P α) {w : World} {ops : Array Oper} {rest : List Oper} {o : Oper} {a : Act} {Q : Exit → Act → World → Prop}
theorem Sh.run_app {base n c m c2 : Nat} {A A2 : Option Addr} {l ys : List α} (ty : TypeId) (hown : σ.Ow w base A n c l) (hr : σ.Rw w w.heap.size A2 m ys) (hn : n + m ≤ 1000000) (hbase : base ≤ w.heap.size) :
    ∃ A' c' w', (Builtin.append_ #[σ.S, σ.S] ty #[.slice A n c, .slice A2 m c2]).run P w = .ok (.slice A' (n + m) c') w' ∧ σ.Ow w' base A' (n + m) c' (l ++ ys) ∧ w.grownBy w' (Value.ownBlock (.slice A n c)) ∧
      (Value.ownBlock (.slice A' (n + m) c') = Value.ownBlock (.slice A n c) ∨ Value.ownBlock (.slice A' (n + m) c') = some w.heap.size) := by
  obtain ⟨i, hi0, hi1, hi2, hi3⟩ := info_parts σ.info
  have hsm := σ.small
  have hmul : (n + m) * σ.by_ ≤ (n + m) * 10000 := Nat.mul_le_mul_left _ hsm
  cases A2 with
  | none =>
    obtain rfl : m = 0 := by
      rcases Nat.eq_zero_or_pos m with h | h
      · exact h
      · obtain ⟨b, o, e, _⟩ := hr.2 h; cases e
    obtain rfl : ys = [] := List.eq_nil_of_length_eq_zero hr.1
    refine ⟨A, c, w, run_append_none base σ.S ty σ.T i σ.N σ.undS hi0 _ n _ hown c2, by simpa using hown, ⟨rfl, rfl, rfl, Nat.le_refl _, fun _ _ _ => rfl⟩, .inl rfl⟩
  | some ad =>
    have hcells : ∀ j u, (σ.flat ys)[j]? = some u → w.cell? (ad.add j) = some u := by
      intro j u hu
      rcases Nat.eq_zero_or_pos m with h | h
      · obtain rfl : ys = [] := List.eq_nil_of_length_eq_zero (by rw [hr.1, h])
        cases hu
      · obtain ⟨b, o, e, _, hc⟩ := hr.2 h
        cases e
        rw [plain_add]
        exact hc j u hu
    obtain ⟨v', w', hrun, h2, h3, h4, h5⟩ := run_append_own_at (P := P) w base σ.S ty σ.T i (.agg (σ.enc σ.z).toArray) σ.N σ.by_ σ.undS hi0 hi1 hi2 hi3 (by simp [Value.cells, σ.len]) σ.pos (.slice A n c) n (σ.flat l) hown ad m c2 (σ.flat ys) (by rw [Sh.flat_len, hr.1])
      hcells (σ.flat_one ys) (by unfold maxLen; omega) (by omega) hbase
    have e1 : σ.flat l ++ σ.flat ys = σ.flat (l ++ ys) := (Sh.flat_app σ l ys).symm
    rw [e1] at h2
    have h6 := h2.2
    rcases h6 with ⟨rfl, h0⟩ | ⟨g, cap, cur, rfl, r⟩
    · exact ⟨none, 0, w', by rw [hrun, h0], by rw [h0] at h2 ⊢; exact h2, h3, by rw [h0]; exact h5⟩
    · exact ⟨_, _, w', hrun, h2, h3, h5⟩
theorem Sh.wp_app {base n c m c2 : Nat} {A A2 : Option Addr} {l ys : List α} (hw : Region.wanted o (yielded ops a.tmps) = true) (s e : Operand) (ho : o.op = .call { callee := .builtin .append, args := #[s, e], argTypes := #[σ.S, σ.S] })
    (hs : a.eval s = .slice A n c) (hown : σ.Ow w base A n c l) (hx : a.eval e = .slice A2 m c2) (hr : σ.Rw w w.heap.size A2 m ys) (hn : n + m ≤ 1000000) (hbase : base ≤ w.heap.size)
    (h : ∀ A' c' w', σ.Ow w' base A' (n + m) c' (l ++ ys) → w.grownBy w' (Value.ownBlock (.slice A n c)) → (Value.ownBlock (.slice A' (n + m) c') = Value.ownBlock (.slice A n c) ∨ Value.ownBlock (.slice A' (n + m) c') = some w.heap.size) → wpList P ops Q rest (a.put o.dst (.slice A' (n + m) c')) w') : wpList P ops Q (o :: rest) a w :=
  wpList_step fun K hK => by
    rw [if_pos hw]
    obtain ⟨A', c', w', hrun, h2, h3, h4⟩ := σ.run_app o.type hown hr hn hbase
    unfold Oper.wp execOp
    simp only [ho, resolve, invoke, builtin, Sem.run_bind, Sem.run_pure, Result.andThen_ok, List.map_toArray, List.map_cons, List.map_nil, hs, hx]
    rw [hrun]
    exact hK _ _ (h A' c' w' h2 h3 h4)
end
/-- Two forests put together in a new slice: the second append. -/
theorem two_app {w0 w1 w2 : World} {K K2 : Nat → Prop} {A' : Option Addr} {n1 c1 n' c' : Nat} {f g : Fo} {xs ys : List Sm} {B : Option Addr}
    (hx : Tr w0 K f xs) (hy : Tr w0 K2 g ys) (g1 : w0.grownBy w1 none) (o1 : smS.Ow w1 w0.heap.size B n1 c1 xs) (g2 : w1.grownBy w2 (Value.ownBlock (.slice B n1 c1))) (o2 : smS.Ow w2 w0.heap.size A' n' c' (xs ++ ys)) :
    TrS w2 (fun k => k < w2.heap.size) A' n' (f.app g) ∧ Below w0.heap.size w0 w2 := by
  have hb1 : Below w0.heap.size w0 w1 := (Below.refl _ _).grown g1 (Nat.le_refl _) (fun k hk => by cases hk)
  have hb : Below w0.heap.size w0 w2 := hb1.trans (Sh.grown_below smS o1 hb1.size g2)
  exact ⟨⟨xs ++ ys, o2.rowP.mono fun _ h _ => h.2.1, (((hx.keep fun b _ hs => hb.block b hs).mono (P' := fun k => k < w2.heap.size) fun _ _ h => h).app ((hy.keep fun b _ hs => hb.block b hs).mono fun _ _ h => h))⟩, hb⟩
end Go.Proofs.YtkfnkieljcipnaaGreatDoor

/-! RD -/
namespace Go.Proofs.YtkfnkieljcipnaaGreatDoor
open Go Go.RowKit Go.Joins

set_option maxRecDepth 100000 in
theorem cloneN_any (A : Option Addr) (n c : Nat) (ns : List (Int × Bool)) (w : World) (hr : nmS.Rw w w.heap.size A n ns) (hn : n ≤ 1000000) :
    Calls Tryz.prog 68 #[.slice A n c] w fun e w' => Below w.heap.size w w' ∧ ∃ A' c', e = .returned (.slice A' n c') ∧ RwP nmS w' (fun k => w.heap.size ≤ k ∧ k < w'.heap.size) A' n ns := by
  have HR := hid hr
  have q22 : ∀ (w : World) (a : Option Addr) (n c n' c' : Nat), (binOp .eql 34 (.slice a n c) (.slice none n' c')).run Tryz.prog w = .ok (.bool a.isNone) w := fun w a n c n' c' => Lib.run_eql_slice_nil w _ _ a n c n' c' Tryz.underlying34
  cases A with
  | none =>
    obtain rfl : n = 0 := by
      rcases Nat.eq_zero_or_pos n with h | h
      · exact h
      · obtain ⟨b, o, e, _⟩ := hr.2 h; cases e
    obtain rfl : ns = [] := List.eq_nil_of_length_eq_zero hr.1
    clear hr
    go_enter Tryz.func68, Tryz.ntmps68
    go_wp2
    go_ret
    exact ⟨Below.refl _ _, none, 0, rfl, RwP.nil⟩
  | some a =>
    clear hr
    go_enter Tryz.func68, Tryz.ntmps68
    have hlit : nmS.Ow (w.alloc (.cells #[] nmS.T)) w.heap.size (some ⟨w.heap.size, 0, none⟩) 0 0 [] := World.ownsRow_lit w #[] 0 (Nat.le_refl _) (by decide) rfl
    have HO := hid hlit
    clear hlit
    go_wp2_with (first
      | (refine Sh.wp_app nmS (A := some ⟨w.heap.size, 0, none⟩) (c := 0) (l := []) (base := w.heap.size) rfl (.tmp 5) (.tmp 6) rfl rfl HO.out rfl ((HR.out.below ((Below.refl _ _).alloc (Nat.le_refl _) _)).more (by simp)) (by omega) (by simp) ?_; intro A6 c6 w6 own6 gr6 li6; (simp only [Nat.zero_add, List.nil_append] at own6 ⊢); have O6 := hid own6; have B6 := hid (show Below w.heap.size w w6 from ((Below.refl _ _).alloc (Nat.le_refl _) _).trans (Sh.grown_below nmS HO.out (by simp) gr6)); clear own6 gr6 li6))
    go_ret
    exact ⟨B6.out, A6, c6, rfl, O6.out.rowP.mono fun _ h _ => ⟨h.1, h.2.1⟩⟩
theorem Sh.step_push2 {P : Program} {α : Type} (σ : Sh P α) {w : World} {x : α} {ops : Array Oper} {o : Oper} {a : Act} {Q : Exit → Act → World → Prop} {b base n c : Nat} {A : Option Addr} {l : List α} {K : Act → World → Prop} {E : Prop} (hgd : o.guard = none) (s e : Operand) (ho : o.op = .call { callee := .builtin .append, args := #[s, e], argTypes := #[σ.S, σ.S] })
    (hs : a.eval s = .slice A n c) (hown : σ.Ow w base A n c l) (hx : a.eval e = .slice (some ⟨b, 0, none⟩) 1 1) (hrow : w.rangeAt b 0 (σ.enc x)) (hn : n ≤ 1000000) (hbase : base ≤ w.heap.size)
    (h : ∀ A' c' w', σ.Ow w' base A' (n + 1) c' (l ++ [x]) → w.grownBy w' (Value.ownBlock (.slice A n c)) → (Value.ownBlock (.slice A' (n + 1) c') = Value.ownBlock (.slice A n c) ∨ Value.ownBlock (.slice A' (n + 1) c') = some w.heap.size) → K (a.put o.dst (.slice A' (n + 1) c')) w') : if Region.wanted o (yielded ops a.tmps) = true then Oper.wp P o a w K Q else E := by
  have hw : Region.wanted o (yielded ops a.tmps) = true := by simp [Region.wanted, hgd]
  rw [if_pos hw]
  obtain ⟨A', c', w', hrun, h2, h3, h4⟩ := σ.run_push2 o.type hown hrow hn hbase
  unfold Oper.wp execOp
  simp only [ho, resolve, invoke, builtin, Sem.run_bind, Sem.run_pure, Result.andThen_ok, List.map_toArray, List.map_cons, List.map_nil, hs, hx, hrun]
  exact h A' c' w' h2 h3 h4

/-- What stands in flatBehind's region: the statement's variable, what is there already, and what lies below. -/
structure FB (base s3 g : Nat) (x : Sm) (w0 w : World) (A : Option Addr) (n c : Nat) (f : Fo) (xs : List Sm) : Prop where
  var : smS.Var w g x
  lo : Lo w base A n c f xs
  bl : Below base w0 w
  le : base ≤ w0.heap.size
  sz : s3 ≤ w.heap.size
/-- .. and its numbers, copied. -/
structure FN (base s3 g : Nat) (x : Sm) (w0 w : World) (A : Option Addr) (n c : Nat) (f : Fo) (xs : List Sm) (A2 : Option Addr) (n2 : Nat) (ns : List (Int × Bool)) : Prop where
  fb : FB base s3 g x w0 w A n c f xs
  ns : RwP nmS w (fun j => s3 ≤ j ∧ j < w.heap.size) A2 n2 ns
section
variable {base s3 g : Nat} {x : Sm} {w0 w w' : World} {A A2 : Option Addr} {n c n2 : Nat} {f : Fo} {xs : List Sm} {ns : List (Int × Bool)}
theorem FB.keep (h : FB base s3 g x w0 w A n c f xs) (hb : Below w.heap.size w w') : FB base s3 g x w0 w' A n c f xs :=
  ⟨h.var.keep hb, h.lo.below hb, h.bl.trans (hb.mono (Nat.le_trans h.le h.bl.size)), h.le, Nat.le_trans h.sz hb.size⟩
theorem FB.drew (h : FB base s3 g x w0 w A n c f xs) : FB base s3 g x w0 w.drew A n c f xs := h.keep ((Below.refl _ _).drew)
theorem FB.alloc (h : FB base s3 g x w0 w A n c f xs) (o : Obj) : FB base s3 g x w0 (w.alloc o) A n c f xs := h.keep ((Below.refl _ _).alloc (Nat.le_refl _) _)
theorem FN.keep (h : FN base s3 g x w0 w A n c f xs A2 n2 ns) (hb : Below w.heap.size w w') : FN base s3 g x w0 w' A n c f xs A2 n2 ns :=
  ⟨h.fb.keep hb, (h.ns.below hb).mono fun _ h2 h3 => ⟨h2.1, h3⟩⟩
theorem FN.drew (h : FN base s3 g x w0 w A n c f xs A2 n2 ns) : FN base s3 g x w0 w.drew A n c f xs A2 n2 ns := h.keep ((Below.refl _ _).drew)
theorem FN.alloc (h : FN base s3 g x w0 w A n c f xs A2 n2 ns) (o : Obj) : FN base s3 g x w0 (w.alloc o) A n c f xs A2 n2 ns := h.keep ((Below.refl _ _).alloc (Nat.le_refl _) _)
theorem FB.copy {c2 : Nat} (h : FB base s3 g x w0 w A n c f xs) (hb : Below w.heap.size w w') (hn : RwP nmS w' (fun k => w.heap.size ≤ k ∧ k < w'.heap.size) A2 n2 ns) (_ : c2 = c2) : FN base s3 g x w0 w' A n c f xs A2 n2 ns :=
  ⟨h.keep hb, hn.mono fun _ h2 _ => ⟨Nat.le_trans h.sz h2.1, h2.2⟩⟩
theorem FB.base_le (h : FB base s3 g x w0 w A n c f xs) : base ≤ w.heap.size := Nat.le_trans h.le h.bl.size
/-- One more behind. -/
theorem FN.push {w6 : World} {A6 : Option Addr} {c6 c2 : Nat} {wd : List UInt8} {bl : Bool} (h : FN base s3 g x w0 w A n c f xs A2 n2 ns) (h3 : base ≤ s3) (hown : ∀ j, Value.ownBlock (.slice A n c) = some j → j < s3 ∧ j ≠ g)
    (own : smS.Ow w6 base A6 (n + 1) c6 (xs ++ [⟨wd, A2, n2, c2, bl, none, 0, 0⟩])) (gr : w.grownBy w6 (Value.ownBlock (.slice A n c))) (li : Value.ownBlock (.slice A6 (n + 1) c6) = Value.ownBlock (.slice A n c) ∨ Value.ownBlock (.slice A6 (n + 1) c6) = some w.heap.size) :
    Lo w6 base A6 (n + 1) c6 (f.app (.cons wd ns bl .nil .nil)) (xs ++ [⟨wd, A2, n2, c2, bl, none, 0, 0⟩]) ∧ smS.Var w6 g x ∧ Below base w0 w6 := by
  have hx : Tr w (fun k => s3 ≤ k ∧ k < w.heap.size ∧ some k ≠ Value.ownBlock (.slice A n c)) (.cons wd ns bl .nil .nil) [⟨wd, A2, n2, c2, bl, none, 0, 0⟩] :=
    ⟨_, [], rfl, rfl, rfl, h.ns.mono fun k h2 _ => ⟨h2.1, h2.2, fun e => by have := (hown k e.symm).1; omega⟩, ⟨[], RwP.nil, rfl⟩, rfl⟩
  refine ⟨⟨own, ?_⟩, ?_, h.fb.bl.trans (Sh.grown_below smS h.fb.lo.ow h.fb.base_le gr)⟩
  · have h1 := h.fb.lo.tr.app (hx.mono (P' := fun k => base ≤ k ∧ k < w.heap.size ∧ some k ≠ Value.ownBlock (.slice A n c)) fun k hk _ => ⟨Nat.le_trans h3 hk.1, hk.2⟩)
    refine (h1.keep fun b hb hs => gr.block b hs hb.2.2).mono fun b hb _ => ⟨hb.1, Nat.lt_of_lt_of_le hb.2.1 gr.size, ?_⟩
    rcases li with e | e
    · rw [e]; exact hb.2.2
    · rw [e]; intro e2; cases e2; have := hb.2.1; omega
  · have e := gr.block g h.fb.var.lt (fun e => (hown g e.symm).2 rfl)
    exact ⟨fun j v hv => (World.cell?_of_block (a := ⟨g, 0 + j, none⟩) e).trans (h.fb.var.1 j v hv), fun j hj => ⟨by rw [World.cell?_of_block (a := ⟨g, 0 + j, none⟩) e]; exact (h.fb.var.2 j hj).1, by rw [World.frozen?_of_block (a := ⟨g, 0 + j, none⟩) e]; exact (h.fb.var.2 j hj).2⟩⟩
end
end Go.Proofs.YtkfnkieljcipnaaGreatDoor

/-! RE -/
namespace Go.Proofs.YtkfnkieljcipnaaGreatDoor
open Go Go.RowKit Go.Joins

def FlatSaid (f : Fo) : Prop := ∀ (w : World) (base : Nat) (K : Nat → Prop) (A : Option Addr) (n c : Nat) (f0 : Fo) (xs0 : List Sm) (A2 : Option Addr) (n2 c2 : Nat), Lo w base A n c f0 xs0 → TrS w K A2 n2 f → (∀ k, K k → k < base) → base ≤ w.heap.size → f0.len + f.count ≤ 1000000 → f.okS →
  Calls Tryz.prog 43 #[.slice A n c, .slice A2 n2 c2] w fun e w' => ∃ A' n' c' xs', e = .returned (.slice A' n' c') ∧ Lo w' base A' n' c' (f0.app f.flat) xs' ∧ Below base w w'
set_option maxHeartbeats 4000000 in
set_option maxRecDepth 100000 in
theorem flat_step (f : Fo) (hf : f.Bodies FlatSaid) : FlatSaid f := by
  intro w base K A n c f0 xs0 A2 n2 c2 hlo ht hK hbase hlen hok
  have HL2 := hid (show f.len = n2 from ht.len.symm)
  obtain ⟨ys, hx, htr⟩ := ht
  have HX := hid hx
  have HKB := hid hK
  have HBA := hid hbase
  have HLN := hid hlen
  have HS0 := hid (And.intro hf (And.intro htr (And.intro hok hlo)))
  have hn2 : (n2 : Int) ≤ 1000000 := by have := f.len_le; have := HL2.out; omega
  clear hlo hx htr hf hok hK hbase hlen
  go_enter Tryz.func43, Tryz.ntmps43
  go_wp2
  go_loopw [0, 9] (fun v0 v9 wr => ∃ (i k : Nat) (B : Option Addr) (d : Nat) (g r : Fo) (xs : List Sm), v0 = .slice B k d ∧ v9 = .int .i64 (i : Int) ∧ i ≤ n2 ∧ Lo wr base B k d g xs ∧ g.app r.flat = f0.app f.flat ∧ r.Bodies FlatSaid ∧ Tr w K r (ys.drop i) ∧ r.okS ∧ Below base w wr) (fun _ v9 _ => n2 - (intOf v9).toNat)
  case atStart => exact ⟨0, n, A, c, f0, f, xs0, rfl, rfl, Nat.zero_le _, HS0.out.2.2.2, rfl, HS0.out.1, by simpa using HS0.out.2.1, HS0.out.2.2.1, Below.refl _ _⟩
  case round =>
    obtain ⟨i, k, B, d, g, r, xs, rfl, rfl, hi, hlo, hgr, hbo, htr, hok, hbel⟩ := hrel
    have BW := hid hbel
    have hcnt : g.len + r.count ≤ 1000000 := by
      have h1 := congrArg Fo.len hgr
      rw [Fo.len_app, Fo.len_app, Fo.len_flat, Fo.len_flat] at h1
      have := HLN.out; omega
    have hk : k = g.len := hlo.len
    have HGR := hid hgr
    have L0 := hid hlo
    by_cases hlt : i < n2
    · obtain ⟨wd, ns, bl, y, nx, rfl, e1, e2, hns, hy, hnx⟩ := htr.step (by rw [HX.out.1]; exact hlt)
      have hkeep : ∀ b, K b → b < w.heap.size → wr.heap[b]? = w.heap[b]? := fun b hb _ => hbel.block b (HKB.out b hb)
      obtain ⟨b, o, rfl, hb, hcell⟩ := (HX.out.keep hkeep).size.at_ hlt
      generalize smS.nth ys i = x at *
      obtain ⟨xw, xA, xn, xc, xb, xB, xm, xk⟩ := x
      simp only at e1 e2 hns hy
      subst e1 e2
      have r1 : wr.rangeAt b (o + i * 4) (smS.enc ⟨xw, xA, xn, xc, xb, xB, xm, xk⟩) := hcell
      have hxn : xn ≤ 1000000 := by have := hns.1; have := hok.2.1; omega
      have HNS := hid (fun wx (bx : Below base w wx) => (show RwP nmS wx K xA xn ns from hns.keep fun b hb _ => bx.block b (HKB.out b hb)))
      have HC := hid (fun wx => by have := clone_any (strB xw) wx (by show xw.length ≤ _; have := hok.1; omega); exact this)
      have HN := hid (fun wx (bx : Below base w wx) => cloneN_any xA xn xc ns wx ((HNS.out wx bx).size) hxn)
      have HY := hid hbo.1
      have HYT := hid (fun wx (bx : Below base w wx) => (show TrS wx K xB xm y from hy.keep fun b hb _ => bx.block b (HKB.out b hb)))
      have NX := hid (And.intro hbo.2 (And.intro hnx (And.intro hok.2.2.1 hok.2.2.2)))
      have HCN := hid hcnt
      have hk6 : k ≤ 999999 := by simp only [Fo.count] at hcnt; omega
      have OWN := hid (fun (j : Nat) (e : Value.ownBlock (.slice B k d) = some j) => own_lt hlo.ow j e)
      clear hcell hbel hgr hbo htr hok hns hy hnx hb hkeep hlo hcnt hk
      go_upto_region 4 with (first
        | (refine Sh.wp_sv smS (x := ⟨xw, xA, xn, xc, xb, xB, xm, xk⟩) rfl (.tmp 6) (.tmp 12) rfl rfl (by rfl) q2 ?_; intro w3 q3 b3 o3 s3; have B23 := hid (B2.out.trans (b3.mono (Nat.le_refl _))); have Q3 := hid q3; clear q3 b3 o3 s3)
        | (refine Sh.wp_al smS rfl rfl ?_; intro w2 q2 b2 s2; have B2 := hid b2; clear b2 s2)
        | (refine Sh.wp_ld smS rfl (.tmp 11) rfl rfl r1 ?_))
      have hbr : base ≤ wr.heap.size := Nat.le_trans HBA.out BW.out.size
      have F3 := hid (FB.mk (s3 := w3.heap.size) (w0 := w) Q3.out (L0.out.below B23.out) (BW.out.trans (B23.out.mono hbr)) HBA.out (Nat.le_refl _))
      have c0 : w3.cell? ⟨wr.heap.size, 0, none⟩ = some (.string (strB xw)) := Q3.out.cell (j := 0) rfl
      have c1 : w3.cell? ⟨wr.heap.size, 1, none⟩ = some (.slice xA xn xc) := Q3.out.cell (j := 1) rfl
      have c2 : w3.cell? ⟨wr.heap.size, 2, none⟩ = some (.bool xb) := Q3.out.cell (j := 2) rfl
      have hs3 : base ≤ w3.heap.size := F3.out.base_le
      have HOW := hid (fun (j : Nat) (e : Value.ownBlock (.slice B k d) = some j) => show j < w3.heap.size ∧ j ≠ wr.heap.size from by have := OWN.out j e; have := B23.out.size; omega)
      have hkn : k ≤ 1000000 := by omega
      go_region_held3 (fun w' => w'.cell? ⟨wr.heap.size, 0, none⟩ = some (.string (strB xw)) ∧ w'.cell? ⟨wr.heap.size, 1, none⟩ = some (.slice xA xn xc) ∧ w'.cell? ⟨wr.heap.size, 2, none⟩ = some (.bool xb)) (first | with_reducible exact ⟨c0, c1, c2⟩ | go_keep)
        (first
          | (go_at_call 67; refine (HC.out _).mono ?_; rintro e w4 ⟨rfl, b4⟩; (first | (have F5s := hid (FN.keep (show FN base w3.heap.size wr.heap.size ⟨xw, xA, xn, xc, xb, xB, xm, xk⟩ w _ B k d g xs A5 xn ns from by (repeat (first | with_reducible exact F5.out | with_reducible exact F5s.out | with_reducible refine FN.alloc ?_ _ | with_reducible refine FN.drew ?_)); done) b4); have c0 : w4.cell? ⟨wr.heap.size, 0, none⟩ = some (.string (strB xw)) := F5s.out.fb.var.cell (j := 0) rfl; have c1 : w4.cell? ⟨wr.heap.size, 1, none⟩ = some (.slice xA xn xc) := F5s.out.fb.var.cell (j := 1) rfl; have c2 : w4.cell? ⟨wr.heap.size, 2, none⟩ = some (.bool xb) := F5s.out.fb.var.cell (j := 2) rfl) | (have FS := hid (FB.keep (show FB base w3.heap.size wr.heap.size ⟨xw, xA, xn, xc, xb, xB, xm, xk⟩ w _ B k d g xs from by (repeat (first | with_reducible exact F3.out | with_reducible exact FS.out | with_reducible refine FB.drew ?_)); done) b4); have c0 : w4.cell? ⟨wr.heap.size, 0, none⟩ = some (.string (strB xw)) := FS.out.var.cell (j := 0) rfl; have c1 : w4.cell? ⟨wr.heap.size, 1, none⟩ = some (.slice xA xn xc) := FS.out.var.cell (j := 1) rfl; have c2 : w4.cell? ⟨wr.heap.size, 2, none⟩ = some (.bool xb) := FS.out.var.cell (j := 2) rfl)); clear b4; dsimp only)
          | (go_at_call 68; refine (HN.out _ ?_).mono ?_; (focus exact FB.bl (show FB base w3.heap.size wr.heap.size ⟨xw, xA, xn, xc, xb, xB, xm, xk⟩ w _ B k d g xs from by (repeat (first | with_reducible exact F3.out | with_reducible exact FS.out | with_reducible refine FB.drew ?_)); done)); rintro e w5 ⟨b5, A5, c5, rfl, n5⟩; have F5 := hid (FB.copy (c2 := c5) (show FB base w3.heap.size wr.heap.size ⟨xw, xA, xn, xc, xb, xB, xm, xk⟩ w _ B k d g xs from by (repeat (first | with_reducible exact F3.out | with_reducible exact FS.out | with_reducible refine FB.drew ?_)); done) b5 n5 rfl); have c0 : w5.cell? ⟨wr.heap.size, 0, none⟩ = some (.string (strB xw)) := F5.out.fb.var.cell (j := 0) rfl; have c1 : w5.cell? ⟨wr.heap.size, 1, none⟩ = some (.slice xA xn xc) := F5.out.fb.var.cell (j := 1) rfl; have c2 : w5.cell? ⟨wr.heap.size, 2, none⟩ = some (.bool xb) := F5.out.fb.var.cell (j := 2) rfl; clear b5 n5; dsimp only)
          | (refine Sh.step_push2 smS (A := B) (c := d) (l := xs) (base := base) (x := ⟨xw, A5, xn, c5, xb, none, 0, 0⟩) rfl (.tmp 13) (.tmp 23) (by rfl) (by rfl) ?_ (by rfl) ?_ hkn ?_ ?_; (focus exact Lo.ow (FB.lo (FN.fb (show FN base w3.heap.size wr.heap.size ⟨xw, xA, xn, xc, xb, xB, xm, xk⟩ w _ B k d g xs A5 xn ns from by (repeat (first | with_reducible exact F5.out | with_reducible exact F5s.out | with_reducible refine FN.alloc ?_ _ | with_reducible refine FN.drew ?_)); done)))); (focus show World.rangeAt _ _ _ [.string (strB xw), .slice A5 xn c5, .bool xb, .slice none 0 0]; exact (by (repeat (first | with_reducible exact range_new' _ _ _ _ (by simp; done) | with_reducible refine World.rangeAt_alloc ?_ _ | with_reducible refine (World.rangeAt_drew _ _ _ _).2 ?_)); done)); (focus exact FB.base_le (FN.fb (show FN base w3.heap.size wr.heap.size ⟨xw, xA, xn, xc, xb, xB, xm, xk⟩ w _ B k d g xs A5 xn ns from by (repeat (first | with_reducible exact F5.out | with_reducible exact F5s.out | with_reducible refine FN.alloc ?_ _ | with_reducible refine FN.drew ?_)); done))); intro A6 c6 w6 own6 gr6 li6; have P6 := hid (FN.push (show FN base w3.heap.size wr.heap.size ⟨xw, xA, xn, xc, xb, xB, xm, xk⟩ w _ B k d g xs A5 xn ns from by (repeat (first | with_reducible exact F5.out | with_reducible exact F5s.out | with_reducible refine FN.alloc ?_ _ | with_reducible refine FN.drew ?_)); done) hs3 HOW.out own6 gr6 li6); have c0 : w6.cell? ⟨wr.heap.size, 0, none⟩ = some (.string (strB xw)) := P6.out.2.1.cell (j := 0) rfl; have c1 : w6.cell? ⟨wr.heap.size, 1, none⟩ = some (.slice xA xn xc) := P6.out.2.1.cell (j := 1) rfl; have c2 : w6.cell? ⟨wr.heap.size, 2, none⟩ = some (.bool xb) := P6.out.2.1.cell (j := 2) rfl; clear own6 gr6 li6; dsimp only))
      all_goals
        have d3 : w6.cell? ⟨wr.heap.size, 3, none⟩ = some (.slice xB xm xk) := P6.out.2.1.cell (j := 3) rfl
        have hl6 : (g.app (Fo.cons xw ns xb .nil .nil)).len + y.count ≤ 1000000 := by
          have := HCN.out; simp only [Fo.count, Fo.len_app, Fo.len] at this ⊢; omega
        have HF := hid (HY.out w6 base K A6 (k + 1) c6 (g.app (Fo.cons xw ns xb .nil .nil)) _ xB xm xk P6.out.1 (HYT.out w6 P6.out.2.2) HKB.out (Nat.le_trans HBA.out P6.out.2.2.size) hl6 NX.out.2.2.1)
        clear c0 c1 c2 hl6
        go_wp2_with (first
          | (go_at_call 43; refine HF.out.mono ?_; rintro e w7 ⟨A7, n7, c7, xs7, rfl, lo7, b7⟩; have L7 := hid lo7; have B7 := hid (P6.out.2.2.trans b7); clear lo7 b7 d3))
        go_roundw
        case rel => exact ⟨i + 1, n7, A7, c7, _, nx, xs7, rfl, rfl, by omega, L7.out, by rw [← HGR.out, Fo.flat, Fo.app_assoc, Fo.app_assoc, Fo.app, Fo.app], NX.out.1, NX.out.2.1, NX.out.2.2.2, B7.out⟩
        case measure => simp [intOf]; omega
    · obtain rfl : i = n2 := by omega
      have hr := htr.done (by rw [HX.out.1]; exact Nat.le_refl _)
      subst hr
      have HV := hid (show g = f0.app f.flat by rw [← hgr, Fo.flat, Fo.app_nil])
      clear hgr hbo htr hbel
      go_wp2
      go_ret
      exact ⟨B, k, d, xs, rfl, by rw [← HV.out]; exact L0.out, BW.out⟩
theorem flat_behind (f : Fo) : FlatSaid f := (Fo.ind flat_step f).1
set_option maxRecDepth 100000 in
theorem flat_any (f : Fo) (w : World) (K : Nat → Prop) (A2 : Option Addr) (n2 c2 : Nat) (ht : TrS w K A2 n2 f) (hK : ∀ k, K k → k < w.heap.size) (hc : f.count ≤ 1000000) (hok : f.okS) :
    Calls Tryz.prog 18 #[.slice A2 n2 c2] w fun e w' => ∃ A' n' c' xs', e = .returned (.slice A' n' c') ∧ Lo w' w.heap.size A' n' c' f.flat xs' ∧ Below w.heap.size w w' := by
  have HF := hid (flat_behind f w w.heap.size K none 0 0 .nil [] A2 n2 c2 (Lo.nil _ _) ht hK (Nat.le_refl _) (by simp [Fo.len]; omega) hok)
  clear ht hK hc hok
  go_enter Tryz.func18, Tryz.ntmps18
  go_wp2_with (first | (go_at_call 43; refine HF.out.mono ?_; rintro e w7 ⟨A7, n7, c7, xs7, rfl, lo7, b7⟩; have L7 := hid lo7; have B7 := hid b7; clear lo7 b7))
  go_ret
  exact ⟨A7, n7, c7, xs7, rfl, by simpa only [Fo.app] using L7.out, B7.out⟩
end Go.Proofs.YtkfnkieljcipnaaGreatDoor

/-! SA -/
namespace Go.Proofs.YtkfnkieljcipnaaGreatDoor
open Go Go.RowKit Go.Joins

set_option maxRecDepth 100000 in
theorem rcount_step (f : Fo) (hf : f.Bodies (CountSaid 17)) : CountSaid 17 f := by
  intro w K A n c ht hc
  obtain ⟨xs, hx, htr⟩ := ht
  have HX := hid hx
  have HL := hid (show f.len = n by rw [← htr.len, hx.1])
  have HC := hid hc
  have HB := hid hf
  have HT := hid htr
  have hn : (n : Int) ≤ 4611686018427387904 := by have := f.len_le; have := HL.out; omega
  clear hx hc hf htr
  go_enter Tryz.func17, Tryz.ntmps17
  go_wp2
  go_loopw [3, 10] (fun v3 v10 wr => ∃ (i m : Nat) (r : Fo), v3 = .int .i64 (m : Nat) ∧ v10 = .int .i64 (i : Nat) ∧ i ≤ n ∧ m + r.nest = f.count ∧ r.Bodies (CountSaid 17) ∧ Tr w K r (xs.drop i) ∧ Below w.heap.size w wr) (fun _ v10 _ => n - (intOf v10).toNat)
  case atStart => exact ⟨0, n, f, rfl, rfl, Nat.zero_le _, by rw [f.count_nest, HL.out], HB.out, by simpa using HT.out, Below.refl _ _⟩
  case round =>
    obtain ⟨i, m, r, rfl, rfl, hi, hm, hbo, htr, hbel⟩ := hrel
    have BW := hid hbel
    have HM := hid hm
    by_cases hlt : i < n
    · obtain ⟨wd, ns, bl, y, nx, rfl, _, _, _, hy, hnx⟩ := htr.step (by rw [HX.out.1]; exact hlt)
      obtain ⟨b, o, rfl, hb, hcell⟩ := (HX.out.size.below hbel).at_ hlt
      generalize hxe : smS.nth xs i = x at *
      clear hxe
      have r1 : wr.rangeAt b (o + i * 4) (smS.enc x) := hcell
      have HY := hid hbo.1
      have HN := hid (And.intro hbo.2 hnx)
      have HYT := hid hy
      have hyc : (y.count : Int) ≤ 4611686018427387904 := by have := HC.out; simp only [Fo.nest] at hm; omega
      have hmy : (m : Int) + y.count ≤ 4611686018427387904 := by have := HC.out; simp only [Fo.nest] at hm; omega
      have hmc : (m : Int) ≤ 4611686018427387904 := by have := HC.out; omega
      clear hcell hbel hm hbo htr hy hnx hb
      go_wp2_with (first
        | (go_at_call 17; have h9 := HY.out w3 K x.bA x.bn x.bc (HYT.out.below B3.out) (by omega); (with_reducible refine h9.mono ?_); rintro e w4 ⟨rfl, b4⟩; have B4 := hid (B3.out.trans (b4.mono B3.out.size)); clear b4)
        | (refine Sh.wp_sv smS (x := x) rfl (.tmp 5) (.tmp 13) rfl rfl (by rfl) q2 ?_; intro w3 q3 b3 o3 s3; have c3 : w3.cell? ⟨wr.heap.size, 3, none⟩ = some (.slice x.bA x.bn x.bc) := q3.cell (j := 3) rfl; have B3 := hid (BW.out.trans ((B2.out.trans (b3.mono (Nat.le_refl _))).mono BW.out.size)); clear q3 b3 o3 s3)
        | (refine Sh.wp_al smS rfl rfl ?_; intro w2 q2 b2 s2; have B2 := hid b2; clear b2 s2)
        | (refine Sh.wp_ld smS rfl (.tmp 12) rfl rfl r1 ?_))
      go_roundw
      case rel => exact ⟨i + 1, m + y.count, nx, by go_num, by go_num, by omega, by have := HM.out; simp only [Fo.nest] at this; omega, HN.out.1, HN.out.2, B4.out⟩
      case measure => simp [intOf]; omega
    · obtain rfl : i = n := by omega
      have hr := htr.done (by rw [HX.out.1]; exact Nat.le_refl _)
      subst hr
      have hm2 : m = f.count := by simpa [Fo.nest] using hm
      clear hm hbo htr hbel
      have HM2 := hid hm2
      clear hm2
      go_wp2
      go_ret
      exact ⟨by rw [← HM2.out]; rfl, BW.out⟩
theorem rcount_any (f : Fo) : CountSaid 17 f := (Fo.ind rcount_step f).1
end Go.Proofs.YtkfnkieljcipnaaGreatDoor

/-! SC -/
namespace Go.Proofs.YtkfnkieljcipnaaGreatDoor
open Go Go.RowKit Go.Joins

def fewH (n : Nat) (d : Int) : Bool := !(decide (d = 0) && decide (0 < n)) && decide (n ≤ 2100)
def Fo.fewE : Fo → Int → Bool
  | nil, _ => true
  | cons wd ns _ y n, d => (decide (wd.length ≤ 100) && (decide (ns.length ≤ 100) && (fewH y.len (d - 1) && y.fewE (d - 1)))) && n.fewE d
def FewSaid (f : Fo) : Prop := ∀ (w : World) (K : Nat → Prop) (A : Option Addr) (n c : Nat) (d : Int), TrS w K A n f → 0 ≤ d → d ≤ 1000 →
  Calls Tryz.prog 16 #[.slice A n c, .int .i64 d] w fun e w' => e = .returned (.bool (fewH f.len d && f.fewE d)) ∧ Below w.heap.size w w'
set_option maxHeartbeats 2000000 in
set_option maxRecDepth 100000 in
theorem rfew_step (f : Fo) (hf : f.Bodies FewSaid) : FewSaid f := by
  intro w K A n c d ht hd0 hd1
  have hl : f.len = n := ht.len.symm
  rw [hl]
  obtain ⟨xs, hx, htr⟩ := ht
  by_cases ha : d = 0 ∧ 0 < n
  · obtain ⟨rfl, h0⟩ := ha
    have hn : (0 : Int) < n := by omega
    have hv : (fewH n 0 && f.fewE 0) = false := by simp [fewH]; omega
    rw [hv]
    clear hv hx htr hf hl
    go_enter Tryz.func16, Tryz.ntmps16
    go_wp2
    go_ret
    exact ⟨rfl, Below.refl _ _⟩
  by_cases hb : 2100 < n
  · have hn : (2100 : Int) < n := by omega
    have he : (d == 0) = false := by simp; omega
    have hv : (fewH n d && f.fewE d) = false := by simp [fewH]; omega
    rw [hv]
    clear hv hx htr hf hl ha
    go_enter Tryz.func16, Tryz.ntmps16
    go_wp2
    go_ret
    exact ⟨rfl, Below.refl _ _⟩
  have hv : fewH n d = true := by simp [fewH]; omega
  rw [hv, Bool.true_and]
  have HX := hid hx
  obtain ⟨R, hR⟩ : ∃ R, f.fewE d = R := ⟨_, rfl⟩
  rw [hR]
  have HS0 := hid (And.intro hf (And.intro htr hR))
  have hn2 : (n : Int) ≤ 2100 := by omega
  by_cases hz : d = 0
  · obtain rfl : n = 0 := by omega
    subst hz
    have hr : f = .nil := Tr.done (i := 0) (xs := xs) (by simpa using htr) (by rw [hx.1]; exact Nat.le_refl _)
    have HR := hid (show true = R by rw [← hR, hr]; rfl)
    clear hv hx htr hf hl ha hb hR hr
    go_enter Tryz.func16, Tryz.ntmps16
    go_wp2
    go_loopw [21] (fun v21 wr => v21 = .int .i64 0 ∧ Below w.heap.size w wr) (fun _ _ => 0)
    case atStart => exact ⟨rfl, Below.refl _ _⟩
    case round =>
      obtain ⟨rfl, hbel⟩ := hrel
      go_wp2
      go_ret
      exact ⟨by rw [← HR.out]; rfl, hbel⟩
  have he : (d == 0) = false := by simp; omega
  have hd2 : 1 ≤ d := by omega
  clear hv hx htr hf hl ha hb hR
  go_enter Tryz.func16, Tryz.ntmps16
  go_wp2
  go_loopw [21] (fun v21 wr => ∃ (i : Nat) (r : Fo), v21 = .int .i64 (i : Int) ∧ i ≤ n ∧ r.fewE d = R ∧ r.Bodies FewSaid ∧ Tr w K r (xs.drop i) ∧ Below w.heap.size w wr) (fun v21 _ => n - (intOf v21).toNat)
  case atStart => exact ⟨0, f, rfl, Nat.zero_le _, HS0.out.2.2, HS0.out.1, by simpa using HS0.out.2.1, Below.refl _ _⟩
  case round =>
    obtain ⟨i, r, rfl, hi, hrv, hbo, htr, hbel⟩ := hrel
    have BW := hid hbel
    by_cases hlt : i < n
    · obtain ⟨wd, ns, bl, y, nx, rfl, e1, e2, hns, hy, hnx⟩ := htr.step (by rw [HX.out.1]; exact hlt)
      obtain ⟨b, o, rfl, hb, hcell⟩ := (HX.out.size.below hbel).at_ hlt
      generalize smS.nth xs i = x at *
      obtain ⟨xw, xA, xn, xc, xb, xB, xm, xk⟩ := x
      simp only at e1 e2 hns hy
      subst e1 e2
      have r1 : wr.rangeAt b (o + i * 4) (smS.enc ⟨xw, xA, xn, xc, xb, xB, xm, xk⟩) := hcell
      have hnn : ns.length = xn := hns.1
      rw [Fo.fewE, hnn] at hrv
      have HRV := hid hrv
      have HY := hid hbo.1
      have YT := hid hy
      have NX := hid (And.intro hbo.2 hnx)
      clear hcell hbel hbo htr hns hy hnx hb hnn hrv
      go_upto_region 6 with (first
        | (refine Sh.wp_sv smS (x := ⟨xw, xA, xn, xc, xb, xB, xm, xk⟩) rfl (.tmp 6) (.tmp 24) rfl rfl (by rfl) q2 ?_; intro w3 q3 b3 o3 s3; have B3 := hid (BW.out.trans ((B2.out.trans (b3.mono (Nat.le_refl _))).mono BW.out.size)); have V3 := hid q3; clear q3 b3 o3 s3)
        | (refine Sh.wp_al smS rfl rfl ?_; intro w2 q2 b2 s2; have B2 := hid b2; clear b2 s2)
        | (refine Sh.wp_ld smS rfl (.tmp 23) rfl rfl r1 ?_))
      have c0 : w3.cell? ⟨wr.heap.size, 0, none⟩ = some (.string (strB xw)) := V3.out.cell (j := 0) rfl
      have c1 : w3.cell? ⟨wr.heap.size, 1, none⟩ = some (.slice xA xn xc) := V3.out.cell (j := 1) rfl
      have c3 : w3.cell? ⟨wr.heap.size, 3, none⟩ = some (.slice xB xm xk) := V3.out.cell (j := 3) rfl
      have hsz : (strB xw).size = xw.length := rfl
      by_cases h1 : 100 < xw.length
      · have HV := hid (show false = R by rw [← HRV.out, decide_eq_false (by omega)]; rfl)
        have g1 : (100 : Int) < (strB xw).size := by omega
        clear hsz h1 r1
        go_wp2
        go_ret
        exact ⟨by rw [← HV.out]; rfl, B3.out⟩
      · have g1 : ¬ (100 : Int) < (strB xw).size := by omega
        by_cases h2 : 100 < xn
        · have HV := hid (show false = R by rw [← HRV.out, decide_eq_false (p := xn ≤ 100) (by omega)]; simp)
          have g2 : (100 : Int) < xn := by omega
          clear hsz h1 h2 r1
          go_wp2
          go_ret
          exact ⟨by rw [← HV.out]; rfl, B3.out⟩
        · have g2 : ¬ (100 : Int) < xn := by omega
          have HC := hid (by have := HY.out w3 K xB xm xk (d - 1) (YT.out.below B3.out) (by omega) (by omega); exact this)
          obtain ⟨q, hq⟩ : ∃ q, (fewH y.len (d - 1) && y.fewE (d - 1)) = q := ⟨_, rfl⟩
          rw [hq] at HC
          have HV := hid (show (q && nx.fewE d) = R by rw [← HRV.out, hq, decide_eq_true (p := xw.length ≤ 100) (by omega), decide_eq_true (p := xn ≤ 100) (by omega)]; simp)
          clear hsz h1 h2 r1 hq
          cases q with
          | false =>
            go_wp2_with (first
              | (go_at_call 16; (with_reducible refine HC.out.mono ?_); rintro e w4 ⟨rfl, b4⟩; have B4 := hid (B3.out.trans (b4.mono B3.out.size)); clear b4))
            go_ret
            exact ⟨by rw [← HV.out]; rfl, B4.out⟩
          | true =>
            go_wp2_with (first
              | (go_at_call 16; (with_reducible refine HC.out.mono ?_); rintro e w4 ⟨rfl, b4⟩; have B4 := hid (B3.out.trans (b4.mono B3.out.size)); clear b4))
            go_roundw
            case rel => exact ⟨i + 1, nx, rfl, by omega, by rw [← HV.out]; rfl, NX.out.1, NX.out.2, B4.out⟩
            case measure => simp [intOf]; omega
    · obtain rfl : i = n := by omega
      have hr := htr.done (by rw [HX.out.1]; exact Nat.le_refl _)
      subst hr
      have HV := hid (show true = R from hrv)
      clear hrv hbo htr hbel
      go_wp2
      go_ret
      exact ⟨by rw [← HV.out]; rfl, BW.out⟩
theorem rfew_any (f : Fo) : FewSaid f := (Fo.ind rfew_step f).1
end Go.Proofs.YtkfnkieljcipnaaGreatDoor

/-! WJ -/
namespace Go.Proofs.YtkfnkieljcipnaaGreatDoor
open Go Go.RowKit Go.Joins

theorem foT : Tryz.prog.underlying 51 = some (.struct (Tryz.prog.fieldsOf 51)) := by kernel_rfl
theorem siT : Tryz.prog.stoodInHeld 51 = false := by kernel_rfl
theorem egT : Tryz.prog.eqGuardType Tryz.prog.depth 51 = false := by kernel_rfl
theorem strB_inj {a b : List UInt8} : ((strB a).toList == (strB b).toList) = decide (a = b) := by
  rw [ByteArray.toList_eq, ByteArray.toList_eq, Bool.eq_iff_iff, beq_iff_eq, decide_eq_true_eq]
  exact Iff.rfl
theorem eqInT (x y : Tk) (w : World) : (Op.equalIn 10000 51 (tkV x) (tkV y)).run Tryz.prog w = .ok (decide (x = y)) w := by
  obtain ⟨x1, x2, x3, x4⟩ := x
  obtain ⟨y1, y2, y3, y4⟩ := y
  unfold tkV
  rw [run_equalIn_agg w 9999 51 _ _ foT siT]
  have h := strB_inj (a := x2) (b := y2)
  simp [go_sem, h]
  by_cases h1 : x1 = y1 <;> by_cases h2 : x2 = y2 <;> by_cases h3 : x3 = y3 <;> by_cases h4 : x4 = y4 <;> simp [h1, h2, h3, h4]
theorem eqT (x y : Tk) (w : World) : (binOp .eql 51 (tkV x) (tkV y)).run Tryz.prog w = .ok (.bool (decide (x = y))) w := by
  have := eqInT x y w
  unfold tkV at this ⊢
  rw [run_eql_struct, this]; rfl
theorem neT (x y : Tk) (w : World) : (binOp .neq 51 (tkV x) (tkV y)).run Tryz.prog w = .ok (.bool (!decide (x = y))) w := by
  have := eqInT x y w
  unfold tkV at this ⊢
  rw [run_neq_struct, this]; rfl
theorem guT (op : BinOp) (a b : Operand) (x y : Tk) (w : World) : (eqGuard op 51 a b (tkV x) (tkV y)).run Tryz.prog w = .ok () w := run_eqGuard_agg w op 51 a b _ _ egT
/-! ### The document's Same of tokens -/
theorem Sh.ext_nth {P : Program} {α : Type} (σ : Sh P α) {a b : List α} (hl : a.length = b.length) (h : ∀ j, j < a.length → σ.nth a j = σ.nth b j) : a = b := by
  refine List.ext_getElem? fun j => ?_
  by_cases hj : j < a.length
  · rw [Sh.nth_get σ hj, Sh.nth_get σ (by omega), h j hj]
  · rw [List.getElem?_eq_none (by omega), List.getElem?_eq_none (by omega)]
theorem encT_lit (t : Tk) : tkV t = .agg #[.int .i64 t.kind, .string (strB t.s), .int .i64 t.n, .bool t.time] := rfl
theorem agg_cells {w : World} {b o : Nat} {t : Tk} (h : w.rangeAt b o (tkS.enc t)) : w.cell? ⟨b, o, none⟩ = some (.int .i64 t.kind) ∧ w.cell? ⟨b, o + 1, none⟩ = some (.string (strB t.s)) ∧ w.cell? ⟨b, o + 2, none⟩ = some (.int .i64 t.n) ∧ w.cell? ⟨b, o + 3, none⟩ = some (.bool t.time) :=
  ⟨h 0 _ rfl, h 1 _ rfl, h 2 _ rfl, h 3 _ rfl⟩

set_option maxRecDepth 100000 in
theorem same_any (A A2 : Option Addr) (n c m c2 B B2 : Nat) (a b : List Tk) (r : Bool) (w : World) (ha : tkS.Rw w B A n a) (hb : tkS.Rw w B2 A2 m b) (hB : B ≤ w.heap.size) (hB2 : B2 ≤ w.heap.size) (hn : n ≤ 140737488355328) (hm : m ≤ 140737488355328) (hr : decide (a = b) = r) :
    Calls Tryz.prog 36 #[.slice A n c, .slice A2 m c2] w fun e w' => e = .returned (.bool r) ∧ Below w.heap.size w w' := by
  have HA := hid ha
  have HB := hid hb
  have HR := hid hr
  have LA := hid ha.1
  have LB := hid hb.1
  clear ha hb hr
  by_cases hnm : n = m
  · subst hnm
    go_enter Tryz.func36, Tryz.ntmps36
    go_wp2
    go_loopw [13] (fun t wr => ∃ i : Nat, t = .int .i64 (i : Nat) ∧ i ≤ n ∧ (∀ j, j < i → tkS.nth a j = tkS.nth b j) ∧ Below w.heap.size w wr) (fun t _ => n - (intOf t).toNat)
    case atStart => exact ⟨0, rfl, by omega, fun j hj => absurd hj (by omega), Below.refl _ _⟩
    case round =>
      obtain ⟨i, rfl, hi, hj, bel⟩ := hrel
      have HJ := hid hj
      have BW := hid bel
      clear hj bel
      by_cases hlt : i < n
      · obtain ⟨b1, o1, rfl, _, r1⟩ := (HA.out.below (BW.out.mono hB)).at_ hlt
        obtain ⟨b2, o2, rfl, _, r2⟩ := (HB.out.below (BW.out.mono hB2)).at_ hlt
        have HY : Hid (decide (tkS.nth a i = tkS.nth b i) = true → ∀ j, j < i + 1 → tkS.nth a j = tkS.nth b j) := hid fun h j hj => by
          by_cases e : j = i
          · subst e; simpa using h
          · exact HJ.out j (by omega)
        have HN : Hid (decide (tkS.nth a i = tkS.nth b i) = false → r = false) := hid fun h => by
          rw [← HR.out, decide_eq_false_iff_not]
          rintro rfl
          simp at h
        have q1 := fun w => neT (tkS.nth a i) (tkS.nth b i) w
        have q2 := fun p q w => guT .neq p q (tkS.nth a i) (tkS.nth b i) w
        rw [encT_lit, encT_lit] at q1 q2
        obtain ⟨x0, x1, x2, x3⟩ := agg_cells (o := o1 + i * 4) r1
        obtain ⟨y0, y1, y2, y3⟩ := agg_cells (o := o2 + i * 4) r2
        clear r1 r2
        generalize decide (tkS.nth a i = tkS.nth b i) = R at *
        generalize tkS.nth a i = x at *
        generalize tkS.nth b i = y at *
        obtain ⟨k1, s1, n1, t1⟩ := x
        obtain ⟨k2, s2, n2, t2⟩ := y
        generalize strB s1 = z1 at *
        generalize strB s2 = z2 at *
        have i1 : (i : Int) < (n : Int) := by omega
        go_wp2_with fail
        go_quiet (fail)
        have HW := hid (bel_drewN BW.out nq)
        generalize wr.drewN nq = w2 at *
        clear q1 q2 x0 x1 x2 x3 y0 y1 y2 y3
        cases R
        · have HN' := hid (HN.out rfl)
          clear HN HY
          go_wp2
          go_ret
          exact ⟨ret_bool HN'.out.symm, HW.out⟩
        · have HY' := hid (HY.out rfl)
          clear HN HY
          go_wp2
          go_roundw
          case rel => exact ⟨i + 1, by go_num, by omega, HY'.out, HW.out⟩
          case measure => simp [intOf]; omega
      · have hF : Hid (r = true) := hid (by
          rw [← HR.out, decide_eq_true_eq]
          exact Sh.ext_nth tkS (by rw [LA.out, LB.out]) fun j hj => HJ.out j (by rw [LA.out] at hj; omega))
        go_wp2
        go_ret
        exact ⟨ret_bool hF.out.symm, BW.out⟩
  · have hF : Hid (r = false) := hid (by
      rw [← HR.out, decide_eq_false_iff_not]
      rintro rfl
      exact hnm (LA.out.symm.trans LB.out))
    have hb : ((n : Int) != (m : Int)) = true := by simp; omega
    go_enter Tryz.func36, Tryz.ntmps36
    go_wp2
    go_ret
    exact ⟨ret_bool hF.out.symm, Below.refl _ _⟩
end Go.Proofs.YtkfnkieljcipnaaGreatDoor

/-! RG -/
namespace Go.Proofs.YtkfnkieljcipnaaGreatDoor
open Go Go.RowKit Go.Joins

theorem own : ownKnob Tryz.prog.godebug = none := by kernel_rfl
theorem gUnitsT : (Tryz.prog.globals[1]?).map (·.type) = some 150 := by kernel_rfl
theorem gFirstT : (Tryz.prog.globals[0]?).map (·.type) = some 26 := by kernel_rfl
theorem c52 : Tryz.prog.cellsOf 149 = 2 := by kernel_rfl
theorem c59 : Tryz.prog.cellsOf 150 = 10 := by kernel_rfl
theorem cPl : Tryz.prog.cellsOf 26 = 2 := by kernel_rfl
theorem c9 : Tryz.prog.cellsOf 9 = 1 := by kernel_rfl
theorem c2 : Tryz.prog.cellsOf 2 = 1 := by kernel_rfl
theorem c3 : Tryz.prog.cellsOf 3 = 1 := by kernel_rfl

set_option maxRecDepth 100000 in
theorem unit_of_trod {H : Type} {enc : TypeId × Value → H} {W : World} {base : Nat} {sp : Nat → Bool} {held : Bool} {fuel : Nat} {cs : List Value} {x : DataW H × List MemPlace} (h : DataW.trod enc Tryz.prog W base sp held fuel 149 cs = some x)
    (nm : List UInt8) (ps : Int) (hx : x.1 = .agg [.lit (.string nm), .lit (.int .i64 ps)]) : cs = [.string ⟨nm.toArray⟩, .int .i64 ps] := by
  obtain ⟨y0, y1, n, rfl, hl, h0, h1⟩ := ChangeShapes.trod_struct2 Tryz.underlying149 h
  rw [c52] at hl
  match cs, hl with
  | [v0, v1], _ =>
    simp only [c9, c2] at h0 h1
    obtain ⟨s, e0, rfl, _⟩ := DataW.trod_string Tryz.underlying9 h0
    obtain ⟨k, e1, rfl, _⟩ := DataW.trod_int Tryz.underlying2 h1
    simp at e0 e1 hx
    obtain ⟨rfl, rfl⟩ := hx
    subst e0 e1
    rfl
set_option maxRecDepth 1000000 in
theorem place_of_trod {H : Type} {enc : TypeId × Value → H} {W : World} {base : Nat} {sp : Nat → Bool} {held : Bool} {fuel : Nat} {cs : List Value} {x : DataW H × List MemPlace} (h : DataW.trod enc Tryz.prog W base sp held fuel 26 cs = some x)
    (a b : Int) (hx : x.1 = .agg [.lit (.int .i64 a), .lit (.int .i64 b)]) : cs = [.int .i64 a, .int .i64 b] := by
  obtain ⟨y0, y1, n, rfl, hl, h0, h1⟩ := ChangeShapes.trod_struct2 Tryz.underlying26 h
  rw [cPl] at hl
  match cs, hl with
  | [v0, v1], _ =>
    simp only [c3] at h0 h1
    obtain ⟨s, e0, rfl, _⟩ := DataW.trod_int Tryz.underlying3 h0
    obtain ⟨k, e1, rfl, _⟩ := DataW.trod_int Tryz.underlying3 h1
    simp at e0 e1 hx
    obtain ⟨rfl, rfl⟩ := hx
    subst e0 e1
    rfl

set_option maxRecDepth 1000000 in
theorem units_of_trod {W : World} {fuel : Nat} {enc : TypeId × Value → Unit} {base : Nat} {sp : Nat → Bool} {held : Bool} {cs : List Value} {p : List MemPlace} (h : DataW.trod enc Tryz.prog W base sp held fuel 150 cs = some (Rows.laid_pallet_pico_units, p)) : cs = unitCells.toList := by
  obtain ⟨xs, m, rfl, hx, hl, hn, hel⟩ := DataW.trod_array Tryz.underlying150 h
  rw [c59] at hl
  simp only [c52] at hel
  match xs, hn, cs, hl with
  | [x0, x1, x2, x3, x4], _, [v0, v1, v2, v3, v4, v5, v6, v7, v8, v9], _ =>
    simp only [Rows.laid_pallet_pico_units, Prod.mk.injEq, DataW.agg.injEq, List.map_cons, List.map_nil, List.cons.injEq, and_true] at hx
    obtain ⟨⟨hx0, hx1, hx2, hx3, hx4⟩, _⟩ := hx
    have e0 := unit_of_trod (hel 0 (by decide)) _ _ hx0.symm
    have e1 := unit_of_trod (hel 1 (by decide)) _ _ hx1.symm
    have e2 := unit_of_trod (hel 2 (by decide)) _ _ hx2.symm
    have e3 := unit_of_trod (hel 3 (by decide)) _ _ hx3.symm
    have e4 := unit_of_trod (hel 4 (by decide)) _ _ hx4.symm
    simp at e0 e1 e2 e3 e4
    obtain ⟨rfl, rfl⟩ := e0
    obtain ⟨rfl, rfl⟩ := e1
    obtain ⟨rfl, rfl⟩ := e2
    obtain ⟨rfl, rfl⟩ := e3
    obtain ⟨rfl, rfl⟩ := e4
    rfl

set_option maxRecDepth 1000000 in
theorem units_of_reads {W : World} (h : Lib.VarReads Tryz.prog W "pallet/pico.units" Rows.laid_pallet_pico_units) : W.var? Tryz.prog "pallet/pico.units" = some unitCells := by
  obtain ⟨g', t', cs, fuel, p, hg', ht', hvar, hd⟩ := h
  obtain rfl := Option.some.inj (gUnits.symm.trans hg')
  obtain rfl := Option.some.inj (gUnitsT.symm.trans ht')
  rw [hvar]
  exact congrArg some (Array.ext' (units_of_trod hd))
set_option maxRecDepth 1000000 in
theorem first_of_reads {W : World} (h : Lib.VarReads Tryz.prog W "pallet/lex.first" Rows.laid_pallet_lex_first) : W.var? Tryz.prog "pallet/lex.first" = some #[.int .i64 1, .int .i64 1] := by
  obtain ⟨g', t', cs, fuel, p, hg', ht', hvar, hd⟩ := h
  obtain rfl := Option.some.inj (gFirst.symm.trans hg')
  obtain rfl := Option.some.inj (gFirstT.symm.trans ht')
  rw [hvar]
  exact congrArg some (Array.ext' (place_of_trod hd 1 1 rfl))

def renU : Go.Shelf.Ren := ⟨fun n => n, fun | 5 => 5 | 119 => 155 | 138 => 158 | 139 => 159 | n => n, fun | 3 => 2 | 4 => 3 | n => n⟩
theorem typesU : U8Types Tryz.prog renU := ⟨Tryz.underlying5, Tryz.underlying155, Tryz.underlying158, Tryz.underlying159⟩
theorem extraU : U8Extra Tryz.prog renU := ⟨by kernel_rfl, by kernel_rfl, by kernel_rfl, by kernel_rfl, by kernel_rfl, by kernel_rfl, by kernel_rfl⟩

def laidL : List (String × DataW Unit) := [("math/bits.deBruijn32tab", Rows.laid_math_bits_deBruijn32tab), ("math/bits.deBruijn64tab", Rows.laid_math_bits_deBruijn64tab), ("internal/strconv.uint64pow10", Rows.laid_internal_strconv_uint64pow10), ("unicode/utf8.acceptRanges", Rows.laid_unicode_utf8_acceptRanges), ("strconv.ErrRange", Rows.laid_strconv_ErrRange), ("strconv.ErrSyntax", Rows.laid_strconv_ErrSyntax), ("pallet/pico.units", Rows.laid_pallet_pico_units), ("pallet/lex.first", Rows.laid_pallet_lex_first), ("unicode/utf8.first", Rows.laid_unicode_utf8_first)]

theorem pow_of_laid {W : World} {rest : List (String × DataW Unit)} (h : laidMet Tryz.prog (("internal/strconv.uint64pow10", Rows.laid_internal_strconv_uint64pow10) :: rest) W) : Lib.TabIs Tryz.prog W "internal/strconv.uint64pow10" .u64 Lib.pow10Tab :=
  Lib.tabIs_of_head (t := 189) (e := 168) (n := 20) gPow (by kernel_rfl) (by kernel_rfl) (by kernel_rfl) (by kernel_rfl) (by kernel_rfl) (zs := Lib.pow10Tab) h

set_option maxRecDepth 1000000 in
theorem laidW {W : World} (h : laidMetH Tryz.prog laidL W) : LaidW W := by
  rw [MakeChecks.laidMetH_plain _ _ _ (by kernel_rfl)] at h
  refine ⟨first_of_reads (Lib.laidMet.reads h (by simp [laidL])), ?_, units_of_reads (Lib.laidMet.reads h (by simp [laidL])), pow_of_laid h.tail.tail⟩
  have e1 : Rows.laid_unicode_utf8_first = Lib.firstData := by kernel_rfl
  have e2 : (Rows.laid_unicode_utf8_acceptRanges : DataW Unit) = Lib.acceptData := by kernel_rfl
  exact utf8Tabs_of_readsT typesU extraU (by rw [← e1]; exact Lib.laidMet.reads h (by simp [laidL])) (by rw [← e2]; exact Lib.laidMet.reads h (by simp [laidL]))

open Go.ChangeShapes Go.WideShapes
/-- A law whose arguments hold no memory, and that named no variable: nothing that was there has changed, and it answers as it should. -/
theorem post_plain {H : Type} {enc : TypeId × Value → H} {P : Program} {f : Func} {s : ChangeSpec} {apart fresh handsOn again : Bool} {W W' : World} {args : Array Value} {v : Value} {ds gs : List (DataW H)}
    (hW : DataW.Whole enc P f.params.toList s.vars apart W args.toList ds gs []) (hb : Below W.heap.size W W')
    (hR : ∀ b sp hd, DataW.TrodAll enc P W' b sp hd f.resultTypes.toList (v.resultList f.resultTypes.size) (s.fn H (ds ++ gs)).results [])
    (hA : ∀ sp, DataW.TrodAll enc P W' 0 sp true f.params.toList args.toList (s.fn H (ds ++ gs)).args [])
    (hV : ∀ sp, DataW.TrodVars enc P W' sp s.vars (s.fn H (ds ++ gs)).vars [])
    (hok : ∀ (j : Nat) (t : TypeId) (r : Value), f.resultTypes[j]? = some t → (v.resultList f.resultTypes.size)[j]? = some r → Value.okWide P W' .any 0 t r) :
    s.post enc P f apart fresh handsOn again W args v W' := by
  have hframe := hb.frame (· ∈ ([] : List MemPlace))
  refine ⟨ds, gs, [], [], [], [], hW, hR _ _ _, hA _, hV _, World.keptBut_mono (fun p hp => ?_) hframe, fun _ => ⟨hok, _, _, [], ⟨[], [], trodAll_append (hA _) (hR _ _ _), hV _, rfl, ?_, fun _ => List.nodup_nil⟩, ?_⟩⟩
  · cases hp
  · intro b off hp; cases hp
  · intro p hp; cases hp
end Go.Proofs.YtkfnkieljcipnaaGreatDoor
