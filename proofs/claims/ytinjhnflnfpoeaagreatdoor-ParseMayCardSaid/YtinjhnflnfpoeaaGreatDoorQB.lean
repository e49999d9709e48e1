/-
  Induction over forests, and their slices element by element; contracts of parse.Count and parse.Depth at every forest of at most 2^62 statements.
-/
import Derived.Test.YtinjhnflnfpoeaaGreatDoorPZ
namespace Go.Proofs.YtinjhnflnfpoeaaGreatDoor
open Go Go.RowKit Go.Joins

namespace Fo
def Bodies (P : Fo → Prop) : Fo → Prop
  | nil => True
  | cons _ _ _ y n => P y ∧ n.Bodies P
theorem ind {P : Fo → Prop} (step : ∀ f : Fo, f.Bodies P → P f) : ∀ f : Fo, P f ∧ f.Bodies P
  | nil => ⟨step nil trivial, trivial⟩
  | cons w ns b y n => by
    have hy := ind step y
    have hn := ind step n
    exact ⟨step (cons w ns b y n) ⟨hy.1, hn.2⟩, hy.1, hn.2⟩
def nest : Fo → Nat
  | nil => 0
  | cons _ _ _ y n => y.count + n.nest
theorem count_nest (f : Fo) : f.count = f.len + f.nest := by
  induction f with
  | nil => rfl
  | cons w ns b y n _ ih => rw [count, ih, len, nest]; omega
theorem depth_le (f : Fo) : f.depth ≤ f.count + 1 := by
  induction f with
  | nil => simp [depth]
  | cons w ns b y n ih1 ih2 => rw [depth, count]; split <;> omega
end Fo
section
variable {w w' : World} {K : Nat → Prop} {A : Option Addr} {n : Nat} {f r : Fo} {xs : List Sm}
theorem RwP.below {Q : Program} {α : Type} {σ : Sh Q α} {ys : List α} (h : RwP σ w K A n ys) (hb : Below w.heap.size w w') : RwP σ w' K A n ys := h.keep fun b _ hs => hb.block b hs
theorem Tr.below (h : Tr w K f xs) (hb : Below w.heap.size w w') : Tr w' K f xs := h.keep fun b _ hs => hb.block b hs
theorem TrS.below (h : TrS w K A n f) (hb : Below w.heap.size w w') : TrS w' K A n f := h.keep fun b _ hs => hb.block b hs
theorem Tr.step {i : Nat} (h : Tr w K r (xs.drop i)) (hi : i < xs.length) : ∃ wd ns bl y nx, r = .cons wd ns bl y nx ∧ (smS.nth xs i).word = wd ∧ (smS.nth xs i).block = bl ∧ RwP nmS w K (smS.nth xs i).nA (smS.nth xs i).nn ns ∧ TrS w K (smS.nth xs i).bA (smS.nth xs i).bn y ∧ Tr w K nx (xs.drop (i + 1)) := by
  have e : xs.drop i = smS.nth xs i :: xs.drop (i + 1) := by
    rw [List.drop_eq_getElem_cons hi]
    congr 1
    exact (Sh.nth_of smS (List.getElem?_eq_getElem hi)).symm
  rw [e] at h
  match r, h with
  | .nil, h => cases h
  | .cons wd ns bl y nx, ⟨x, xs', e2, h1, h2, h3, h4, h5⟩ =>
    injection e2 with e3 e4
    subst e3 e4
    exact ⟨wd, ns, bl, y, nx, rfl, h1, h2, h3, h4, h5⟩
theorem Tr.done {i : Nat} (h : Tr w K r (xs.drop i)) (hi : xs.length ≤ i) : r = .nil := by
  rw [List.drop_eq_nil_of_le hi] at h
  match r, h with
  | .nil, _ => rfl
  | .cons _ _ _ _ _, ⟨_, _, e, _⟩ => cases e
theorem RwP.len {Q : Program} {α : Type} {σ : Sh Q α} {ys : List α} (h : RwP σ w K A n ys) : ys.length = n := h.1
end

def CountSaid (g : Nat) (f : Fo) : Prop := ∀ (w : World) (K : Nat → Prop) (A : Option Addr) (n c : Nat), TrS w K A n f → f.count ≤ 4611686018427387904 → Calls Tryz.prog g #[.slice A n c] w fun e w' => e = .returned (.int .i64 (f.count : Nat)) ∧ Below w.heap.size w w'
set_option maxRecDepth 100000 in
theorem count_step (f : Fo) (hf : f.Bodies (CountSaid 18)) : CountSaid 18 f := by
  intro w K A n c ht hc
  obtain ⟨xs, hx, htr⟩ := ht
  have HX := hid hx
  have HL := hid (show f.len = n by rw [← htr.len, hx.1])
  have HC := hid hc
  have HB := hid hf
  have HT := hid htr
  have hn : (n : Int) ≤ 4611686018427387904 := by have := f.len_le; have := HL.out; omega
  clear hx hc hf htr
  go_enter Tryz.func18, Tryz.ntmps18
  go_wp2
  go_loopw [3, 10] (fun v3 v10 wr => ∃ (i m : Nat) (r : Fo), v3 = .int .i64 (m : Nat) ∧ v10 = .int .i64 (i : Nat) ∧ i ≤ n ∧ m + r.nest = f.count ∧ r.Bodies (CountSaid 18) ∧ Tr w K r (xs.drop i) ∧ Below w.heap.size w wr) (fun _ v10 _ => n - (intOf v10).toNat)
  case atStart => exact ⟨0, n, f, rfl, rfl, Nat.zero_le _, by rw [f.count_nest, HL.out], HB.out, by simpa using HT.out, Below.refl _ _⟩
  case round =>
    obtain ⟨i, m, r, rfl, rfl, hi, hm, hbo, htr, hbel⟩ := hrel
    have BW := hid hbel
    have HM := hid hm
    by_cases hlt : i < n
    · obtain ⟨wd, ns, bl, y, nx, rfl, _, _, _, hy, hnx⟩ := htr.step (by rw [HX.out.1]; exact hlt)
      obtain ⟨b, o, rfl, hb, hcell⟩ := (HX.out.size.below hbel).at_ hlt
      generalize hxe : smS.nth xs i = x at *
      clear hxe
      have r1 : wr.rangeAt b (o + i * 4) (smS.enc x) := hcell
      have HY := hid hbo.1
      have HN := hid (And.intro hbo.2 hnx)
      have HYT := hid hy
      have hyc : (y.count : Int) ≤ 4611686018427387904 := by have := HC.out; simp only [Fo.nest] at hm; omega
      have hmy : (m : Int) + y.count ≤ 4611686018427387904 := by have := HC.out; simp only [Fo.nest] at hm; omega
      have hmc : (m : Int) ≤ 4611686018427387904 := by have := HC.out; omega
      clear hcell hbel hm hbo htr hy hnx hb
      go_wp2_with (first
        | (go_at_call 18; have h9 := HY.out w3 K x.bA x.bn x.bc (HYT.out.below B3.out) (by omega); (with_reducible refine h9.mono ?_); rintro e w4 ⟨rfl, b4⟩; have B4 := hid (B3.out.trans (b4.mono B3.out.size)); clear b4)
        | (refine Sh.wp_sv smS (x := x) rfl (.tmp 5) (.tmp 13) rfl rfl (by rfl) q2 ?_; intro w3 q3 b3 o3 s3; have c3 : w3.cell? ⟨wr.heap.size, 3, none⟩ = some (.slice x.bA x.bn x.bc) := q3.cell (j := 3) rfl; have B3 := hid (BW.out.trans ((B2.out.trans (b3.mono (Nat.le_refl _))).mono BW.out.size)); clear q3 b3 o3 s3)
        | (refine Sh.wp_al smS rfl rfl ?_; intro w2 q2 b2 s2; have B2 := hid b2; clear b2 s2)
        | (refine Sh.wp_ld smS rfl (.tmp 12) rfl rfl r1 ?_))
      go_roundw
      case rel => exact ⟨i + 1, m + y.count, nx, by go_num, by go_num, by omega, by have := HM.out; simp only [Fo.nest] at this; omega, HN.out.1, HN.out.2, B4.out⟩
      case measure => simp [intOf]; omega
    · obtain rfl : i = n := by omega
      have hr := htr.done (by rw [HX.out.1]; exact Nat.le_refl _)
      subst hr
      have hm2 : m = f.count := by simpa [Fo.nest] using hm
      clear hm hbo htr hbel
      have HM2 := hid hm2
      clear hm2
      go_wp2
      go_ret
      exact ⟨by rw [← HM2.out]; rfl, BW.out⟩
theorem count_any (f : Fo) : CountSaid 18 f := (Fo.ind count_step f).1

def DepthSaid (g : Nat) (f : Fo) : Prop := ∀ (w : World) (K : Nat → Prop) (A : Option Addr) (n c : Nat), TrS w K A n f → f.count ≤ 4611686018427387904 → Calls Tryz.prog g #[.slice A n c] w fun e w' => e = .returned (.int .i64 (f.depth : Nat)) ∧ Below w.heap.size w w'
set_option maxRecDepth 100000 in
theorem depth_step (f : Fo) (hf : f.Bodies (DepthSaid 19)) : DepthSaid 19 f := by
  intro w K A n c ht hc
  obtain ⟨xs, hx, htr⟩ := ht
  have HX := hid hx
  have HL := hid (show f.len = n by rw [← htr.len, hx.1])
  have HC := hid hc
  have HB := hid hf
  have HT := hid htr
  have hn : (n : Int) ≤ 4611686018427387904 := by have := f.len_le; have := HL.out; omega
  clear hx hc hf htr
  go_enter Tryz.func19, Tryz.ntmps19
  go_wp2
  go_loopw [3, 9] (fun v3 v9 wr => ∃ (i m : Nat) (r : Fo), v3 = .int .i64 (m : Nat) ∧ v9 = .int .i64 (i : Nat) ∧ i ≤ n ∧ max m r.depth = f.depth ∧ r.count ≤ f.count ∧ r.Bodies (DepthSaid 19) ∧ Tr w K r (xs.drop i) ∧ Below w.heap.size w wr) (fun _ v9 _ => n - (intOf v9).toNat)
  case atStart => exact ⟨0, 0, f, rfl, rfl, Nat.zero_le _, by omega, Nat.le_refl _, HB.out, by simpa using HT.out, Below.refl _ _⟩
  case round =>
    obtain ⟨i, m, r, rfl, rfl, hi, hm, hrc, hbo, htr, hbel⟩ := hrel
    have BW := hid hbel
    have HM := hid (And.intro hm hrc)
    by_cases hlt : i < n
    · obtain ⟨wd, ns, bl, y, nx, rfl, _, hbl, _, hy, hnx⟩ := htr.step (by rw [HX.out.1]; exact hlt)
      obtain ⟨b, o, rfl, hb, hcell⟩ := (HX.out.size.below hbel).at_ hlt
      generalize hxe : smS.nth xs i = x at *
      clear hxe
      have r1 : wr.rangeAt b (o + i * 4) (smS.enc x) := hcell
      have HY := hid hbo.1
      have HN := hid (And.intro hbo.2 hnx)
      have HYT := hid hy
      have hyc := hid (show y.count ≤ 4611686018427387904 by have := HC.out; simp only [Fo.count] at hrc; omega)
      have hyd : (y.depth : Int) ≤ 4611686018427387905 := by have := y.depth_le; have := hyc.out; omega
      have hmc : (m : Int) ≤ 4611686018427387905 := by have := f.depth_le; have := HC.out; omega
      clear hcell hbel hm hbo htr hy hnx hb hrc
      obtain ⟨xw, xA, xn, xc, xb, xB, xm, xk⟩ := x
      have hbl : xb = bl := hbl
      subst hbl
      cases xb
      · go_wp2_with (first
          | (go_at_call 19; have h9 := HY.out w3 K xB xm xk (HYT.out.below B3.out) hyc.out; (with_reducible refine h9.mono ?_); rintro e w4 ⟨rfl, b4⟩; have c2 : w4.cell? ⟨wr.heap.size, 2, none⟩ = _ := (b4.cell (p := ⟨wr.heap.size, 2, none⟩) L3.out).trans c2; have B4 := hid (B3.out.trans (b4.mono B3.out.size)); clear b4)
          | (refine Sh.wp_sv smS (x := ⟨xw, xA, xn, xc, false, xB, xm, xk⟩) rfl (.tmp 5) (.tmp 12) rfl rfl (by rfl) q2 ?_; intro w3 q3 b3 o3 s3; have c3 : w3.cell? ⟨wr.heap.size, 3, none⟩ = some (.slice xB xm xk) := q3.cell (j := 3) rfl; have c2 := q3.cell (j := 2) rfl; have L3 := hid q3.lt; have B3 := hid (BW.out.trans ((B2.out.trans (b3.mono (Nat.le_refl _))).mono BW.out.size)); clear q3 b3 o3 s3)
          | (refine Sh.wp_al smS rfl rfl ?_; intro w2 q2 b2 s2; have B2 := hid b2; clear b2 s2)
          | (refine Sh.wp_ld smS rfl (.tmp 11) rfl rfl r1 ?_))
        go_roundw
        case rel =>
          refine ⟨i + 1, max m (1 + max y.depth 0), nx, ?_, by go_num, by omega, ?_, by have := HM.out.2; simp only [Fo.count] at this; omega, HN.out.1, HN.out.2, B4.out⟩
          · congr 1
            first | omega | (rw [wrap64_of (by omega) (by omega)]; omega)
          · have h1 := HM.out.1
            simp only [Fo.depth] at h1
            simp at h1
            omega
        case measure => simp [intOf]; omega
      · go_wp2_with (first
          | (go_at_call 19; have h9 := HY.out w3 K xB xm xk (HYT.out.below B3.out) hyc.out; (with_reducible refine h9.mono ?_); rintro e w4 ⟨rfl, b4⟩; have c2 : w4.cell? ⟨wr.heap.size, 2, none⟩ = _ := (b4.cell (p := ⟨wr.heap.size, 2, none⟩) L3.out).trans c2; have B4 := hid (B3.out.trans (b4.mono B3.out.size)); clear b4)
          | (refine Sh.wp_sv smS (x := ⟨xw, xA, xn, xc, true, xB, xm, xk⟩) rfl (.tmp 5) (.tmp 12) rfl rfl (by rfl) q2 ?_; intro w3 q3 b3 o3 s3; have c3 : w3.cell? ⟨wr.heap.size, 3, none⟩ = some (.slice xB xm xk) := q3.cell (j := 3) rfl; have c2 := q3.cell (j := 2) rfl; have L3 := hid q3.lt; have B3 := hid (BW.out.trans ((B2.out.trans (b3.mono (Nat.le_refl _))).mono BW.out.size)); clear q3 b3 o3 s3)
          | (refine Sh.wp_al smS rfl rfl ?_; intro w2 q2 b2 s2; have B2 := hid b2; clear b2 s2)
          | (refine Sh.wp_ld smS rfl (.tmp 11) rfl rfl r1 ?_))
        go_roundw
        case rel =>
          refine ⟨i + 1, max m (1 + max y.depth 1), nx, ?_, by go_num, by omega, ?_, by have := HM.out.2; simp only [Fo.count] at this; omega, HN.out.1, HN.out.2, B4.out⟩
          · congr 1
            first | omega | (rw [wrap64_of (by omega) (by omega)]; omega)
          · have h1 := HM.out.1
            simp only [Fo.depth] at h1
            simp at h1
            omega
        case measure => simp [intOf]; omega
    · obtain rfl : i = n := by omega
      have hr := htr.done (by rw [HX.out.1]; exact Nat.le_refl _)
      subst hr
      have hm2 : m = f.depth := by simpa [Fo.depth] using hm
      clear hm hbo htr hbel
      have HM2 := hid hm2
      clear hm2
      go_wp2
      go_ret
      exact ⟨by rw [← HM2.out]; rfl, BW.out⟩
theorem depth_any (f : Fo) : DepthSaid 19 f := (Fo.ind depth_step f).1
end Go.Proofs.YtinjhnflnfpoeaaGreatDoor
