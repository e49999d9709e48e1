/-
  RB: Contracts of parse.room and parse.Check, at every forest of at most 2^61 statements; and when Check answers OK.
  QA: What a text is parsed as, with a bound on the steps (parN), so that it can be reckoned; the contract of the law functions' live: it is true; under: the tables hold what the program lays (LaidW).
  QG: Plain words: what a text is cut into, and parsed as, that has another one behind it, with a line's end between. No model's run; no condition.
  RC: The contract of parse.Check at every forest of at most 2^61 statements; and what is parsed may be: Check answers OK.
  QI: Words for memory: a slice appended whole to one of the call's own; two forests put together so. No condition but what each head says.
  RD: Contracts of slices.Clone at numbers, and words for flatBehind's region.
  RE: Contracts of parse.flatBehind and parse.Flat, at every forest of at most a million statements whose words and numbers are of some size.
-/
import Derived.Test.YtpkoboohnbkpoaaGreatDoorK6
import Derived.Deep.RegionHeld3
/-! RB -/
namespace Go.Proofs.YtpkoboohnbkpoaaGreatDoor
open Go Go.RowKit Go.Joins

/-- words and numbers of statements are of some size -/
def Fo.okS : Fo → Prop
  | nil => True
  | cons wd ns _ y n => wd.length ≤ 1000000 ∧ ns.length ≤ 1000000 ∧ y.okS ∧ n.okS
def RoomSaid (f : Fo) : Prop := ∀ (w : World) (K : Nat → Prop) (A : Option Addr) (n c : Nat) (many deep : Int), TrS w K A n f → f.okS → f.count ≤ 2305843009213693952 → -2305843009213693952 ≤ many → many ≤ 2305843009213693952 → -2305843009213693952 ≤ deep - f.depth → deep ≤ 2305843009213693952 →
  Calls Tryz.prog 86 #[.slice A n c, .int .i64 many, .int .i64 deep] w fun e w' => e = .returned (.int .i64 (f.roomF (many - f.len) deep)) ∧ Below w.heap.size w w'
set_option maxHeartbeats 2000000 in
set_option maxRecDepth 100000 in
theorem room_step (f : Fo) (hf : f.Bodies RoomSaid) : RoomSaid f := by
  intro w K A n c many deep ht hok hc hm1 hm2 hd1 hd2
  have HL := hid (show f.len = n from ht.len.symm)
  obtain ⟨xs, hx, htr⟩ := ht
  have HX := hid hx
  have HC := hid hc
  have HS0 := hid (And.intro hf (And.intro htr hok))
  have hn : (n : Int) ≤ 2305843009213693952 := by have := f.len_le; have := HL.out; omega
  obtain ⟨R, hR⟩ : ∃ R, f.roomF (many - f.len) deep = R := ⟨_, rfl⟩
  rw [hR]
  have HR := hid (show f.roomF (many - n) deep = R by rw [← HL.out]; exact hR)
  have HD := hid hd1
  have hdl : -2305843009213693952 ≤ deep := by have := f.depth; omega
  clear hx hc hf htr hR hok hd1
  go_enter Tryz.func86, Tryz.ntmps86
  go_wp2
  go_loopw [1, 15] (fun v1 v15 wr => ∃ (i : Nat) (m : Int) (r : Fo), v1 = .int .i64 m ∧ v15 = .int .i64 (i : Int) ∧ i ≤ n ∧ r.roomF m deep = R ∧ -4611686018427387904 ≤ m ∧ m ≤ 2305843009213693952 ∧ r.count ≤ f.count ∧ r.depth ≤ f.depth ∧ r.Bodies RoomSaid ∧ Tr w K r (xs.drop i) ∧ r.okS ∧ Below w.heap.size w wr) (fun _ v15 _ => n - (intOf v15).toNat)
  case atStart => exact ⟨0, many - n, f, rfl, rfl, Nat.zero_le _, HR.out, by omega, by omega, Nat.le_refl _, Nat.le_refl _, HS0.out.1, by simpa using HS0.out.2.1, HS0.out.2.2, Below.refl _ _⟩
  case round =>
    obtain ⟨i, m, r, rfl, rfl, hi, hrm, hml, hmu, hrc, hrd, hbo, htr, hok, hbel⟩ := hrel
    have BW := hid hbel
    by_cases hlt : i < n
    · obtain ⟨wd, ns, bl, y, nx, rfl, e1, e2, hns, hy, hnx⟩ := htr.step (by rw [HX.out.1]; exact hlt)
      obtain ⟨b, o, rfl, hb, hcell⟩ := (HX.out.size.below hbel).at_ hlt
      generalize smS.nth xs i = x at *
      obtain ⟨xw, xA, xn, xc, xb, xB, xm, xk⟩ := x
      simp only at e1 e2 hns hy
      subst e1 e2
      have r1 : wr.rangeAt b (o + i * 4) (smS.enc ⟨xw, xA, xn, xc, xb, xB, xm, xk⟩) := hcell
      have HF := hid (fun w3 (b3 : Below w.heap.size w w3) => show Calls Tryz.prog 119 #[.agg #[.string (strB xw), .slice xA xn xc, .bool xb, .slice xB xm xk]] w3 fun e w' => e = .returned (.bool (fitB xw ns xb xm)) ∧ Below w3.heap.size w3 w' from
        fits_any ⟨xw, xA, xn, xc, xb, xB, xm, xk⟩ ns w3 (hns.below b3).size (by have := hns.1; have := hok.2.1; simp only; omega) hok.1 (by have := hy.len; have := y.len_le; have := HC.out; simp only [Fo.count] at hrc; simp only; omega))
      have hyl : y.len = xm := hy.len.symm
      have YL := hid hyl
      have HY := hid hbo.1
      have YT := hid hy
      have HQ := hid (show y.okS ∧ y.count ≤ 2305843009213693952 ∧ -2305843009213693952 ≤ deep - 1 - (y.depth : Int) from ⟨hok.2.2.1, by have := HC.out; simp only [Fo.count] at hrc; omega, by have := HD.out; simp only [Fo.depth] at hrd; omega⟩)
      have NX := hid (show nx.count ≤ f.count ∧ nx.depth ≤ f.depth ∧ nx.Bodies RoomSaid ∧ Tr w K nx (xs.drop (i + 1)) ∧ nx.okS from ⟨by simp only [Fo.count] at hrc; omega, by simp only [Fo.depth] at hrd; omega, hbo.2, hnx, hok.2.2.2⟩)
      rw [Fo.roomF, hyl] at hrm
      have HRM := hid hrm
      have LOW := hid (roomF_low y (m - xm) (deep - 1))
      have TOP := hid (roomF_top y (m - xm) (deep - 1))
      have YC := hid (show (y.nest : Int) + xm ≤ 2305843009213693952 by have := y.count_nest; have := HQ.out.2.1; omega)
      clear hcell hbel hrm hrc hrd hbo htr hok hns hy hnx hb hyl
      by_cases hneg : m < 0
      · have HV := hid (show -1 = R by rw [← HRM.out, if_pos (.inl hneg)])
        clear hml hmu
        go_upto_region 5 with (first
          | (refine Sh.wp_sv smS (x := ⟨xw, xA, xn, xc, xb, xB, xm, xk⟩) rfl (.tmp 8) (.tmp 18) rfl rfl (by rfl) q2 ?_; intro w3 q3 b3 o3 s3; have c0 : w3.cell? ⟨wr.heap.size, 0, none⟩ = some (.string (strB xw)) := q3.cell (j := 0) rfl; have c1 : w3.cell? ⟨wr.heap.size, 1, none⟩ = some (.slice xA xn xc) := q3.cell (j := 1) rfl; have c2 : w3.cell? ⟨wr.heap.size, 2, none⟩ = some (.bool xb) := q3.cell (j := 2) rfl; have c3 : w3.cell? ⟨wr.heap.size, 3, none⟩ = some (.slice xB xm xk) := q3.cell (j := 3) rfl; have V3 := hid q3; have B3 := hid (BW.out.trans ((B2.out.trans (b3.mono (Nat.le_refl _))).mono BW.out.size)); clear q3 b3 o3 s3)
          | (refine Sh.wp_al smS rfl rfl ?_; intro w2 q2 b2 s2; have B2 := hid b2; clear b2 s2)
          | (refine Sh.wp_ld smS rfl (.tmp 17) rfl rfl r1 ?_))
        go_wp2_with fail
        go_ret
        exact ⟨ret_int HV.out, B3.out⟩
      obtain ⟨fb, hfb⟩ : ∃ fb, fitB xw ns xb xm = fb := ⟨_, rfl⟩
      rw [hfb] at HF
      have HFB := hid hfb
      clear hfb
      cases fb with
      | false =>
        have HV := hid (show -1 = R by rw [← HRM.out, if_pos (.inr (.inl HFB.out))])
        go_upto_region 5 with (first
          | (refine Sh.wp_sv smS (x := ⟨xw, xA, xn, xc, xb, xB, xm, xk⟩) rfl (.tmp 8) (.tmp 18) rfl rfl (by rfl) q2 ?_; intro w3 q3 b3 o3 s3; have c0 : w3.cell? ⟨wr.heap.size, 0, none⟩ = some (.string (strB xw)) := q3.cell (j := 0) rfl; have c1 : w3.cell? ⟨wr.heap.size, 1, none⟩ = some (.slice xA xn xc) := q3.cell (j := 1) rfl; have c2 : w3.cell? ⟨wr.heap.size, 2, none⟩ = some (.bool xb) := q3.cell (j := 2) rfl; have c3 : w3.cell? ⟨wr.heap.size, 3, none⟩ = some (.slice xB xm xk) := q3.cell (j := 3) rfl; have V3 := hid q3; have B3 := hid (BW.out.trans ((B2.out.trans (b3.mono (Nat.le_refl _))).mono BW.out.size)); clear q3 b3 o3 s3)
          | (refine Sh.wp_al smS rfl rfl ?_; intro w2 q2 b2 s2; have B2 := hid b2; clear b2 s2)
          | (refine Sh.wp_ld smS rfl (.tmp 17) rfl rfl r1 ?_))
        go_wp2_with (first
          | (go_at_call 119; have h9 := HF.out w3 B3.out; (with_reducible refine h9.mono ?_); rintro e w4 ⟨rfl, b4⟩; have V4 := V3.out.keep b4; have c2 : w4.cell? ⟨wr.heap.size, 2, none⟩ = some (.bool xb) := V4.cell (j := 2) rfl; have c3 : w4.cell? ⟨wr.heap.size, 3, none⟩ = some (.slice xB xm xk) := V4.cell (j := 3) rfl; have B4 := hid (B3.out.trans (b4.mono B3.out.size)); clear b4 V4))
        go_ret
        exact ⟨ret_int HV.out, B4.out⟩
      | true =>
        cases xb with
        | true =>
          by_cases hd : deep = 1
          · have HV := hid (show -1 = R by rw [← HRM.out, if_pos (.inr (.inr ⟨rfl, hd⟩))])
            subst hd
            go_upto_region 5 with (first
              | (refine Sh.wp_sv smS (x := ⟨xw, xA, xn, xc, true, xB, xm, xk⟩) rfl (.tmp 8) (.tmp 18) rfl rfl (by rfl) q2 ?_; intro w3 q3 b3 o3 s3; have c0 : w3.cell? ⟨wr.heap.size, 0, none⟩ = some (.string (strB xw)) := q3.cell (j := 0) rfl; have c1 : w3.cell? ⟨wr.heap.size, 1, none⟩ = some (.slice xA xn xc) := q3.cell (j := 1) rfl; have c2 : w3.cell? ⟨wr.heap.size, 2, none⟩ = some (.bool true) := q3.cell (j := 2) rfl; have c3 : w3.cell? ⟨wr.heap.size, 3, none⟩ = some (.slice xB xm xk) := q3.cell (j := 3) rfl; have V3 := hid q3; have B3 := hid (BW.out.trans ((B2.out.trans (b3.mono (Nat.le_refl _))).mono BW.out.size)); clear q3 b3 o3 s3)
              | (refine Sh.wp_al smS rfl rfl ?_; intro w2 q2 b2 s2; have B2 := hid b2; clear b2 s2)
              | (refine Sh.wp_ld smS rfl (.tmp 17) rfl rfl r1 ?_))
            go_wp2_with (first
              | (go_at_call 119; have h9 := HF.out w3 B3.out; (with_reducible refine h9.mono ?_); rintro e w4 ⟨rfl, b4⟩; have V4 := V3.out.keep b4; have c2 : w4.cell? ⟨wr.heap.size, 2, none⟩ = some (.bool true) := V4.cell (j := 2) rfl; have c3 : w4.cell? ⟨wr.heap.size, 3, none⟩ = some (.slice xB xm xk) := V4.cell (j := 3) rfl; have B4 := hid (B3.out.trans (b4.mono B3.out.size)); clear b4 V4))
            go_ret
            exact ⟨ret_int HV.out, B4.out⟩
          · have hd' : (deep == 1) = false := beq_eq_false_iff_ne.2 hd
            have HV := hid (show nx.roomF (y.roomF (m - xm) (deep - 1)) deep = R by rw [← HRM.out, if_neg (by rintro (h | h | h) <;> first | exact hneg h | (rw [HFB.out] at h; cases h; done) | exact hd h.2)])
            go_upto_region 5 with (first
              | (refine Sh.wp_sv smS (x := ⟨xw, xA, xn, xc, true, xB, xm, xk⟩) rfl (.tmp 8) (.tmp 18) rfl rfl (by rfl) q2 ?_; intro w3 q3 b3 o3 s3; have c0 : w3.cell? ⟨wr.heap.size, 0, none⟩ = some (.string (strB xw)) := q3.cell (j := 0) rfl; have c1 : w3.cell? ⟨wr.heap.size, 1, none⟩ = some (.slice xA xn xc) := q3.cell (j := 1) rfl; have c2 : w3.cell? ⟨wr.heap.size, 2, none⟩ = some (.bool true) := q3.cell (j := 2) rfl; have c3 : w3.cell? ⟨wr.heap.size, 3, none⟩ = some (.slice xB xm xk) := q3.cell (j := 3) rfl; have V3 := hid q3; have B3 := hid (BW.out.trans ((B2.out.trans (b3.mono (Nat.le_refl _))).mono BW.out.size)); clear q3 b3 o3 s3)
              | (refine Sh.wp_al smS rfl rfl ?_; intro w2 q2 b2 s2; have B2 := hid b2; clear b2 s2)
              | (refine Sh.wp_ld smS rfl (.tmp 17) rfl rfl r1 ?_))
            go_wp2_with (first
              | (go_at_call 86; have h9 := HY.out w4 K xB xm xk m (deep - 1) (YT.out.below B4.out) HQ.out.1 HQ.out.2.1 (by omega) (by omega) (by have := HQ.out.2.2; omega) (by omega); (with_reducible refine h9.mono ?_); rintro e w5 ⟨rfl, b5⟩; have B5 := hid (B4.out.trans (b5.mono B4.out.size)); clear b5)
              | (go_at_call 119; have h9 := HF.out w3 B3.out; (with_reducible refine h9.mono ?_); rintro e w4 ⟨rfl, b4⟩; have V4 := V3.out.keep b4; have c2 : w4.cell? ⟨wr.heap.size, 2, none⟩ = some (.bool true) := V4.cell (j := 2) rfl; have c3 : w4.cell? ⟨wr.heap.size, 3, none⟩ = some (.slice xB xm xk) := V4.cell (j := 3) rfl; have B4 := hid (B3.out.trans (b4.mono B3.out.size)); clear b4 V4))
            go_roundw
            case rel => exact ⟨i + 1, y.roomF (m - y.len) (deep - 1), nx, rfl, by go_num, by omega, by rw [YL.out]; exact HV.out, by rw [YL.out]; have := LOW.out; have := YC.out; omega, by rw [YL.out]; have := TOP.out; omega, NX.out.1, NX.out.2.1, NX.out.2.2.1, NX.out.2.2.2.1, NX.out.2.2.2.2, B5.out⟩
            case measure => simp [intOf]; omega
        | false =>
          have HV := hid (show nx.roomF (y.roomF (m - xm) (deep - 1)) deep = R by rw [← HRM.out, if_neg (by rintro (h | h | h) <;> first | exact hneg h | (rw [HFB.out] at h; cases h; done) | exact absurd h.1 (by decide))])
          go_upto_region 5 with (first
            | (refine Sh.wp_sv smS (x := ⟨xw, xA, xn, xc, false, xB, xm, xk⟩) rfl (.tmp 8) (.tmp 18) rfl rfl (by rfl) q2 ?_; intro w3 q3 b3 o3 s3; have c0 : w3.cell? ⟨wr.heap.size, 0, none⟩ = some (.string (strB xw)) := q3.cell (j := 0) rfl; have c1 : w3.cell? ⟨wr.heap.size, 1, none⟩ = some (.slice xA xn xc) := q3.cell (j := 1) rfl; have c2 : w3.cell? ⟨wr.heap.size, 2, none⟩ = some (.bool false) := q3.cell (j := 2) rfl; have c3 : w3.cell? ⟨wr.heap.size, 3, none⟩ = some (.slice xB xm xk) := q3.cell (j := 3) rfl; have V3 := hid q3; have B3 := hid (BW.out.trans ((B2.out.trans (b3.mono (Nat.le_refl _))).mono BW.out.size)); clear q3 b3 o3 s3)
            | (refine Sh.wp_al smS rfl rfl ?_; intro w2 q2 b2 s2; have B2 := hid b2; clear b2 s2)
            | (refine Sh.wp_ld smS rfl (.tmp 17) rfl rfl r1 ?_))
          go_wp2_with (first
            | (go_at_call 86; have h9 := HY.out w4 K xB xm xk m (deep - 1) (YT.out.below B4.out) HQ.out.1 HQ.out.2.1 (by omega) (by omega) (by have := HQ.out.2.2; omega) (by omega); (with_reducible refine h9.mono ?_); rintro e w5 ⟨rfl, b5⟩; have B5 := hid (B4.out.trans (b5.mono B4.out.size)); clear b5)
            | (go_at_call 119; have h9 := HF.out w3 B3.out; (with_reducible refine h9.mono ?_); rintro e w4 ⟨rfl, b4⟩; have V4 := V3.out.keep b4; have c2 : w4.cell? ⟨wr.heap.size, 2, none⟩ = some (.bool false) := V4.cell (j := 2) rfl; have c3 : w4.cell? ⟨wr.heap.size, 3, none⟩ = some (.slice xB xm xk) := V4.cell (j := 3) rfl; have B4 := hid (B3.out.trans (b4.mono B3.out.size)); clear b4 V4))
          go_roundw
          case rel => exact ⟨i + 1, y.roomF (m - y.len) (deep - 1), nx, rfl, by go_num, by omega, by rw [YL.out]; exact HV.out, by rw [YL.out]; have := LOW.out; have := YC.out; omega, by rw [YL.out]; have := TOP.out; omega, NX.out.1, NX.out.2.1, NX.out.2.2.1, NX.out.2.2.2.1, NX.out.2.2.2.2, B5.out⟩
          case measure => simp [intOf]; omega
    · obtain rfl : i = n := by omega
      have hr := htr.done (by rw [HX.out.1]; exact Nat.le_refl _)
      subst hr
      have HV := hid (show m = R from hrm)
      clear hrm hbo htr hbel
      go_wp2
      go_ret
      exact ⟨ret_int HV.out, BW.out⟩
theorem room_any (f : Fo) : RoomSaid f := (Fo.ind room_step f).1
end Go.Proofs.YtpkoboohnbkpoaaGreatDoor

/-! QA -/
namespace Go.Proofs.YtpkoboohnbkpoaaGreatDoor
open Go Go.RowKit Go.Joins

def cutN : Nat → List UInt8 → Bool → Pl → List (Tk × Pl) × Option (Pl × Nat)
  | 0, _, _, _ => ([], none)
  | _ + 1, [], _, _ => ([], none)
  | f + 1, c :: r, rem, here =>
    if brok (c :: r) then ([], some (here, 4))
    else if (dec (c :: r)).1 = 10 then cutN f (r.drop ((dec (c :: r)).2 - 1)) false (behindP here 10)
    else if rem = true ∨ (dec (c :: r)).1 = 32 ∨ (dec (c :: r)).1 = 9 then cutN f (r.drop ((dec (c :: r)).2 - 1)) rem (behindP here (dec (c :: r)).1)
    else if (dec (c :: r)).1 = 35 then cutN f (r.drop ((dec (c :: r)).2 - 1)) true (behindP here (dec (c :: r)).1)
    else match tokF (pieceF (c :: r)) with
      | .error e => ([], some (here, e))
      | .ok t => ((t, here) :: (cutN f (r.drop ((pieceF (c :: r)).length - 1)) false ⟨here.line, here.col + (pieceF (c :: r)).length⟩).1, (cutN f (r.drop ((pieceF (c :: r)).length - 1)) false ⟨here.line, here.col + (pieceF (c :: r)).length⟩).2)
theorem cutN_eq : ∀ (f : Nat) (l : List UInt8) (rem : Bool) (here : Pl), l.length ≤ f → cutN f l rem here = cutL l rem here
  | 0, l, rem, here, h => by
    have : l = [] := List.eq_nil_of_length_eq_zero (by omega)
    subst this
    rw [cutN, cutL]
  | f + 1, [], rem, here, h => by rw [cutN, cutL]
  | f + 1, c :: r, rem, here, h => by
    have hr : r.length ≤ f := by simpa using h
    have hd : ∀ k, (r.drop k).length ≤ f := fun k => by rw [List.length_drop]; omega
    rw [cutN, cutL, cutN_eq f _ _ _ (hd _), cutN_eq f _ _ _ (hd _), cutN_eq f _ _ _ (hd _), cutN_eq f _ _ _ (hd _)]
    cases tokF (pieceF (c :: r)) <;> rfl


deriving instance DecidableEq for PRes
def parN (n : Nat) (l : List UInt8) : PRes :=
  if 65536 < l.length then .bad firstP 6
  else match (cutN n l false firstP).2 with
  | some (p, f) => .bad p f
  | none => match allF ((cutN n l false firstP).1.map (·.1)) with
    | .ok f _ _ => .ok f
    | .bad er r => .bad (plS.nth ((cutN n l false firstP).1.map (·.2) ++ [plAt l firstP l.length]) (((cutN n l false firstP).1.map (·.1)).length - r.length)) er
theorem parN_eq (n : Nat) (l : List UInt8) (h : l.length ≤ n) : parF l = parN n l := by
  unfold parF parN toksF placesF
  rw [cutN_eq n l false firstP h]
  rfl
theorem RwP.cells {P : Program} {α : Type} {σ : Sh P α} {w : World} {K : Nat → Prop} {A : Option Addr} {n : Nat} {xs : List α} (h : RwP σ w K A n xs) (hn : 0 < n) : ∃ b o, A = some ⟨b, o, none⟩ ∧ K b ∧ w.rangeAt b o (σ.flat xs) := by
  obtain ⟨b, o, e, hb, hc⟩ := h.2 hn
  exact ⟨b, o, e, hb, fun j u hu => hc j u hu⟩
def liveF : Fo := .cons [97, 116] [(5000, true)] true (.cons [99, 117, 116] [(1, false)] false .nil .nil) .nil
theorem live_par : parF [97, 116, 32, 53, 110, 115, 32, 123, 32, 99, 117, 116, 32, 49, 59, 32, 125] = .ok liveF := by
  rw [parN_eq 17 _ (by decide)]
  decide +kernel

set_option maxRecDepth 100000 in
theorem live_any (w : World) (hL : LaidW w) : Calls Tryz.prog 11 #[] w fun e w' => e = .returned (.bool true) ∧ Below w.heap.size w w' := by
  have HC := parse_any ⟨#[97, 116, 32, 53, 110, 115, 32, 123, 32, 99, 117, 116, 32, 49, 59, 32, 125]⟩ w hL (by decide)
  rw [show parF (⟨#[97, 116, 32, 53, 110, 115, 32, 123, 32, 99, 117, 116, 32, 49, 59, 32, 125]⟩ : ByteArray).data.toList = .ok liveF from live_par] at HC
  have HC := hid HC
  clear hL
  go_enter Tryz.func11, Tryz.ntmps11
  go_wp2_with fail
  refine HC.out.mono ?_
  rintro e w1 ⟨b1, A, n, c, rfl, xs, hx, ⟨x, xs', rfl, e1, e2, hns, ⟨ys, hy, y, ys', rfl, _, _, _, _, rfl⟩, rfl⟩⟩
  obtain rfl : n = 1 := hx.1.symm
  obtain ⟨b, o, rfl, hb, hc⟩ := hx.cells (by omega)
  have hn1 : x.nn = 1 := hns.1.symm
  obtain ⟨b2, o2, hA2, hb2, hc2⟩ := hns.cells (by omega)
  have hn2 : x.bn = 1 := hy.1.symm
  obtain ⟨xw, xA, xn, xc, xb, xB, xm, xk⟩ := x
  simp only at e1 e2 hn1 hn2 hA2
  subst e1 e2 hn1 hn2 hA2
  have c0 : w1.cell? ⟨b, o, none⟩ = some (.string ⟨#[97, 116]⟩) := hc 0 _ rfl
  have c1 : w1.cell? ⟨b, o + 1, none⟩ = some (.slice (some ⟨b2, o2, none⟩) 1 xc) := hc 1 _ rfl
  have c2 : w1.cell? ⟨b, o + 2, none⟩ = some (.bool true) := hc 2 _ rfl
  have c3 : w1.cell? ⟨b, o + 3, none⟩ = some (.slice xB 1 xk) := hc 3 _ rfl
  have d0 : w1.cell? ⟨b2, o2, none⟩ = some (.int .i64 5000) := hc2 0 _ rfl
  have d1 : w1.cell? ⟨b2, o2 + 1, none⟩ = some (.bool true) := hc2 1 _ rfl
  have hb3 := hb.2
  have hb4 := hb2.2
  clear hc hc2 hx hns hy hb hb2
  unfold plV
  go_wp2
  go_ret
  exact ⟨rfl, b1.alloc b1.size _⟩
end Go.Proofs.YtpkoboohnbkpoaaGreatDoor

/-! QG -/
namespace Go.Proofs.YtpkoboohnbkpoaaGreatDoor
open Go

theorem dec_app (c : UInt8) (r m : List UInt8) : dec ((c :: r) ++ 10 :: m) = dec (c :: r) := by
  match r with
  | [] => simp [dec, Lib.decodeN, gb]
  | [a] => simp [dec, Lib.decodeN, gb]
  | [a, b] => simp [dec, Lib.decodeN, gb]
  | a :: b :: d :: r' => simp [dec, Lib.decodeN, gb]
theorem brok_app (c : UInt8) (r m : List UInt8) : brok ((c :: r) ++ 10 :: m) = brok (c :: r) := by
  unfold brok
  rw [dec_app]
  congr 2
  match r with
  | [] => simp [List.isPrefixOf]
  | [a] => simp [List.isPrefixOf]
  | a :: b :: r' => simp [List.isPrefixOf]
theorem takeWhile_app (a m : List UInt8) : (a ++ 10 :: m).takeWhile ldB = a.takeWhile ldB := by
  induction a with
  | nil => rfl
  | cons d a ih =>
    by_cases h : ldB d = true
    · rw [List.cons_append, List.takeWhile_cons_of_pos h, List.takeWhile_cons_of_pos h, ih]
    · rw [List.cons_append, List.takeWhile_cons_of_neg h, List.takeWhile_cons_of_neg h]
theorem piece_app (c : UInt8) (r m : List UInt8) : pieceF ((c :: r) ++ 10 :: m) = pieceF (c :: r) := by
  have h1 := dec_app c r m
  have h2 := dec_le c r
  rw [List.cons_append] at h1 ⊢
  rw [pieceF_cons, pieceF_cons, h1]
  rw [← List.cons_append, List.take_append_of_le_length (by simpa using h2), List.drop_append_of_le_length (by simpa using h2), takeWhile_app]

/-- The tokens, and what is wrong, without places. -/
def tks (X : List (Tk × Pl) × Option (Pl × Nat)) : List Tk × Option Nat := (X.1.map (·.1), X.2.map (·.2))

theorem tks_place : ∀ (n : Nat) (l : List UInt8) (rem : Bool) (p q : Pl), l.length ≤ n → tks (cutL l rem p) = tks (cutL l rem q) := by
  intro n
  induction n with
  | zero =>
    intro l rem p q h
    have : l = [] := List.eq_nil_of_length_eq_zero (by omega)
    subst this
    rw [cutL, cutL]
  | succ n ih =>
    intro l rem p q h
    match l with
    | [] => rw [cutL, cutL]
    | c :: r =>
      have hr : r.length ≤ n := by simpa using h
      have hd : ∀ k, (r.drop k).length ≤ n := fun k => by rw [List.length_drop]; omega
      rw [cutL, cutL]
      split
      · rfl
      split
      · exact ih _ _ _ _ (hd _)
      split
      · exact ih _ _ _ _ (hd _)
      split
      · exact ih _ _ _ _ (hd _)
      cases tokF (pieceF (c :: r)) with
      | error e => rfl
      | ok t =>
        have := ih (r.drop ((pieceF (c :: r)).length - 1)) false ⟨p.line, p.col + (pieceF (c :: r)).length⟩ ⟨q.line, q.col + (pieceF (c :: r)).length⟩ (hd _)
        simp only [tks, Prod.mk.injEq] at this ⊢
        rw [List.map_cons, List.map_cons, this.1, this.2]
        exact ⟨rfl, rfl⟩
theorem tks_free (l : List UInt8) (rem : Bool) (p q : Pl) : tks (cutL l rem p) = tks (cutL l rem q) := tks_place l.length l rem p q (Nat.le_refl _)

/-- A line's end behind a text, and another text. -/
def CutJ (m : List UInt8) (X Y : List (Tk × Pl) × Option (Pl × Nat)) : Prop :=
  (∀ e, X.2 = some e → Y = X) ∧ (X.2 = none → ∃ q, Y = (X.1 ++ (cutL m false q).1, (cutL m false q).2))
theorem cutj_cons {m : List UInt8} {X Y : List (Tk × Pl) × Option (Pl × Nat)} (h : CutJ m X Y) (t : Tk × Pl) : CutJ m (t :: X.1, X.2) (t :: Y.1, Y.2) := by
  refine ⟨fun e he => ?_, fun he => ?_⟩
  · rw [h.1 e he]
  · obtain ⟨q, hq⟩ := h.2 he
    exact ⟨q, by rw [hq]; rfl⟩
theorem cut_join (m : List UInt8) : ∀ (n : Nat) (l : List UInt8) (rem : Bool) (p : Pl), l.length ≤ n → CutJ m (cutL l rem p) (cutL (l ++ 10 :: m) rem p) := by
  have hnil : ∀ rem p, CutJ m (cutL [] rem p) (cutL ([] ++ 10 :: m) rem p) := by
    intro rem p
    have hb : brok (10 :: m) = false := by unfold brok; rw [dec_ascii 10 m (by decide)]; rfl
    have e2 : cutL [] rem p = ([], none) := by rw [cutL]
    rw [e2]
    refine ⟨fun e he => (by cases he), fun _ => ⟨behindP p 10, ?_⟩⟩
    rw [List.nil_append, cutL, if_neg (by rw [hb]; decide), dec_ascii 10 m (by decide), if_pos (by decide)]
    rfl
  intro n
  induction n with
  | zero =>
    intro l rem p h
    have : l = [] := List.eq_nil_of_length_eq_zero (by omega)
    subst this
    exact hnil rem p
  | succ n ih =>
    intro l rem p h
    match l with
    | [] => exact hnil rem p
    | c :: r =>
      have hr : r.length ≤ n := by simpa using h
      have hd : ∀ k, (r.drop k).length ≤ n := fun k => by rw [List.length_drop]; omega
      have e1 := dec_app c r m
      have e2 := brok_app c r m
      have e3 := piece_app c r m
      have h2 := dec_le c r
      have h3 := (piece_len (c :: r)).1
      have h1 := dec_pos (c :: r)
      have h4 := (piece_len (c :: r)).2 (by simp)
      have ed : ∀ k, k ≤ r.length → (r ++ 10 :: m).drop k = r.drop k ++ 10 :: m := fun k hk => List.drop_append_of_le_length hk
      have bad : ∀ e : Pl × Nat, CutJ m ([], some e) ([], some e) := fun e => ⟨fun _ _ => rfl, fun h => (by cases h)⟩
      rw [List.cons_append] at e1 e2 e3 ⊢
      rw [cutL, cutL, e1, e2, e3, ed _ (by omega), ed _ (by simp at h3; omega)]
      split
      · exact bad _
      split
      · exact ih _ _ _ (hd _)
      split
      · exact ih _ _ _ (hd _)
      split
      · exact ih _ _ _ (hd _)
      cases tokF (pieceF (c :: r)) with
      | error e => exact bad _
      | ok t => exact cutj_cons (ih (r.drop ((pieceF (c :: r)).length - 1)) false ⟨p.line, p.col + (pieceF (c :: r)).length⟩ (hd _)) _

/-! ### Statements of tokens, without a bound on the steps -/
section
variable {L L' : Nat → Nat → List Tk → Res} {k : Nat}
theorem blk_congr (h : ∀ d m ts, ts.length ≤ k → L d m ts = L' d m ts) (d m : Nat) (ts : List Tk) (hk : ts.length ≤ k) : blkF L d m ts = blkF L' d m ts := by
  unfold blkF; rw [h d m ts hk]
theorem end_congr (h : ∀ d m ts, ts.length ≤ k → L d m ts = L' d m ts) (wd : List UInt8) (ns : List (Int × Bool)) (d m : Nat) (ts : List Tk) (hk : ts.length ≤ k + 1) : endF L wd ns d m ts = endF L' wd ns d m ts := by
  unfold endF
  match ts with
  | [] => rfl
  | s :: r2 => simp only; rw [blk_congr h (d + 1) m r2 (by simpa using hk)]
theorem stm_congr (h : ∀ d m ts, ts.length ≤ k → L d m ts = L' d m ts) (wd : List UInt8) (d m : Nat) (ts : List Tk) (hk : ts.length ≤ k + 1) : stmF L wd d m ts = stmF L' wd d m ts := by
  unfold stmF
  have hr : (restF ts).length ≤ k + 1 := Nat.le_trans (List.dropWhile_suffix isN).length_le hk
  rw [end_congr h wd _ d m _ hr]
end
theorem lst_fuel : ∀ (n k d m : Nat) (ts : List Tk), ts.length ≤ n → ts.length ≤ k → lstF n d m ts = lstF k d m ts := by
  intro n
  induction n using Nat.strongRecOn with
  | ind n ih =>
    intro k d m ts hn hk
    match ts with
    | [] => rw [lst_end, lst_end]
    | t :: r =>
      obtain ⟨n, rfl⟩ : ∃ j, n = j + 1 := ⟨n - 1, by simp at hn; omega⟩
      obtain ⟨k, rfl⟩ : ∃ j, k = j + 1 := ⟨k - 1, by simp at hk; omega⟩
      by_cases h1 : t.kind = 1
      · rw [lst_word n d m t r h1, lst_word k d m t r h1]
        have hr : r.length ≤ n := by simpa using hn
        have hr2 : r.length ≤ k := by simpa using hk
        have e : stmX (lstF n) d m t r = stmX (lstF k) d m t r := by
          unfold stmX
          rw [stm_congr (k := r.length) (fun d m ts hts => ih n (by omega) k d m ts (by omega) (by omega)) t.s d (m + 1) r (by omega)]
        rw [e]
        cases hx : stmX (lstF k) d m t r with
        | bad e r2 => rfl
        | ok x m2 r2 =>
          have := (stmX_one hx).2.2
          simp only
          rw [ih n (by omega) k d m2 r2 (by omega) (by omega)]
      · rw [lst_none _ _ _ _ _ h1 hn, lst_none _ _ _ _ _ h1 hk]
def lst (d m : Nat) (ts : List Tk) : Res := lstF ts.length d m ts
theorem lst_nil (d m : Nat) : lst d m [] = .ok .nil m [] := rfl
theorem lst_cons_no (d m : Nat) (t : Tk) (r : List Tk) (h : ¬ t.kind = 1) : lst d m (t :: r) = .ok .nil m (t :: r) := lst_none _ _ _ _ _ h (Nat.le_refl _)
theorem lst_cons (d m : Nat) (t : Tk) (r : List Tk) (h : t.kind = 1) : lst d m (t :: r) = match stmX lst d m t r with
    | .bad e r2 => .bad e r2
    | .ok x m2 r2 => preR x (lst d m2 r2) := by
  unfold lst
  rw [List.length_cons, lst_word r.length d m t r h]
  have e : stmX (lstF r.length) d m t r = stmX (fun d m ts => lstF ts.length d m ts) d m t r := by
    unfold stmX
    rw [stm_congr (k := r.length) (fun d m ts hts => lst_fuel r.length ts.length d m ts hts (Nat.le_refl _)) t.s d (m + 1) r (by omega)]
  rw [← e]
  cases hx : stmX (lstF r.length) d m t r with
  | bad e r2 => rfl
  | ok x m2 r2 =>
    have := (stmX_one hx).2.2
    simp only
    rw [lst_fuel r.length r2.length d m2 r2 this (Nat.le_refl _)]

/-! ### With more tokens behind -/
/-- What is told of a beginning holds of the whole, but where it ends too soon. -/
def Ext (us : List Tk) (X Y : Res) : Prop := match X with
  | .bad e r => e ≠ 3 → r ≠ [] ∧ Y = .bad e (r ++ us)
  | .ok f m r => r ≠ [] → Y = .ok f m (r ++ us)
section
variable {L : Nat → Nat → List Tk → Res} {us : List Tk} {k : Nat}
theorem blk_ext (h : ∀ d m ts, ts.length ≤ k → Ext us (L d m ts) (L d m (ts ++ us))) (d m : Nat) (ts : List Tk) (hk : ts.length ≤ k) : match blkF L d m ts with
    | .bad e r => e ≠ 3 → r ≠ [] ∧ blkF L d m (ts ++ us) = .bad e (r ++ us)
    | .ok f m2 r => blkF L d m (ts ++ us) = .ok f m2 (r ++ us) := by
  have h1 := h d m ts hk
  unfold blkF
  generalize L d m ts = X at *
  generalize L d m (ts ++ us) = Y at *
  match X with
  | .bad e r =>
    intro he
    obtain ⟨h2, rfl⟩ := h1 he
    exact ⟨h2, rfl⟩
  | .ok f m2 [] => exact fun h => absurd rfl h
  | .ok f m2 (c :: r) =>
    obtain rfl := h1 (by simp)
    by_cases hc : c.kind = 3 ∧ c.s = [125]
    · simp only [hc, and_self, if_true, List.cons_append]
    · simp only [hc, if_false, List.cons_append]
      exact fun _ => ⟨by simp, trivial⟩
theorem end_ext (h : ∀ d m ts, ts.length ≤ k → Ext us (L d m ts) (L d m (ts ++ us))) (wd : List UInt8) (ns : List (Int × Bool)) (d m : Nat) (ts : List Tk) (hk : ts.length ≤ k + 1) : match endF L wd ns d m ts with
    | .bad e r => e ≠ 3 → r ≠ [] ∧ endF L wd ns d m (ts ++ us) = .bad e (r ++ us)
    | .ok f m2 r => endF L wd ns d m (ts ++ us) = .ok f m2 (r ++ us) := by
  match ts with
  | [] => exact fun h => absurd rfl h
  | s :: r2 =>
    rw [List.cons_append]
    unfold endF
    simp only
    by_cases h1 : s.kind = 1
    · simp only [h1, if_true]; exact fun _ => ⟨by simp, rfl⟩
    simp only [h1, if_false]
    by_cases h2 : s.s = [59]
    · simp only [h2, if_true]
    simp only [h2, if_false]
    by_cases h3 : s.s = [123]
    · simp only [h3, if_true]
      by_cases h4 : 6 ≤ d
      · simp only [h4, if_true]; exact fun _ => ⟨by simp, rfl⟩
      simp only [h4, if_false]
      have hb := blk_ext h (d + 1) m r2 (by simpa using hk)
      generalize blkF L (d + 1) m r2 = X at *
      match X with
      | .bad e r =>
        intro he
        obtain ⟨h5, h6⟩ := hb he
        rw [h6]; exact ⟨h5, rfl⟩
      | .ok f m2 r => simp only at hb ⊢; rw [hb]
    · simp only [h3, if_false]; exact fun _ => ⟨by simp, rfl⟩
theorem takeWhile_ext (ts us : List Tk) (h : restF ts ≠ []) : (ts ++ us).takeWhile isN = ts.takeWhile isN ∧ restF (ts ++ us) = restF ts ++ us := by
  unfold restF at *
  induction ts with
  | nil => exact absurd rfl h
  | cons t ts ih =>
    by_cases ht : isN t = true
    · rw [List.dropWhile_cons_of_pos ht] at h
      rw [List.cons_append, List.takeWhile_cons_of_pos ht, List.takeWhile_cons_of_pos ht, List.dropWhile_cons_of_pos ht, List.dropWhile_cons_of_pos ht, (ih h).1, (ih h).2]
      exact ⟨rfl, rfl⟩
    · rw [List.cons_append, List.takeWhile_cons_of_neg ht, List.takeWhile_cons_of_neg ht, List.dropWhile_cons_of_neg ht, List.dropWhile_cons_of_neg ht]
      exact ⟨rfl, rfl⟩
theorem takeWhile_long (ts us : List Tk) : (ts.takeWhile isN).length ≤ ((ts ++ us).takeWhile isN).length := by
  induction ts with
  | nil => simp
  | cons t ts ih =>
    by_cases ht : isN t = true
    · rw [List.cons_append, List.takeWhile_cons_of_pos ht, List.takeWhile_cons_of_pos ht, List.length_cons, List.length_cons]; omega
    · rw [List.cons_append, List.takeWhile_cons_of_neg ht]; simp
theorem stm_ext (h : ∀ d m ts, ts.length ≤ k → Ext us (L d m ts) (L d m (ts ++ us))) (wd : List UInt8) (d m : Nat) (ts : List Tk) (hk : ts.length ≤ k + 1) : match stmF L wd d m ts with
    | .bad e r => e ≠ 3 → r ≠ [] ∧ stmF L wd d m (ts ++ us) = .bad e (r ++ us)
    | .ok f m2 r => stmF L wd d m (ts ++ us) = .ok f m2 (r ++ us) := by
  unfold stmF
  by_cases hf : fewN ts = true
  · rw [if_pos hf]
    by_cases hr : restF ts = []
    · rw [hr]; exact fun h => absurd rfl h
    · obtain ⟨e1, e2⟩ := takeWhile_ext ts us hr
      have hf2 : fewN (ts ++ us) = true := by unfold fewN at *; rw [e1]; exact hf
      have hn : numsF (ts ++ us) = numsF ts := by unfold numsF; rw [e1]
      rw [if_pos hf2, hn, e2]
      have hr3 : (restF ts).length ≤ k + 1 := Nat.le_trans (List.dropWhile_suffix isN).length_le hk
      exact end_ext h wd _ d m _ hr3
  · rw [if_neg hf]
    have hl : 8 < (ts.takeWhile isN).length := by unfold fewN at hf; simpa using hf
    have hl2 := takeWhile_long ts us
    have hf2 : ¬ fewN (ts ++ us) = true := by unfold fewN; simp; omega
    have h8 : 8 < ts.length := Nat.lt_of_lt_of_le hl (List.takeWhile_prefix isN).length_le
    rw [if_neg hf2]
    intro _
    refine ⟨fun h => ?_, by rw [List.drop_append_of_le_length (by omega)]⟩
    have := congrArg List.length h
    rw [List.length_drop] at this
    simp at this; omega
end
theorem lst_ext (us : List Tk) : ∀ (n d m : Nat) (ts : List Tk), ts.length ≤ n → Ext us (lst d m ts) (lst d m (ts ++ us)) := by
  intro n
  induction n with
  | zero =>
    intro d m ts h
    have : ts = [] := List.eq_nil_of_length_eq_zero (by omega)
    subst this
    exact fun h => absurd rfl h
  | succ n ih =>
    intro d m ts h
    match ts with
    | [] => exact fun h => absurd rfl h
    | t :: r =>
      have hr : r.length ≤ n := by simpa using h
      by_cases h1 : t.kind = 1
      · rw [List.cons_append, lst_cons d m t r h1, lst_cons d m t (r ++ us) h1]
        by_cases hm : m = 2000
        · unfold stmX; rw [if_pos hm, if_pos hm]
          exact fun _ => ⟨by simp, rfl⟩
        · have hs := stm_ext (L := lst) (us := us) (k := r.length) (fun d m ts hts => ih d m ts (by omega)) t.s d (m + 1) r (by omega)
          have e1 : stmX lst d m t r = stmF lst t.s d (m + 1) r := by unfold stmX; rw [if_neg hm]
          have e2 : stmX lst d m t (r ++ us) = stmF lst t.s d (m + 1) (r ++ us) := by unfold stmX; rw [if_neg hm]
          rw [e1, e2]
          have hsh := stm_short (L := lst) (fun d m ts => lst_short _ d m ts) t.s d (m + 1) r
          generalize stmF lst t.s d (m + 1) r = X at *
          match X with
          | .bad e r2 =>
            intro he
            obtain ⟨h2, h3⟩ := hs he
            rw [h3]; exact ⟨h2, rfl⟩
          | .ok x m2 r2 =>
            simp only at hs ⊢
            rw [hs]
            have hl : r2.length ≤ n := by obtain ⟨p, hp⟩ := hsh; have := congrArg List.length hp; simp at this; omega
            have h5 := ih d m2 r2 hl
            simp only
            generalize lst d m2 r2 = Z at *
            match Z with
            | .bad e r3 =>
              intro he
              obtain ⟨h6, h7⟩ := h5 he
              rw [h7]; exact ⟨h6, rfl⟩
            | .ok f m3 r3 =>
              intro hne
              rw [h5 hne]; rfl
      · rw [List.cons_append, lst_cons_no d m t r h1, lst_cons_no d m t (r ++ us) h1]
        exact fun _ => rfl
theorem lst_app (us : List Tk) : ∀ (n d m : Nat) (ts : List Tk) (f : Fo) (m2 : Nat), ts.length ≤ n → lst d m ts = .ok f m2 [] → lst d m (ts ++ us) = preR f (lst d m2 us) := by
  intro n
  induction n with
  | zero =>
    intro d m ts f m2 h he
    have : ts = [] := List.eq_nil_of_length_eq_zero (by omega)
    subst this
    rw [lst_nil] at he
    cases he
    rw [preR_nil]; rfl
  | succ n ih =>
    intro d m ts f m2 h he
    match ts with
    | [] => rw [lst_nil] at he; cases he; rw [preR_nil]; rfl
    | t :: r =>
      have hr : r.length ≤ n := by simpa using h
      by_cases h1 : t.kind = 1
      · rw [lst_cons d m t r h1] at he
        rw [List.cons_append, lst_cons d m t (r ++ us) h1]
        by_cases hm : m = 2000
        · unfold stmX at he; rw [if_pos hm] at he; cases he
        · have hs := stm_ext (L := lst) (us := us) (k := r.length) (fun d m ts hts => lst_ext us _ d m ts (Nat.le_refl _)) t.s d (m + 1) r (by omega)
          have e1 : stmX lst d m t r = stmF lst t.s d (m + 1) r := by unfold stmX; rw [if_neg hm]
          have e2 : stmX lst d m t (r ++ us) = stmF lst t.s d (m + 1) (r ++ us) := by unfold stmX; rw [if_neg hm]
          rw [e1] at he
          rw [e2]
          have hsh := stm_short (L := lst) (fun d m ts => lst_short _ d m ts) t.s d (m + 1) r
          generalize stmF lst t.s d (m + 1) r = X at *
          match X with
          | .bad e r2 => cases he
          | .ok x m3 r2 =>
            simp only at hs he ⊢
            rw [hs]
            have hl : r2.length ≤ n := by obtain ⟨p, hp⟩ := hsh; have := congrArg List.length hp; simp at this; omega
            simp only
            cases hz : lst d m3 r2 with
            | bad e r3 => rw [hz] at he; cases he
            | ok g m4 r3 =>
              rw [hz] at he
              cases he
              rw [ih d m3 r2 _ _ hl hz, preR_app]
      · rw [lst_cons_no d m t r h1] at he; cases he

/-! ### However many there are ahead -/
section
variable {L : Nat → Nat → List Tk → Res}
def Sh3 (L : Nat → Nat → List Tk → Res) (k : Nat) : Prop := ∀ (d a : Nat) (ts : List Tk) (f : Fo) (b : Nat) (r : List Tk), ts.length ≤ k → L d a ts = .ok f b r → ∀ c, c + f.count ≤ 2000 → L d c ts = .ok f (c + f.count) r
theorem blk_shift {k : Nat} (h : Sh3 L k) {d a : Nat} {ts : List Tk} {f : Fo} {b : Nat} {r : List Tk} (hk : ts.length ≤ k) (he : blkF L d a ts = .ok f b r) (c : Nat) (hc : c + f.count ≤ 2000) : blkF L d c ts = .ok f (c + f.count) r := by
  unfold blkF at he ⊢
  cases hx : L d a ts with
  | bad e r2 => rw [hx] at he; cases he
  | ok g m r2 =>
    rw [hx] at he
    match r2 with
    | [] => cases he
    | s :: r3 =>
      simp only at he
      split at he
      · rename_i hs
        cases he
        rw [h d a ts _ _ _ hk hx c hc]
        simp only
        rw [if_pos hs]
      · cases he
theorem end_shift {k : Nat} (h : Sh3 L k) {wd : List UInt8} {ns : List (Int × Bool)} {d a : Nat} {ts : List Tk} {f : Fo} {b : Nat} {r : List Tk} (hk : ts.length ≤ k + 1) (he : endF L wd ns d (a + 1) ts = .ok f b r) (c : Nat) (hc : c + f.count ≤ 2000) : endF L wd ns d (c + 1) ts = .ok f (c + f.count) r := by
  unfold endF at he ⊢
  match ts with
  | [] => cases he
  | s :: r2 =>
    simp only at he ⊢
    split at he
    · cases he
    rename_i h1
    rw [if_neg h1]
    split at he
    · rename_i h2
      rw [if_pos h2]
      cases he
      simp [Fo.count]
    rename_i h2
    rw [if_neg h2]
    split at he
    · rename_i h3
      rw [if_pos h3]
      split at he
      · cases he
      rename_i h4
      rw [if_neg h4]
      cases hx : blkF L (d + 1) (a + 1) r2 with
      | bad e r3 => rw [hx] at he; cases he
      | ok g m r3 =>
        rw [hx] at he
        cases he
        have := blk_shift h (by simpa using hk) hx (c + 1) (by simp only [Fo.count] at hc; omega)
        rw [this]
        simp only [Fo.count]
        congr 1; omega
    · cases he
theorem stm_shift {k : Nat} (h : Sh3 L k) {wd : List UInt8} {d a : Nat} {ts : List Tk} {f : Fo} {b : Nat} {r : List Tk} (hk : ts.length ≤ k + 1) (he : stmF L wd d (a + 1) ts = .ok f b r) (c : Nat) (hc : c + f.count ≤ 2000) : stmF L wd d (c + 1) ts = .ok f (c + f.count) r := by
  unfold stmF at he ⊢
  split at he
  · rename_i hf
    have hr : (restF ts).length ≤ k + 1 := Nat.le_trans (List.dropWhile_suffix isN).length_le hk
    rw [if_pos hf]
    exact end_shift h hr he c hc
  · cases he
end
theorem lst_shift : ∀ n, Sh3 lst n := by
  intro n
  induction n with
  | zero =>
    intro d a ts f b r h he c hc
    have : ts = [] := List.eq_nil_of_length_eq_zero (by omega)
    subst this
    rw [lst_nil] at he ⊢
    cases he
    rfl
  | succ n ih =>
    intro d a ts f b r h he c hc
    match ts with
    | [] => rw [lst_nil] at he ⊢; cases he; rfl
    | t :: q =>
      have hq : q.length ≤ n := by simpa using h
      by_cases h1 : t.kind = 1
      · rw [lst_cons d a t q h1] at he
        rw [lst_cons d c t q h1]
        by_cases hm : a = 2000
        · unfold stmX at he; rw [if_pos hm] at he; cases he
        · have e1 : stmX lst d a t q = stmF lst t.s d (a + 1) q := by unfold stmX; rw [if_neg hm]
          rw [e1] at he
          cases hx : stmF lst t.s d (a + 1) q with
          | bad e r2 => rw [hx] at he; cases he
          | ok x m2 r2 =>
            rw [hx] at he
            simp only at he
            have hone := stm_one (L := lst) (fun d m ts => lst_many _ d m ts) hx
            have hsh := stm_short (L := lst) (fun d m ts => lst_short _ d m ts) t.s d (a + 1) q
            rw [hx] at hsh
            have hl : r2.length ≤ n := by obtain ⟨p, hp⟩ := hsh; have := congrArg List.length hp; simp at this; omega
            cases hz : lst d m2 r2 with
            | bad e r3 => rw [hz] at he; cases he
            | ok g m3 r3 =>
              rw [hz] at he
              cases he
              rw [Fo.count_app] at hc
              have hx1 : 1 ≤ x.count := by have := x.len_le; omega
              have hcm : ¬ c = 2000 := by omega
              have e2 : stmX lst d c t q = stmF lst t.s d (c + 1) q := by unfold stmX; rw [if_neg hcm]
              rw [e2, stm_shift (k := n) ih (by omega) hx c (by omega)]
              simp only
              rw [ih d m2 r2 _ _ _ hl hz (c + x.count) (by omega), Fo.count_app]
              simp only [preR]
              congr 1; omega
      · rw [lst_cons_no d a t q h1] at he
        rw [lst_cons_no d c t q h1]
        cases he
        rfl

/-! ### All of a text's tokens, and more behind -/
theorem allF_lst (ts : List Tk) : allF ts = match lst 1 0 ts with
    | .bad e r => .bad e r
    | .ok f m r => match r with
      | [] => .ok f m []
      | c :: r2 => .bad 4 (c :: r2) := rfl
theorem all_bad {ts us : List Tk} {e : Nat} {r : List Tk} (h : allF ts = .bad e r) (he : e ≠ 3) : r ≠ [] ∧ allF (ts ++ us) = .bad e (r ++ us) := by
  rw [allF_lst] at h ⊢
  have hx := lst_ext us _ 1 0 ts (Nat.le_refl _)
  generalize lst 1 0 ts = X at *
  generalize lst 1 0 (ts ++ us) = Y at *
  match X with
  | .bad e2 r2 =>
    cases h
    obtain ⟨h1, rfl⟩ := hx he
    exact ⟨h1, rfl⟩
  | .ok f m [] => cases h
  | .ok f m (c :: r2) =>
    cases h
    obtain rfl := hx (by simp)
    exact ⟨by simp, rfl⟩
theorem all_ok {ts : List Tk} {f : Fo} {m : Nat} {r : List Tk} (h : allF ts = .ok f m r) : lst 1 0 ts = .ok f m [] ∧ m = f.count ∧ m ≤ 2000 := by
  rw [allF_lst] at h
  have hx := lst_many ts.length 1 0 ts
  have hx : Many 0 (lst 1 0 ts) := hx
  generalize lst 1 0 ts = X at *
  match X with
  | .bad e2 r2 => cases h
  | .ok f m [] => cases h; exact ⟨rfl, by have := hx.1; omega, hx.2 (by omega)⟩
  | .ok f m (c :: r2) => cases h
theorem all_join {ts us : List Tk} {f g : Fo} {m k : Nat} {r q : List Tk} (h : allF ts = .ok f m r) (h2 : allF us = .ok g k q) (hc : f.count + g.count ≤ 2000) : allF (ts ++ us) = .ok (f.app g) (f.count + g.count) [] := by
  obtain ⟨h3, h4, _⟩ := all_ok h
  obtain ⟨h5, h6, _⟩ := all_ok h2
  have h7 := lst_shift us.length 1 0 us g k [] (Nat.le_refl _) h5 m (by omega)
  rw [allF_lst, lst_app us _ 1 0 ts f m (Nat.le_refl _) h3, h7]
  simp only [preR]
  rw [h4]
end Go.Proofs.YtpkoboohnbkpoaaGreatDoor

/-! RC -/
namespace Go.Proofs.YtpkoboohnbkpoaaGreatDoor
open Go Go.RowKit Go.Joins

def chkE (f : Fo) : Nat := if f.roomF (2000 - f.len) 6 < 0 then 1 else 0
set_option maxRecDepth 100000 in
theorem check_any (f : Fo) (w : World) (K : Nat → Prop) (A : Option Addr) (n c : Nat) (ht : TrS w K A n f) (hok : f.okS) (hc : f.count ≤ 2305843009213693000) :
    Calls Tryz.prog 40 #[.slice A n c] w fun e w' => e = .returned (.int .i64 (chkE f : Nat)) ∧ Below w.heap.size w w' := by
  have HR := hid (room_any f w K A n c 2000 6 ht hok (by omega) (by omega) (by omega) (by have := f.depth_le; omega) (by omega))
  clear ht hok hc
  unfold chkE
  generalize f.roomF (2000 - f.len) 6 = R at *
  by_cases hR : R < 0
  · rw [if_pos hR]
    go_enter Tryz.func40, Tryz.ntmps40
    go_wp2_with (first
      | (go_at_call 86; refine HR.out.mono ?_; rintro e w1 ⟨rfl, b1⟩; have B1 := hid b1; clear b1))
    go_ret
    exact ⟨rfl, B1.out⟩
  · rw [if_neg hR]
    go_enter Tryz.func40, Tryz.ntmps40
    go_wp2_with (first
      | (go_at_call 86; refine HR.out.mono ?_; rintro e w1 ⟨rfl, b1⟩; have B1 := hid b1; clear b1))
    go_ret
    exact ⟨rfl, B1.out⟩

/-! ### What is parsed may be -/
def Fo.okA : Fo → Int → Prop
  | nil, _ => True
  | cons wd ns bl y n, k => fitB wd ns bl y.len = true ∧ (bl = true → 1 < k) ∧ y.okA (k - 1) ∧ n.okA k
theorem roomF_ok : ∀ (f : Fo) (m k : Int), f.okA k → (f.nest : Int) ≤ m → f.roomF m k = m - f.nest := by
  intro f
  induction f with
  | nil => intro m k _ _; simp [Fo.roomF, Fo.nest]
  | cons wd ns bl y n ih1 ih2 =>
    intro m k h hm
    obtain ⟨h1, h2, h3, h4⟩ := h
    have hy := y.count_nest
    simp only [Fo.nest] at hm ⊢
    rw [Fo.roomF, if_neg (by
      rintro (h | h | h)
      · omega
      · rw [h1] at h; cases h
      · have := h2 h.1; omega), ih1 _ _ h3 (by omega), ih2 _ _ h4 (by omega)]
    omega
theorem okA_app {f g : Fo} {k : Int} (h : f.okA k) (h2 : g.okA k) : (f.app g).okA k := by
  induction f with
  | nil => exact h2
  | cons w ns b y n _ ih => exact ⟨h.1, h.2.1, h.2.2.1, ih h.2.2.2⟩
def goodT (t : Tk) : Prop := (t.kind = 1 → wordB t.s = true) ∧ (t.kind = 2 → -1000000000000000000 < t.n ∧ t.n < 1000000000000000000)
def Good (ts : List Tk) : Prop := ∀ t ∈ ts, goodT t
def OkB (d : Nat) : Res → Prop
  | .ok f _ r => f.okA (7 - d) ∧ Good r
  | .bad _ _ => True
theorem nums_fit {ts : List Tk} (h : Good ts) : (numsF ts).any farB = false := by
  rw [List.any_eq_false]
  intro x hx
  obtain ⟨t, ht, rfl⟩ := List.mem_map.1 hx
  have h1 : isN t = true := by
    have := List.all_eq_true.1 (show (ts.takeWhile isN).all isN = true from by
      clear hx ht h
      induction ts with
      | nil => rfl
      | cons u us ih =>
        by_cases hu : isN u = true
        · rw [List.takeWhile_cons_of_pos hu, List.all_cons, hu, ih]; rfl
        · rw [List.takeWhile_cons_of_neg hu]; rfl) t ht
    exact this
  have h2 := (h t ((List.takeWhile_prefix isN).subset ht)).2 (by simpa [isN] using h1)
  show ¬ (decide (t.n ≤ -1000000000000000000) || decide (1000000000000000000 ≤ t.n)) = true
  rw [Bool.or_eq_true, decide_eq_true_eq, decide_eq_true_eq]
  omega
theorem good_tail {t : Tk} {r : List Tk} (h : Good (t :: r)) : Good r := fun x hx => h x (List.mem_cons_of_mem _ hx)
theorem good_rest {ts : List Tk} (h : Good ts) : Good (restF ts) := fun x hx => h x ((List.dropWhile_suffix isN).subset hx)
section
variable {L : Nat → Nat → List Tk → Res}
theorem blk_okB (hL : ∀ d m ts, Good ts → OkB d (L d m ts)) (d m : Nat) (ts : List Tk) (hg : Good ts) : OkB d (blkF L d m ts) := by
  have h := hL d m ts hg
  unfold blkF
  generalize L d m ts = X at *
  match X with
  | .bad e r => trivial
  | .ok f m r =>
    match r with
    | [] => trivial
    | c :: r3 =>
      simp only
      split
      · exact ⟨h.1, good_tail h.2⟩
      · trivial
theorem end_okB (hL : ∀ d m ts, Good ts → OkB d (L d m ts)) (wd : List UInt8) (ns : List (Int × Bool)) (d m : Nat) (ts : List Tk) (hg : Good ts) (hw : wordB wd = true) (hn : ns.length ≤ 8) (hf : ns.any farB = false) : OkB d (endF L wd ns d m ts) := by
  unfold endF
  match ts with
  | [] => trivial
  | s :: r2 =>
    simp only
    split
    · trivial
    split
    · exact ⟨⟨by simp [fitB, hw, hn, hf, Fo.len], fun h => (by cases h), trivial, trivial⟩, good_tail hg⟩
    split
    · split
      · trivial
      · rename_i hd
        have hb := blk_okB hL (d + 1) m r2 (good_tail hg)
        generalize blkF L (d + 1) m r2 = X at *
        match X with
        | .bad e r => trivial
        | .ok f m r =>
          refine ⟨⟨by simp [fitB, hw, hn, hf], fun _ => by omega, ?_, trivial⟩, hb.2⟩
          have := hb.1
          rwa [show (7 : Int) - ((d + 1 : Nat) : Int) = 7 - (d : Int) - 1 by omega] at this
    · trivial
end
theorem lst_okB : ∀ (n d m : Nat) (ts : List Tk), Good ts → OkB d (lstF n d m ts)
  | 0, _, _, _, hg => ⟨trivial, hg⟩
  | n + 1, d, m, [], hg => ⟨trivial, hg⟩
  | n + 1, d, m, t :: r, hg => by
    by_cases h1 : t.kind = 1
    · rw [lst_word n d m t r h1]
      have hs : OkB d (stmX (lstF n) d m t r) := by
        unfold stmX
        split
        · trivial
        · unfold stmF
          split
          · rename_i hf
            exact end_okB (fun d m ts h => lst_okB n d m ts h) _ _ _ _ _ (good_rest (good_tail hg)) ((hg t (List.mem_cons_self ..)).1 h1) (by unfold numsF; rw [List.length_map]; simpa [fewN] using hf) (nums_fit (good_tail hg))
          · trivial
      generalize stmX (lstF n) d m t r = X at *
      match X with
      | .bad e r => trivial
      | .ok x m2 r2 =>
        simp only
        have := lst_okB n d m2 r2 hs.2
        generalize lstF n d m2 r2 = Y at *
        match Y with
        | .bad e r => trivial
        | .ok f m r => exact ⟨okA_app hs.1 this.1, this.2⟩
    · rw [lstF, if_neg h1]; exact ⟨trivial, hg⟩
theorem dig_is {l : List UInt8} (h : l.all digB = true) : isDigits l := fun c hc => by
  have := List.all_eq_true.1 h c hc
  simpa [digB] using this
theorem tok_good (p : List UInt8) (t : Tk) (h : tokF p = .ok t) : goodT t := by
  have hn : ∀ p t, numF p = .ok t → goodT t := by
    intro p t h
    unfold numF at h
    split at h
    · cases h
    split at h
    · cases h
    rename_i h18
    split at h
    · split at h
      · rename_i hb
        cases h
        exact ⟨fun h => absurd (show _ = _ from h) (by simp), fun _ => hb⟩
      · cases h
    · cases h
      refine ⟨fun h => absurd (show _ = _ from h) (by simp), fun _ => ?_⟩
      have := decV_18 _ (dig_is (all_takeWhile digB (sizeF p))) (by omega)
      unfold valF
      split <;> (constructor <;> (simp only; omega))
  match p with
  | [] => cases h
  | c :: r =>
    unfold tokF at h
    simp only at h
    split at h
    · cases h; exact ⟨fun h => absurd (show _ = _ from h) (by simp), fun h => absurd (show _ = _ from h) (by simp)⟩
    split at h
    · rename_i hw
      cases h; exact ⟨fun _ => hw, fun h => absurd (show _ = _ from h) (by simp)⟩
    split at h
    · cases h
    · exact hn _ _ h
theorem cut_good : ∀ (n : Nat) (l : List UInt8) (rem : Bool) (p : Pl), l.length ≤ n → ∀ x ∈ (cutL l rem p).1, goodT x.1 := by
  intro n
  induction n with
  | zero =>
    intro l rem p h
    have : l = [] := List.eq_nil_of_length_eq_zero (by omega)
    subst this
    rw [cutL]
    exact fun _ h => (by cases h)
  | succ n ih =>
    intro l rem p h
    match l with
    | [] =>
      rw [cutL]
      exact fun _ h => (by cases h)
    | c :: r =>
      have hr : r.length ≤ n := by simpa using h
      have hd : ∀ k, (r.drop k).length ≤ n := fun k => by rw [List.length_drop]; omega
      rw [cutL]
      split
      · exact fun _ h => (by cases h)
      split
      · exact ih _ _ _ (hd _)
      split
      · exact ih _ _ _ (hd _)
      split
      · exact ih _ _ _ (hd _)
      split
      · exact fun _ h => (by cases h)
      · rename_i t hte
        have h1 := tok_good _ _ hte
        have h2 := ih (r.drop ((pieceF (c :: r)).length - 1)) false ⟨p.line, p.col + (pieceF (c :: r)).length⟩ (hd _)
        intro x hx
        rcases List.mem_cons.1 hx with rfl | hx
        · exact h1
        · exact h2 x hx
theorem toks_good (l : List UInt8) : Good (toksF l) := by
  intro t ht
  obtain ⟨x, hx, rfl⟩ := List.mem_map.1 ht
  exact cut_good _ l false firstP (Nat.le_refl _) x hx
theorem par_okA {l : List UInt8} {f : Fo} (h : parF l = .ok f) : f.okA 6 ∧ f.count ≤ 2000 := by
  unfold parF at h
  split at h
  · cases h
  split at h
  · cases h
  cases ha : allF (toksF l) with
  | bad er r => rw [ha] at h; cases h
  | ok f2 m2 r =>
    rw [ha] at h
    cases h
    obtain ⟨h1, h2, h3⟩ := all_ok ha
    have h4 := lst_okB (toksF l).length 1 0 (toksF l) (toks_good l)
    rw [show lstF (toksF l).length 1 0 (toksF l) = lst 1 0 (toksF l) from rfl, h1] at h4
    exact ⟨h4.1, by omega⟩
theorem okA_okS : ∀ {f : Fo} {k : Int}, f.okA k → f.okS
  | .nil, _, _ => trivial
  | .cons wd ns bl y n, k, h => by
    obtain ⟨h1, _, h3, h4⟩ := h
    simp only [fitB, Bool.and_eq_true, decide_eq_true_eq] at h1
    refine ⟨?_, by omega, okA_okS h3, okA_okS h4⟩
    have hw := h1.1
    unfold wordB at hw
    match wd, hw with
    | c :: r, hw =>
      simp only [Bool.and_eq_true, decide_eq_true_eq] at hw
      simp only [List.length_cons]; omega
theorem par_check {l : List UInt8} {f : Fo} (h : parF l = .ok f) : chkE f = 0 := by
  obtain ⟨h1, h2⟩ := par_okA h
  have hn := f.count_nest
  unfold chkE
  rw [roomF_ok f _ _ h1 (by omega), if_neg (by omega)]
end Go.Proofs.YtpkoboohnbkpoaaGreatDoor

/-! QI -/
namespace Go.Proofs.YtpkoboohnbkpoaaGreatDoor
open Go Go.RowKit Go.Joins

theorem run_append_none {P : Program} {w : World} (base : Nat) (t ty e : TypeId) (i : TypeInfo) (size : Nat) (ht : P.underlying t = some (.slice e)) (hi : P.info? e = some i)
    (v : Value) (n : Nat) (xs : List Value) (hown : w.ownsRow base e size v n xs) (c : Nat) :
    (Builtin.append_ #[t, t] ty #[v, .slice none 0 c]).run P w = .ok v w := by
  rcases hown.2 with ⟨rfl, rfl⟩ | ⟨g, cap, cur, rfl, _, _, hnc, _⟩
  · simp [Builtin.append_, run_underlying ht, sizeOf, typeInfo, hi, Builtin.lenOf, Builtin.firstCells]
  · simp [Builtin.append_, run_underlying ht, sizeOf, typeInfo, hi, Builtin.lenOf, Builtin.firstCells, hnc, storeCells]
section
variable {P : Program} {α : Type} (σ : Sh P α) {w : World} {ops : Array Oper} {rest : List Oper} {o : Oper} {a : Act} {Q : Exit → Act → World → Prop}
theorem Sh.run_app {base n c m c2 : Nat} {A A2 : Option Addr} {l ys : List α} (ty : TypeId) (hown : σ.Ow w base A n c l) (hr : σ.Rw w w.heap.size A2 m ys) (hn : n + m ≤ 1000000) (hbase : base ≤ w.heap.size) :
    ∃ A' c' w', (Builtin.append_ #[σ.S, σ.S] ty #[.slice A n c, .slice A2 m c2]).run P w = .ok (.slice A' (n + m) c') w' ∧ σ.Ow w' base A' (n + m) c' (l ++ ys) ∧ w.grownBy w' (Value.ownBlock (.slice A n c)) ∧
      (Value.ownBlock (.slice A' (n + m) c') = Value.ownBlock (.slice A n c) ∨ Value.ownBlock (.slice A' (n + m) c') = some w.heap.size) := by
  obtain ⟨i, hi0, hi1, hi2, hi3⟩ := info_parts σ.info
  have hsm := σ.small
  have hmul : (n + m) * σ.by_ ≤ (n + m) * 10000 := Nat.mul_le_mul_left _ hsm
  cases A2 with
  | none =>
    obtain rfl : m = 0 := by
      rcases Nat.eq_zero_or_pos m with h | h
      · exact h
      · obtain ⟨b, o, e, _⟩ := hr.2 h; cases e
    obtain rfl : ys = [] := List.eq_nil_of_length_eq_zero hr.1
    refine ⟨A, c, w, run_append_none base σ.S ty σ.T i σ.N σ.undS hi0 _ n _ hown c2, by simpa using hown, ⟨rfl, rfl, rfl, Nat.le_refl _, fun _ _ _ => rfl⟩, .inl rfl⟩
  | some ad =>
    have hcells : ∀ j u, (σ.flat ys)[j]? = some u → w.cell? (ad.add j) = some u := by
      intro j u hu
      rcases Nat.eq_zero_or_pos m with h | h
      · obtain rfl : ys = [] := List.eq_nil_of_length_eq_zero (by rw [hr.1, h])
        cases hu
      · obtain ⟨b, o, e, _, hc⟩ := hr.2 h
        cases e
        rw [plain_add]
        exact hc j u hu
    obtain ⟨v', w', hrun, h2, h3, h4, h5⟩ := run_append_own_at (P := P) w base σ.S ty σ.T i (.agg (σ.enc σ.z).toArray) σ.N σ.by_ σ.undS hi0 hi1 hi2 hi3 (by simp [Value.cells, σ.len]) σ.pos (.slice A n c) n (σ.flat l) hown ad m c2 (σ.flat ys) (by rw [Sh.flat_len, hr.1])
      hcells (σ.flat_one ys) (by unfold maxLen; omega) (by omega) hbase
    have e1 : σ.flat l ++ σ.flat ys = σ.flat (l ++ ys) := (Sh.flat_app σ l ys).symm
    rw [e1] at h2
    have h6 := h2.2
    rcases h6 with ⟨rfl, h0⟩ | ⟨g, cap, cur, rfl, r⟩
    · exact ⟨none, 0, w', by rw [hrun, h0], by rw [h0] at h2 ⊢; exact h2, h3, by rw [h0]; exact h5⟩
    · exact ⟨_, _, w', hrun, h2, h3, h5⟩
theorem Sh.wp_app {base n c m c2 : Nat} {A A2 : Option Addr} {l ys : List α} (hw : Region.wanted o (yielded ops a.tmps) = true) (s e : Operand) (ho : o.op = .call { callee := .builtin .append, args := #[s, e], argTypes := #[σ.S, σ.S] })
    (hs : a.eval s = .slice A n c) (hown : σ.Ow w base A n c l) (hx : a.eval e = .slice A2 m c2) (hr : σ.Rw w w.heap.size A2 m ys) (hn : n + m ≤ 1000000) (hbase : base ≤ w.heap.size)
    (h : ∀ A' c' w', σ.Ow w' base A' (n + m) c' (l ++ ys) → w.grownBy w' (Value.ownBlock (.slice A n c)) → (Value.ownBlock (.slice A' (n + m) c') = Value.ownBlock (.slice A n c) ∨ Value.ownBlock (.slice A' (n + m) c') = some w.heap.size) → wpList P ops Q rest (a.put o.dst (.slice A' (n + m) c')) w') : wpList P ops Q (o :: rest) a w :=
  wpList_step fun K hK => by
    rw [if_pos hw]
    obtain ⟨A', c', w', hrun, h2, h3, h4⟩ := σ.run_app o.type hown hr hn hbase
    unfold Oper.wp execOp
    simp only [ho, resolve, invoke, builtin, Sem.run_bind, Sem.run_pure, Result.andThen_ok, List.map_toArray, List.map_cons, List.map_nil, hs, hx]
    rw [hrun]
    exact hK _ _ (h A' c' w' h2 h3 h4)
end
/-- Two forests put together in a new slice: the second append. -/
theorem two_app {w0 w1 w2 : World} {K K2 : Nat → Prop} {A' : Option Addr} {n1 c1 n' c' : Nat} {f g : Fo} {xs ys : List Sm} {B : Option Addr}
    (hx : Tr w0 K f xs) (hy : Tr w0 K2 g ys) (g1 : w0.grownBy w1 none) (o1 : smS.Ow w1 w0.heap.size B n1 c1 xs) (g2 : w1.grownBy w2 (Value.ownBlock (.slice B n1 c1))) (o2 : smS.Ow w2 w0.heap.size A' n' c' (xs ++ ys)) :
    TrS w2 (fun k => k < w2.heap.size) A' n' (f.app g) ∧ Below w0.heap.size w0 w2 := by
  have hb1 : Below w0.heap.size w0 w1 := (Below.refl _ _).grown g1 (Nat.le_refl _) (fun k hk => by cases hk)
  have hb : Below w0.heap.size w0 w2 := hb1.trans (Sh.grown_below smS o1 hb1.size g2)
  exact ⟨⟨xs ++ ys, o2.rowP.mono fun _ h _ => h.2.1, (((hx.keep fun b _ hs => hb.block b hs).mono (P' := fun k => k < w2.heap.size) fun _ _ h => h).app ((hy.keep fun b _ hs => hb.block b hs).mono fun _ _ h => h))⟩, hb⟩
end Go.Proofs.YtpkoboohnbkpoaaGreatDoor

/-! RD -/
namespace Go.Proofs.YtpkoboohnbkpoaaGreatDoor
open Go Go.RowKit Go.Joins

set_option maxRecDepth 100000 in
theorem cloneN_any (A : Option Addr) (n c : Nat) (ns : List (Int × Bool)) (w : World) (hr : nmS.Rw w w.heap.size A n ns) (hn : n ≤ 1000000) :
    Calls Tryz.prog 132 #[.slice A n c] w fun e w' => Below w.heap.size w w' ∧ ∃ A' c', e = .returned (.slice A' n c') ∧ RwP nmS w' (fun k => w.heap.size ≤ k ∧ k < w'.heap.size) A' n ns := by
  have HR := hid hr
  have q22 : ∀ (w : World) (a : Option Addr) (n c n' c' : Nat), (binOp .eql 34 (.slice a n c) (.slice none n' c')).run Tryz.prog w = .ok (.bool a.isNone) w := fun w a n c n' c' => Lib.run_eql_slice_nil w _ _ a n c n' c' Tryz.underlying34
  cases A with
  | none =>
    obtain rfl : n = 0 := by
      rcases Nat.eq_zero_or_pos n with h | h
      · exact h
      · obtain ⟨b, o, e, _⟩ := hr.2 h; cases e
    obtain rfl : ns = [] := List.eq_nil_of_length_eq_zero hr.1
    clear hr
    go_enter Tryz.func132, Tryz.ntmps132
    go_wp2
    go_ret
    exact ⟨Below.refl _ _, none, 0, rfl, RwP.nil⟩
  | some a =>
    clear hr
    go_enter Tryz.func132, Tryz.ntmps132
    have hlit : nmS.Ow (w.alloc (.cells #[] nmS.T)) w.heap.size (some ⟨w.heap.size, 0, none⟩) 0 0 [] := World.ownsRow_lit w #[] 0 (Nat.le_refl _) (by decide) rfl
    have HO := hid hlit
    clear hlit
    go_wp2_with (first
      | (refine Sh.wp_app nmS (A := some ⟨w.heap.size, 0, none⟩) (c := 0) (l := []) (base := w.heap.size) rfl (.tmp 5) (.tmp 6) rfl rfl HO.out rfl ((HR.out.below ((Below.refl _ _).alloc (Nat.le_refl _) _)).more (by simp)) (by omega) (by simp) ?_; intro A6 c6 w6 own6 gr6 li6; (simp only [Nat.zero_add, List.nil_append] at own6 ⊢); have O6 := hid own6; have B6 := hid (show Below w.heap.size w w6 from ((Below.refl _ _).alloc (Nat.le_refl _) _).trans (Sh.grown_below nmS HO.out (by simp) gr6)); clear own6 gr6 li6))
    go_ret
    exact ⟨B6.out, A6, c6, rfl, O6.out.rowP.mono fun _ h _ => ⟨h.1, h.2.1⟩⟩
theorem Sh.step_push2 {P : Program} {α : Type} (σ : Sh P α) {w : World} {x : α} {ops : Array Oper} {o : Oper} {a : Act} {Q : Exit → Act → World → Prop} {b base n c : Nat} {A : Option Addr} {l : List α} {K : Act → World → Prop} {E : Prop} (hgd : o.guard = none) (s e : Operand) (ho : o.op = .call { callee := .builtin .append, args := #[s, e], argTypes := #[σ.S, σ.S] })
    (hs : a.eval s = .slice A n c) (hown : σ.Ow w base A n c l) (hx : a.eval e = .slice (some ⟨b, 0, none⟩) 1 1) (hrow : w.rangeAt b 0 (σ.enc x)) (hn : n ≤ 1000000) (hbase : base ≤ w.heap.size)
    (h : ∀ A' c' w', σ.Ow w' base A' (n + 1) c' (l ++ [x]) → w.grownBy w' (Value.ownBlock (.slice A n c)) → (Value.ownBlock (.slice A' (n + 1) c') = Value.ownBlock (.slice A n c) ∨ Value.ownBlock (.slice A' (n + 1) c') = some w.heap.size) → K (a.put o.dst (.slice A' (n + 1) c')) w') : if Region.wanted o (yielded ops a.tmps) = true then Oper.wp P o a w K Q else E := by
  have hw : Region.wanted o (yielded ops a.tmps) = true := by simp [Region.wanted, hgd]
  rw [if_pos hw]
  obtain ⟨A', c', w', hrun, h2, h3, h4⟩ := σ.run_push2 o.type hown hrow hn hbase
  unfold Oper.wp execOp
  simp only [ho, resolve, invoke, builtin, Sem.run_bind, Sem.run_pure, Result.andThen_ok, List.map_toArray, List.map_cons, List.map_nil, hs, hx, hrun]
  exact h A' c' w' h2 h3 h4

/-- What stands in flatBehind's region: the statement's variable, what is there already, and what lies below. -/
structure FB (base s3 g : Nat) (x : Sm) (w0 w : World) (A : Option Addr) (n c : Nat) (f : Fo) (xs : List Sm) : Prop where
  var : smS.Var w g x
  lo : Lo w base A n c f xs
  bl : Below base w0 w
  le : base ≤ w0.heap.size
  sz : s3 ≤ w.heap.size
/-- .. and its numbers, copied. -/
structure FN (base s3 g : Nat) (x : Sm) (w0 w : World) (A : Option Addr) (n c : Nat) (f : Fo) (xs : List Sm) (A2 : Option Addr) (n2 : Nat) (ns : List (Int × Bool)) : Prop where
  fb : FB base s3 g x w0 w A n c f xs
  ns : RwP nmS w (fun j => s3 ≤ j ∧ j < w.heap.size) A2 n2 ns
section
variable {base s3 g : Nat} {x : Sm} {w0 w w' : World} {A A2 : Option Addr} {n c n2 : Nat} {f : Fo} {xs : List Sm} {ns : List (Int × Bool)}
theorem FB.keep (h : FB base s3 g x w0 w A n c f xs) (hb : Below w.heap.size w w') : FB base s3 g x w0 w' A n c f xs :=
  ⟨h.var.keep hb, h.lo.below hb, h.bl.trans (hb.mono (Nat.le_trans h.le h.bl.size)), h.le, Nat.le_trans h.sz hb.size⟩
theorem FB.drew (h : FB base s3 g x w0 w A n c f xs) : FB base s3 g x w0 w.drew A n c f xs := h.keep ((Below.refl _ _).drew)
theorem FB.alloc (h : FB base s3 g x w0 w A n c f xs) (o : Obj) : FB base s3 g x w0 (w.alloc o) A n c f xs := h.keep ((Below.refl _ _).alloc (Nat.le_refl _) _)
theorem FN.keep (h : FN base s3 g x w0 w A n c f xs A2 n2 ns) (hb : Below w.heap.size w w') : FN base s3 g x w0 w' A n c f xs A2 n2 ns :=
  ⟨h.fb.keep hb, (h.ns.below hb).mono fun _ h2 h3 => ⟨h2.1, h3⟩⟩
theorem FN.drew (h : FN base s3 g x w0 w A n c f xs A2 n2 ns) : FN base s3 g x w0 w.drew A n c f xs A2 n2 ns := h.keep ((Below.refl _ _).drew)
theorem FN.alloc (h : FN base s3 g x w0 w A n c f xs A2 n2 ns) (o : Obj) : FN base s3 g x w0 (w.alloc o) A n c f xs A2 n2 ns := h.keep ((Below.refl _ _).alloc (Nat.le_refl _) _)
theorem FB.copy {c2 : Nat} (h : FB base s3 g x w0 w A n c f xs) (hb : Below w.heap.size w w') (hn : RwP nmS w' (fun k => w.heap.size ≤ k ∧ k < w'.heap.size) A2 n2 ns) (_ : c2 = c2) : FN base s3 g x w0 w' A n c f xs A2 n2 ns :=
  ⟨h.keep hb, hn.mono fun _ h2 _ => ⟨Nat.le_trans h.sz h2.1, h2.2⟩⟩
theorem FB.base_le (h : FB base s3 g x w0 w A n c f xs) : base ≤ w.heap.size := Nat.le_trans h.le h.bl.size
/-- One more behind. -/
theorem FN.push {w6 : World} {A6 : Option Addr} {c6 c2 : Nat} {wd : List UInt8} {bl : Bool} (h : FN base s3 g x w0 w A n c f xs A2 n2 ns) (h3 : base ≤ s3) (hown : ∀ j, Value.ownBlock (.slice A n c) = some j → j < s3 ∧ j ≠ g)
    (own : smS.Ow w6 base A6 (n + 1) c6 (xs ++ [⟨wd, A2, n2, c2, bl, none, 0, 0⟩])) (gr : w.grownBy w6 (Value.ownBlock (.slice A n c))) (li : Value.ownBlock (.slice A6 (n + 1) c6) = Value.ownBlock (.slice A n c) ∨ Value.ownBlock (.slice A6 (n + 1) c6) = some w.heap.size) :
    Lo w6 base A6 (n + 1) c6 (f.app (.cons wd ns bl .nil .nil)) (xs ++ [⟨wd, A2, n2, c2, bl, none, 0, 0⟩]) ∧ smS.Var w6 g x ∧ Below base w0 w6 := by
  have hx : Tr w (fun k => s3 ≤ k ∧ k < w.heap.size ∧ some k ≠ Value.ownBlock (.slice A n c)) (.cons wd ns bl .nil .nil) [⟨wd, A2, n2, c2, bl, none, 0, 0⟩] :=
    ⟨_, [], rfl, rfl, rfl, h.ns.mono fun k h2 _ => ⟨h2.1, h2.2, fun e => by have := (hown k e.symm).1; omega⟩, ⟨[], RwP.nil, rfl⟩, rfl⟩
  refine ⟨⟨own, ?_⟩, ?_, h.fb.bl.trans (Sh.grown_below smS h.fb.lo.ow h.fb.base_le gr)⟩
  · have h1 := h.fb.lo.tr.app (hx.mono (P' := fun k => base ≤ k ∧ k < w.heap.size ∧ some k ≠ Value.ownBlock (.slice A n c)) fun k hk _ => ⟨Nat.le_trans h3 hk.1, hk.2⟩)
    refine (h1.keep fun b hb hs => gr.block b hs hb.2.2).mono fun b hb _ => ⟨hb.1, Nat.lt_of_lt_of_le hb.2.1 gr.size, ?_⟩
    rcases li with e | e
    · rw [e]; exact hb.2.2
    · rw [e]; intro e2; cases e2; have := hb.2.1; omega
  · have e := gr.block g h.fb.var.lt (fun e => (hown g e.symm).2 rfl)
    exact ⟨fun j v hv => (World.cell?_of_block (a := ⟨g, 0 + j, none⟩) e).trans (h.fb.var.1 j v hv), fun j hj => ⟨by rw [World.cell?_of_block (a := ⟨g, 0 + j, none⟩) e]; exact (h.fb.var.2 j hj).1, by rw [World.frozen?_of_block (a := ⟨g, 0 + j, none⟩) e]; exact (h.fb.var.2 j hj).2⟩⟩
end
end Go.Proofs.YtpkoboohnbkpoaaGreatDoor

/-! RE -/
namespace Go.Proofs.YtpkoboohnbkpoaaGreatDoor
open Go Go.RowKit Go.Joins

def FlatSaid (f : Fo) : Prop := ∀ (w : World) (base : Nat) (K : Nat → Prop) (A : Option Addr) (n c : Nat) (f0 : Fo) (xs0 : List Sm) (A2 : Option Addr) (n2 c2 : Nat), Lo w base A n c f0 xs0 → TrS w K A2 n2 f → (∀ k, K k → k < base) → base ≤ w.heap.size → f0.len + f.count ≤ 1000000 → f.okS →
  Calls Tryz.prog 104 #[.slice A n c, .slice A2 n2 c2] w fun e w' => ∃ A' n' c' xs', e = .returned (.slice A' n' c') ∧ Lo w' base A' n' c' (f0.app f.flat) xs' ∧ Below base w w'
set_option maxHeartbeats 4000000 in
set_option maxRecDepth 100000 in
theorem flat_step (f : Fo) (hf : f.Bodies FlatSaid) : FlatSaid f := by
  intro w base K A n c f0 xs0 A2 n2 c2 hlo ht hK hbase hlen hok
  have HL2 := hid (show f.len = n2 from ht.len.symm)
  obtain ⟨ys, hx, htr⟩ := ht
  have HX := hid hx
  have HKB := hid hK
  have HBA := hid hbase
  have HLN := hid hlen
  have HS0 := hid (And.intro hf (And.intro htr (And.intro hok hlo)))
  have hn2 : (n2 : Int) ≤ 1000000 := by have := f.len_le; have := HL2.out; omega
  clear hlo hx htr hf hok hK hbase hlen
  go_enter Tryz.func104, Tryz.ntmps104
  go_wp2
  go_loopw [0, 9] (fun v0 v9 wr => ∃ (i k : Nat) (B : Option Addr) (d : Nat) (g r : Fo) (xs : List Sm), v0 = .slice B k d ∧ v9 = .int .i64 (i : Int) ∧ i ≤ n2 ∧ Lo wr base B k d g xs ∧ g.app r.flat = f0.app f.flat ∧ r.Bodies FlatSaid ∧ Tr w K r (ys.drop i) ∧ r.okS ∧ Below base w wr) (fun _ v9 _ => n2 - (intOf v9).toNat)
  case atStart => exact ⟨0, n, A, c, f0, f, xs0, rfl, rfl, Nat.zero_le _, HS0.out.2.2.2, rfl, HS0.out.1, by simpa using HS0.out.2.1, HS0.out.2.2.1, Below.refl _ _⟩
  case round =>
    obtain ⟨i, k, B, d, g, r, xs, rfl, rfl, hi, hlo, hgr, hbo, htr, hok, hbel⟩ := hrel
    have BW := hid hbel
    have hcnt : g.len + r.count ≤ 1000000 := by
      have h1 := congrArg Fo.len hgr
      rw [Fo.len_app, Fo.len_app, Fo.len_flat, Fo.len_flat] at h1
      have := HLN.out; omega
    have hk : k = g.len := hlo.len
    have HGR := hid hgr
    have L0 := hid hlo
    by_cases hlt : i < n2
    · obtain ⟨wd, ns, bl, y, nx, rfl, e1, e2, hns, hy, hnx⟩ := htr.step (by rw [HX.out.1]; exact hlt)
      have hkeep : ∀ b, K b → b < w.heap.size → wr.heap[b]? = w.heap[b]? := fun b hb _ => hbel.block b (HKB.out b hb)
      obtain ⟨b, o, rfl, hb, hcell⟩ := (HX.out.keep hkeep).size.at_ hlt
      generalize smS.nth ys i = x at *
      obtain ⟨xw, xA, xn, xc, xb, xB, xm, xk⟩ := x
      simp only at e1 e2 hns hy
      subst e1 e2
      have r1 : wr.rangeAt b (o + i * 4) (smS.enc ⟨xw, xA, xn, xc, xb, xB, xm, xk⟩) := hcell
      have hxn : xn ≤ 1000000 := by have := hns.1; have := hok.2.1; omega
      have HNS := hid (fun wx (bx : Below base w wx) => (show RwP nmS wx K xA xn ns from hns.keep fun b hb _ => bx.block b (HKB.out b hb)))
      have HC := hid (fun wx => by have := clone_any (strB xw) wx (by show xw.length ≤ _; have := hok.1; omega); exact this)
      have HN := hid (fun wx (bx : Below base w wx) => cloneN_any xA xn xc ns wx ((HNS.out wx bx).size) hxn)
      have HY := hid hbo.1
      have HYT := hid (fun wx (bx : Below base w wx) => (show TrS wx K xB xm y from hy.keep fun b hb _ => bx.block b (HKB.out b hb)))
      have NX := hid (And.intro hbo.2 (And.intro hnx (And.intro hok.2.2.1 hok.2.2.2)))
      have HCN := hid hcnt
      have hk6 : k ≤ 999999 := by simp only [Fo.count] at hcnt; omega
      have OWN := hid (fun (j : Nat) (e : Value.ownBlock (.slice B k d) = some j) => own_lt hlo.ow j e)
      clear hcell hbel hgr hbo htr hok hns hy hnx hb hkeep hlo hcnt hk
      go_upto_region 4 with (first
        | (refine Sh.wp_sv smS (x := ⟨xw, xA, xn, xc, xb, xB, xm, xk⟩) rfl (.tmp 6) (.tmp 12) rfl rfl (by rfl) q2 ?_; intro w3 q3 b3 o3 s3; have B23 := hid (B2.out.trans (b3.mono (Nat.le_refl _))); have Q3 := hid q3; clear q3 b3 o3 s3)
        | (refine Sh.wp_al smS rfl rfl ?_; intro w2 q2 b2 s2; have B2 := hid b2; clear b2 s2)
        | (refine Sh.wp_ld smS rfl (.tmp 11) rfl rfl r1 ?_))
      have hbr : base ≤ wr.heap.size := Nat.le_trans HBA.out BW.out.size
      have F3 := hid (FB.mk (s3 := w3.heap.size) (w0 := w) Q3.out (L0.out.below B23.out) (BW.out.trans (B23.out.mono hbr)) HBA.out (Nat.le_refl _))
      have c0 : w3.cell? ⟨wr.heap.size, 0, none⟩ = some (.string (strB xw)) := Q3.out.cell (j := 0) rfl
      have c1 : w3.cell? ⟨wr.heap.size, 1, none⟩ = some (.slice xA xn xc) := Q3.out.cell (j := 1) rfl
      have c2 : w3.cell? ⟨wr.heap.size, 2, none⟩ = some (.bool xb) := Q3.out.cell (j := 2) rfl
      have hs3 : base ≤ w3.heap.size := F3.out.base_le
      have HOW := hid (fun (j : Nat) (e : Value.ownBlock (.slice B k d) = some j) => show j < w3.heap.size ∧ j ≠ wr.heap.size from by have := OWN.out j e; have := B23.out.size; omega)
      have hkn : k ≤ 1000000 := by omega
      go_region_held3 (fun w' => w'.cell? ⟨wr.heap.size, 0, none⟩ = some (.string (strB xw)) ∧ w'.cell? ⟨wr.heap.size, 1, none⟩ = some (.slice xA xn xc) ∧ w'.cell? ⟨wr.heap.size, 2, none⟩ = some (.bool xb)) (first | with_reducible exact ⟨c0, c1, c2⟩ | go_keep)
        (first
          | (go_at_call 122; refine (HC.out _).mono ?_; rintro e w4 ⟨rfl, b4⟩; (first | (have F5s := hid (FN.keep (show FN base w3.heap.size wr.heap.size ⟨xw, xA, xn, xc, xb, xB, xm, xk⟩ w _ B k d g xs A5 xn ns from by (repeat (first | with_reducible exact F5.out | with_reducible exact F5s.out | with_reducible refine FN.alloc ?_ _ | with_reducible refine FN.drew ?_)); done) b4); have c0 : w4.cell? ⟨wr.heap.size, 0, none⟩ = some (.string (strB xw)) := F5s.out.fb.var.cell (j := 0) rfl; have c1 : w4.cell? ⟨wr.heap.size, 1, none⟩ = some (.slice xA xn xc) := F5s.out.fb.var.cell (j := 1) rfl; have c2 : w4.cell? ⟨wr.heap.size, 2, none⟩ = some (.bool xb) := F5s.out.fb.var.cell (j := 2) rfl) | (have FS := hid (FB.keep (show FB base w3.heap.size wr.heap.size ⟨xw, xA, xn, xc, xb, xB, xm, xk⟩ w _ B k d g xs from by (repeat (first | with_reducible exact F3.out | with_reducible exact FS.out | with_reducible refine FB.drew ?_)); done) b4); have c0 : w4.cell? ⟨wr.heap.size, 0, none⟩ = some (.string (strB xw)) := FS.out.var.cell (j := 0) rfl; have c1 : w4.cell? ⟨wr.heap.size, 1, none⟩ = some (.slice xA xn xc) := FS.out.var.cell (j := 1) rfl; have c2 : w4.cell? ⟨wr.heap.size, 2, none⟩ = some (.bool xb) := FS.out.var.cell (j := 2) rfl)); clear b4; dsimp only)
          | (go_at_call 132; refine (HN.out _ ?_).mono ?_; (focus exact FB.bl (show FB base w3.heap.size wr.heap.size ⟨xw, xA, xn, xc, xb, xB, xm, xk⟩ w _ B k d g xs from by (repeat (first | with_reducible exact F3.out | with_reducible exact FS.out | with_reducible refine FB.drew ?_)); done)); rintro e w5 ⟨b5, A5, c5, rfl, n5⟩; have F5 := hid (FB.copy (c2 := c5) (show FB base w3.heap.size wr.heap.size ⟨xw, xA, xn, xc, xb, xB, xm, xk⟩ w _ B k d g xs from by (repeat (first | with_reducible exact F3.out | with_reducible exact FS.out | with_reducible refine FB.drew ?_)); done) b5 n5 rfl); have c0 : w5.cell? ⟨wr.heap.size, 0, none⟩ = some (.string (strB xw)) := F5.out.fb.var.cell (j := 0) rfl; have c1 : w5.cell? ⟨wr.heap.size, 1, none⟩ = some (.slice xA xn xc) := F5.out.fb.var.cell (j := 1) rfl; have c2 : w5.cell? ⟨wr.heap.size, 2, none⟩ = some (.bool xb) := F5.out.fb.var.cell (j := 2) rfl; clear b5 n5; dsimp only)
          | (refine Sh.step_push2 smS (A := B) (c := d) (l := xs) (base := base) (x := ⟨xw, A5, xn, c5, xb, none, 0, 0⟩) rfl (.tmp 13) (.tmp 23) (by rfl) (by rfl) ?_ (by rfl) ?_ hkn ?_ ?_; (focus exact Lo.ow (FB.lo (FN.fb (show FN base w3.heap.size wr.heap.size ⟨xw, xA, xn, xc, xb, xB, xm, xk⟩ w _ B k d g xs A5 xn ns from by (repeat (first | with_reducible exact F5.out | with_reducible exact F5s.out | with_reducible refine FN.alloc ?_ _ | with_reducible refine FN.drew ?_)); done)))); (focus show World.rangeAt _ _ _ [.string (strB xw), .slice A5 xn c5, .bool xb, .slice none 0 0]; exact (by (repeat (first | with_reducible exact range_new' _ _ _ _ (by simp; done) | with_reducible refine World.rangeAt_alloc ?_ _ | with_reducible refine (World.rangeAt_drew _ _ _ _).2 ?_)); done)); (focus exact FB.base_le (FN.fb (show FN base w3.heap.size wr.heap.size ⟨xw, xA, xn, xc, xb, xB, xm, xk⟩ w _ B k d g xs A5 xn ns from by (repeat (first | with_reducible exact F5.out | with_reducible exact F5s.out | with_reducible refine FN.alloc ?_ _ | with_reducible refine FN.drew ?_)); done))); intro A6 c6 w6 own6 gr6 li6; have P6 := hid (FN.push (show FN base w3.heap.size wr.heap.size ⟨xw, xA, xn, xc, xb, xB, xm, xk⟩ w _ B k d g xs A5 xn ns from by (repeat (first | with_reducible exact F5.out | with_reducible exact F5s.out | with_reducible refine FN.alloc ?_ _ | with_reducible refine FN.drew ?_)); done) hs3 HOW.out own6 gr6 li6); have c0 : w6.cell? ⟨wr.heap.size, 0, none⟩ = some (.string (strB xw)) := P6.out.2.1.cell (j := 0) rfl; have c1 : w6.cell? ⟨wr.heap.size, 1, none⟩ = some (.slice xA xn xc) := P6.out.2.1.cell (j := 1) rfl; have c2 : w6.cell? ⟨wr.heap.size, 2, none⟩ = some (.bool xb) := P6.out.2.1.cell (j := 2) rfl; clear own6 gr6 li6; dsimp only))
      all_goals
        have d3 : w6.cell? ⟨wr.heap.size, 3, none⟩ = some (.slice xB xm xk) := P6.out.2.1.cell (j := 3) rfl
        have hl6 : (g.app (Fo.cons xw ns xb .nil .nil)).len + y.count ≤ 1000000 := by
          have := HCN.out; simp only [Fo.count, Fo.len_app, Fo.len] at this ⊢; omega
        have HF := hid (HY.out w6 base K A6 (k + 1) c6 (g.app (Fo.cons xw ns xb .nil .nil)) _ xB xm xk P6.out.1 (HYT.out w6 P6.out.2.2) HKB.out (Nat.le_trans HBA.out P6.out.2.2.size) hl6 NX.out.2.2.1)
        clear c0 c1 c2 hl6
        go_wp2_with (first
          | (go_at_call 104; refine HF.out.mono ?_; rintro e w7 ⟨A7, n7, c7, xs7, rfl, lo7, b7⟩; have L7 := hid lo7; have B7 := hid (P6.out.2.2.trans b7); clear lo7 b7 d3))
        go_roundw
        case rel => exact ⟨i + 1, n7, A7, c7, _, nx, xs7, rfl, rfl, by omega, L7.out, by rw [← HGR.out, Fo.flat, Fo.app_assoc, Fo.app_assoc, Fo.app, Fo.app], NX.out.1, NX.out.2.1, NX.out.2.2.2, B7.out⟩
        case measure => simp [intOf]; omega
    · obtain rfl : i = n2 := by omega
      have hr := htr.done (by rw [HX.out.1]; exact Nat.le_refl _)
      subst hr
      have HV := hid (show g = f0.app f.flat by rw [← hgr, Fo.flat, Fo.app_nil])
      clear hgr hbo htr hbel
      go_wp2
      go_ret
      exact ⟨B, k, d, xs, rfl, by rw [← HV.out]; exact L0.out, BW.out⟩
theorem flat_behind (f : Fo) : FlatSaid f := (Fo.ind flat_step f).1
set_option maxRecDepth 100000 in
theorem flat_any (f : Fo) (w : World) (K : Nat → Prop) (A2 : Option Addr) (n2 c2 : Nat) (ht : TrS w K A2 n2 f) (hK : ∀ k, K k → k < w.heap.size) (hc : f.count ≤ 1000000) (hok : f.okS) :
    Calls Tryz.prog 54 #[.slice A2 n2 c2] w fun e w' => ∃ A' n' c' xs', e = .returned (.slice A' n' c') ∧ Lo w' w.heap.size A' n' c' f.flat xs' ∧ Below w.heap.size w w' := by
  have HF := hid (flat_behind f w w.heap.size K none 0 0 .nil [] A2 n2 c2 (Lo.nil _ _) ht hK (Nat.le_refl _) (by simp [Fo.len]; omega) hok)
  clear ht hK hc hok
  go_enter Tryz.func54, Tryz.ntmps54
  go_wp2_with (first | (go_at_call 104; refine HF.out.mono ?_; rintro e w7 ⟨A7, n7, c7, xs7, rfl, lo7, b7⟩; have L7 := hid lo7; have B7 := hid b7; clear lo7 b7))
  go_ret
  exact ⟨A7, n7, c7, xs7, rfl, by simpa only [Fo.app] using L7.out, B7.out⟩
end Go.Proofs.YtpkoboohnbkpoaaGreatDoor
