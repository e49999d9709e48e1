/-
  Contract of check.standing: where each statement that may stand once does, or the first one that is wrong.
-/
import Derived.Test.YtpkoboohnbkpoaaGreatDoorJZP
import Derived.Test.YtpkoboohnbkpoaaGreatDoorJZK
import Derived.LoopN
namespace Go.Proofs.YtpkoboohnbkpoaaGreatDoor
open Go Go.RowKit Go.Maps

/-- One cell of a variable set. -/
theorem Sv.Var.put1 {P : Program} {α : Type} {σ : Sv P α} {w : World} {k j : Nat} {x x' : α} {v : Value} (h : σ.Var w k x) (hj : j < σ.N) (he : ∀ i u, (σ.enc x')[i]? = some u → if i = j then u = v else (σ.enc x)[i]? = some u) :
    σ.Var (w.setCell ⟨k, j, none⟩ v) k x' ∧ Mov k w (w.setCell ⟨k, j, none⟩ v) := by
  have hs := setCells_oth k [v] j w
  refine ⟨⟨fun i u hu => ?_, World.there_setCells h.2 k j [v]⟩, .oth hs.1 hs.2⟩
  have h1 := he i u hu
  by_cases hij : i = j
  · subst hij
    rw [if_pos rfl] at h1
    subst h1
    have := World.rangeAt_setCells_same w k i [u] (fun q hq => by
      obtain rfl : q = 0 := by simp at hq; exact hq
      have := h.2 i hj
      rwa [Nat.zero_add] at this) 0 u rfl
    rwa [Nat.zero_add]
  · rw [if_neg hij] at h1
    have h0 : w.rangeAt k i [u] := fun q y hq => by
      obtain rfl : q = 0 := by have := (List.getElem?_eq_some_iff.1 hq).1; simp at this; exact this
      have h2 := h.1 i u h1
      rw [Nat.zero_add] at h2
      simp at hq
      rw [← hq]
      exact h2
    have := World.rangeAt_setCells_apart h0 k j [v] (by simp only [List.length_singleton]; omega) 0 u rfl
    rwa [Nat.zero_add]
theorem ky_n0 {w : World} {g : Nat} {x : Ky} (h : kyS.Var w g x) (v : Int) : kyS.Var (w.setCell ⟨g, 1, none⟩ (.int .i64 v)) g ⟨x.w, v, x.n1⟩ ∧ Mov g w (w.setCell ⟨g, 1, none⟩ (.int .i64 v)) := h.put1 (by decide) fun i u hu => by
  match i, hu with
  | 0, hu => exact hu
  | 1, hu => rw [if_pos rfl]; exact (Option.some.inj hu).symm
  | 2, hu => exact hu
theorem ky_n1 {w : World} {g : Nat} {x : Ky} (h : kyS.Var w g x) (v : Int) : kyS.Var (w.setCell ⟨g, 2, none⟩ (.int .i64 v)) g ⟨x.w, x.n0, v⟩ ∧ Mov g w (w.setCell ⟨g, 2, none⟩ (.int .i64 v)) := h.put1 (by decide) fun i u hu => by
  match i, hu with
  | 0, hu => exact hu
  | 1, hu => exact hu
  | 2, hu => rw [if_pos rfl]; exact (Option.some.inj hu).symm
/-- What standing tells. -/
def StPost (S : Sd) (e : Ending) (w' : World) : Prop := match S with
  | .bad p er => e = .returned (.tuple #[.map none, .int .i64 (p : Int), .int .i64 (er : Int)])
  | .ok ks => ∃ B9, e = .returned (.tuple #[.map (some B9), .int .i64 0, .int .i64 0]) ∧ StM w' B9 ks
theorem bvs_at {ins : List Bool} {i : Nat} {u : Bool} (h : ins[i]? = some u) : (bvs ins)[i]? = some (.bool u) := by unfold bvs; rw [List.getElem?_map, h]; rfl
theorem key_take1 {ns : List (Int × Bool)} (h : 1 ≤ ns.length) : keyN (ns.take 1) 0 = (nmS.nth ns 0).1 ∧ keyN (ns.take 1) 1 = 0 := by
  match ns, h with
  | a :: ns, _ => exact ⟨rfl, rfl⟩
theorem key_take2 {ns : List (Int × Bool)} (h : 2 ≤ ns.length) : keyN (ns.take 2) 0 = (nmS.nth ns 0).1 ∧ keyN (ns.take 2) 1 = (nmS.nth ns 1).1 := by
  match ns, h with
  | a :: b :: ns, _ => exact ⟨rfl, rfl⟩
  | [_], h => simp at h
theorem fndK_any (ks : List (Ky × Nat)) (k : Ky) : (fndK ks k).isSome = ks.any (fun p => p.1 == k) := by unfold fndK; rw [Bool.eq_iff_iff, List.find?_isSome, List.any_eq_true]

set_option maxHeartbeats 4000000 in
set_option maxRecDepth 100000 in
theorem standing_any (f : Fo) (ins : List Bool) (w : World) (K : Nat → Prop) (B base : Nat) (A : Option Addr) (n c : Nat) (xs : List Sm) (A2 : Option Addr) (c2 : Nat) (hF : Fms w B base) (hx : RwP smS w K A n xs) (htr : Tr w K f xs)
    (hcp : ∀ x ∈ xs, x.nn ≤ x.nc) (hok : f.okS) (hn2 : n ≤ 1000000) (hin : 0 < n → ∃ b2, A2 = some ⟨b2, 0, none⟩ ∧ b2 < w.heap.size ∧ w.rangeAt b2 0 (bvs ins)) (hil : ins.length = n) :
    Calls Tryz.prog 55 #[.map (some B), .slice A n c, .slice A2 n c2] w fun e w' => StPost (standF (f.topL.zip ins) 0 []) e w' ∧ Below w.heap.size w w' := by
  have HF := hid hF
  have HX := hid hx
  have HT := hid (And.intro htr hok)
  have HCP := hid hcp
  have HIN := hid hin
  have HIL := hid hil
  have HL := hid (show f.len = n by rw [← htr.len, hx.1])
  have hn : (n : Int) ≤ 1000000 := by omega
  obtain ⟨S, hS⟩ : ∃ S, standF (f.topL.zip ins) 0 [] = S := ⟨_, rfl⟩
  rw [hS]
  have HS := hid hS
  clear hF hx htr hcp hok hin hil hS hn2
  go_enter Tryz.func55, Tryz.ntmps55
  have hmk := fun W : World => run_makeMap (P := Tryz.prog) 86 W
  go_wp2
  have M9 := hid (show StM (w.alloc (.map #[] 0)) w.heap.size [] from heap_alloc_new w _)
  have B9 := hid (show Below w.heap.size w (w.alloc (.map #[] 0)) from (Below.refl _ _).alloc (Nat.le_refl _) _)
  clear hmk
  go_loopw [22] (fun v22 wr => ∃ (i : Nat) (r : Fo) (ks : List (Ky × Nat)), v22 = .int .i64 (i : Nat) ∧ i ≤ n ∧ StM wr w.heap.size ks ∧ standF (r.topL.zip (ins.drop i)) i ks = S ∧ Tr w K r (xs.drop i) ∧ r.okS ∧ Below w.heap.size w wr) (fun v22 _ => n - (intOf v22).toNat)
  case atStart => exact ⟨0, f, [], rfl, Nat.zero_le _, M9.out, by simpa using HS.out, by simpa using HT.out.1, HT.out.2, B9.out⟩
  case round =>
    obtain ⟨i, r, ks, rfl, hi, hst, hsr, htr, hok, hbel⟩ := hrel
    have BW := hid hbel
    have SM := hid hst
    have HSR := hid hsr
    clear M9 B9 hst hsr
    by_cases hlt : i < n
    · obtain ⟨wd, ns, bl, y, nx, rfl, e1, e2, hns, hy, hnx⟩ := htr.step (by rw [HX.out.1]; exact hlt)
      obtain ⟨b, o, rfl, hb, hcell⟩ := (HX.out.size.below hbel).at_ hlt
      have hxc : (smS.nth xs i).nn ≤ (smS.nth xs i).nc := HCP.out _ (List.mem_of_getElem? (Sh.nth_get smS (by rw [HX.out.1]; exact hlt)))
      obtain ⟨u, hu⟩ : ∃ u, ins[i]? = some u := ⟨_, List.getElem?_eq_getElem (by rw [HIL.out]; exact hlt)⟩
      obtain ⟨b2, rfl, hb2, hr2⟩ := HIN.out (by omega)
      have HFL := hid (And.intro hb2 (show w.cell? ⟨b2, i, none⟩ = some (.bool u) by have := hr2 i _ (bvs_at hu); rwa [Nat.zero_add] at this))
      have hdr : ins.drop i = u :: ins.drop (i + 1) := by
        have hi2 : i < ins.length := by rw [HIL.out]; exact hlt
        rw [List.drop_eq_getElem_cons hi2]
        congr 1
        rw [List.getElem?_eq_getElem hi2] at hu
        exact Option.some.inj hu
      generalize smS.nth xs i = x at *
      obtain ⟨xw, xA, xn, xc, xb, xB, xm, xk⟩ := x
      simp only at e1 e2 hns hy hxc
      subst e1 e2
      have HSR2 : Hid (standF ((⟨xw, ns, xb⟩, u) :: (nx.topL.zip (ins.drop (i + 1)))) i ks = S) := hid (by rw [← HSR.out, hdr]; rfl)
      have HXC := hid hxc
      have r1 : wr.rangeAt b (o + i * 4) (smS.enc ⟨xw, xA, xn, xc, xb, xB, xm, xk⟩) := hcell
      have HNX := hid (And.intro hnx hok.2.2.2)
      have HNS := hid hns
      have HXN := hid (show xn ≤ 9223372036854775807 by have := hns.1; have := hok.2.1; omega)
      have HO := hid (fun w' (hb' : Below w.heap.size w w') => one_any B base ⟨xw, xA, xn, xc, xb, xB, xm, xk⟩ ns w' (HF.out.below hb') ((hns.below hb').size) HXN.out HXC.out)
      simp only at HO
      have E1 := hid (show oneE ⟨xw, ns, xb⟩ = 0 → ∃ g, formF xw = some g ∧ fitsL g.nums ns = true from fun h => by
        obtain ⟨g, h1, h2, h3, _⟩ := one_parts h
        exact ⟨g, h1, h3⟩)
      clear hcell hbel htr hok hns hy hnx hb hxc hdr hu hb2 hr2 HSR
      obtain ⟨er, her⟩ : ∃ er, oneE ⟨xw, ns, xb⟩ = er := ⟨_, rfl⟩
      rw [her] at HO E1
      have HSR2 := hid (HSR2.out)
      unfold standF at HSR2
      rw [her] at HSR2
      by_cases h0 : er = 0
      · subst h0
        obtain ⟨fm, hfm, hfit⟩ := E1.out rfl
        obtain ⟨nums, nodes, wo, bk⟩ := fm
        obtain ⟨L, nL, gF, iF, hmp, hfn, _, hgl, hgr⟩ := HF.out.some hfm
        obtain ⟨hm4, hno, hno2⟩ := form_few hfm
        simp only at hm4 hno hno2 hfit
        have HMP := hid (And.intro hmp hfn)
        have hwl : (⟨xw, ns, xb⟩ : St).world = wo := by unfold St.world; simp only; rw [hfm]
        have hkey : (⟨xw, ns, xb⟩ : St).key = ⟨xw, keyN (ns.take nodes) 0, keyN (ns.take nodes) 1⟩ := key_of (x := ⟨xw, ns, xb⟩) (f := ⟨nums, nodes, wo, bk⟩) hfm
        rw [hwl, hkey] at HSR2
        simp only [ne_eq, not_true_eq_false, if_false] at HSR2
        have HSR3 := hid HSR2.out
        clear HSR2 hmp hfn E1 hgr hgl
        cases wo with
        | false =>
          have HV : Hid (standF (nx.topL.zip (ins.drop (i + 1))) (i + 1) ks = S) := hid (by have := HSR3.out; rwa [if_pos rfl] at this)
          clear HSR3
          go_wp2_with (first
            | (refine Sv.wp_sv feS (x := ⟨some ⟨gF, 0, none⟩, nums.length, nums.length, nodes, false, bk⟩) rfl (.tmp 13) (.tmp 37) rfl rfl (by rfl) q5 ?_; intro w6 q6 b6 o6 s6; have F6 := hid q6; have B46 := hid (B45.out.trans (b6.mono (Nat.le_refl _))); have B16 := hid (B14.out.trans (B46.out.mono B14.out.size)); have B6 := hid (B4.out.trans (B46.out.mono B4.out.size)); have V6 := hid (V4.out.keep B46.out); have f2 : w6.cell? ⟨w4.heap.size, 2, none⟩ = some (.bool false) := F6.out.cell (j := 2) rfl; have fl : w6.cell? ⟨b2, i, none⟩ = some (.bool u) := (B6.out.cell (p := ⟨b2, i, none⟩) HFL.out.1).trans HFL.out.2; have c6 : w6.cell? ⟨wr.heap.size, 0, none⟩ = some (.string (strB xw)) := V6.out.cell (j := 0) rfl; clear q5 q6 b6 o6 s6)
            | (refine Sv.wp_al feS rfl rfl ?_; intro w5 q5 b5 s5; have B45 := hid b5; clear b5 s5)
            | (refine wp_lk (r := feS.val ⟨some ⟨gF, 0, none⟩, nums.length, nums.length, nodes, false, bk⟩) rfl (.tmp 34) (.tmp 36) rfl Tryz.underlying78 (feS.val feS.z) rfl rfl (HMP.out.1.keep B4.out) (feS.zero _) (by rw [HMP.out.2]; rfl) ?_)
            | (go_at_call 51; refine (HO.out w3 B3.out).mono ?_; rintro e w4 ⟨rfl, b4⟩; have V4 := hid (V3.out.keep b4); have B14 := hid (B13.out.trans (b4.mono B13.out.size)); have B4 := hid (B3.out.trans (b4.mono B3.out.size)); have c0 : w4.cell? ⟨wr.heap.size, 0, none⟩ = some (.string (strB xw)) := V4.out.cell (j := 0) rfl; clear b4)
            | (refine Sh.wp_ld smS rfl (.tmp 11) rfl rfl V3.out.1 ?_)
            | (refine Sh.wp_sv smS (x := ⟨xw, xA, xn, xc, xb, xB, xm, xk⟩) rfl (.tmp 11) (.tmp 26) rfl rfl (by rfl) q2 ?_; intro w3 q3 b3 o3 s3; have V3 := hid q3; have B13 := hid (B2.out.trans (b3.mono (Nat.le_refl _))); have B3 := hid (BW.out.trans (B13.out.mono BW.out.size)); clear q2 q3 b3 o3 s3)
            | (refine Sh.wp_al smS rfl rfl ?_; intro w2 q2 b2 s2; have B2 := hid b2; clear b2 s2)
            | (refine Sh.wp_ld smS rfl (.tmp 25) rfl rfl r1 ?_))
          go_roundw
          case rel => exact ⟨i + 1, nx, ks, by go_num, by omega, SM.out.keep B16.out, HV.out, HNX.out.1, HNX.out.2, B6.out⟩
          case measure => simp [intOf]; omega
        | true =>
          simp only [Bool.true_eq_false, if_false] at HSR3
          cases u with
          | true =>
            have HV : Hid (Sd.bad i 4 = S) := hid (by have := HSR3.out; rwa [if_pos rfl] at this)
            clear HSR3
            go_wp2_with (first
              | (refine Sv.wp_sv feS (x := ⟨some ⟨gF, 0, none⟩, nums.length, nums.length, nodes, true, bk⟩) rfl (.tmp 13) (.tmp 37) rfl rfl (by rfl) q5 ?_; intro w6 q6 b6 o6 s6; have F6 := hid q6; have B46 := hid (B45.out.trans (b6.mono (Nat.le_refl _))); have B16 := hid (B14.out.trans (B46.out.mono B14.out.size)); have B6 := hid (B4.out.trans (B46.out.mono B4.out.size)); have V6 := hid (V4.out.keep B46.out); have f2 : w6.cell? ⟨w4.heap.size, 2, none⟩ = some (.bool true) := F6.out.cell (j := 2) rfl; have fl : w6.cell? ⟨b2, i, none⟩ = some (.bool true) := (B6.out.cell (p := ⟨b2, i, none⟩) HFL.out.1).trans HFL.out.2; have c6 : w6.cell? ⟨wr.heap.size, 0, none⟩ = some (.string (strB xw)) := V6.out.cell (j := 0) rfl; clear q5 q6 b6 o6 s6)
              | (refine Sv.wp_al feS rfl rfl ?_; intro w5 q5 b5 s5; have B45 := hid b5; clear b5 s5)
              | (refine wp_lk (r := feS.val ⟨some ⟨gF, 0, none⟩, nums.length, nums.length, nodes, true, bk⟩) rfl (.tmp 34) (.tmp 36) rfl Tryz.underlying78 (feS.val feS.z) rfl rfl (HMP.out.1.keep B4.out) (feS.zero _) (by rw [HMP.out.2]; rfl) ?_)
              | (go_at_call 51; refine (HO.out w3 B3.out).mono ?_; rintro e w4 ⟨rfl, b4⟩; have V4 := hid (V3.out.keep b4); have B14 := hid (B13.out.trans (b4.mono B13.out.size)); have B4 := hid (B3.out.trans (b4.mono B3.out.size)); have c0 : w4.cell? ⟨wr.heap.size, 0, none⟩ = some (.string (strB xw)) := V4.out.cell (j := 0) rfl; clear b4)
              | (refine Sh.wp_ld smS rfl (.tmp 11) rfl rfl V3.out.1 ?_)
              | (refine Sh.wp_sv smS (x := ⟨xw, xA, xn, xc, xb, xB, xm, xk⟩) rfl (.tmp 11) (.tmp 26) rfl rfl (by rfl) q2 ?_; intro w3 q3 b3 o3 s3; have V3 := hid q3; have B13 := hid (B2.out.trans (b3.mono (Nat.le_refl _))); have B3 := hid (BW.out.trans (B13.out.mono BW.out.size)); clear q2 q3 b3 o3 s3)
              | (refine Sh.wp_al smS rfl rfl ?_; intro w2 q2 b2 s2; have B2 := hid b2; clear b2 s2)
              | (refine Sh.wp_ld smS rfl (.tmp 25) rfl rfl r1 ?_))
            go_ret3
            refine ⟨?_, B6.out⟩
            rw [← HV.out]
            rfl
          | false =>
            simp only [Bool.false_eq_true, if_false] at HSR3
            have hlen : ns.length = nums.length := fits_len hfit
            have hxl : ns.length = xn := HNS.out.1
            have HNM := hid (fun w' => named_any gF nums.length nodes true bk ⟨xw, xA, xn, xc, xb, xB, xm, xk⟩ w' (by simp only; have := HXC.out; omega))
            simp only at HNM
            have hn012 : nodes = 0 ∨ nodes = 1 ∨ nodes = 2 := by omega
            clear hkey hwl hfm
            rcases hn012 with rfl | rfl | rfl
            ·
              have HSR4 : Hid ((if ks.any (fun p => p.1 == (⟨xw, 0, 0⟩ : Ky)) = true then Sd.bad i 7 else standF (nx.topL.zip (ins.drop (i + 1))) (i + 1) (ks ++ [(⟨xw, 0, 0⟩, i)])) = S) := hid HSR3.out
              clear HSR3
              rw [← fndK_any] at HSR4
              cases hq : fndK ks ⟨xw, 0, 0⟩ with
              | some pq =>
                have HQ := hid hq
                have HV : Hid (Sd.bad i 7 = S) := hid (by have := HSR4.out; rwa [hq, if_pos Option.isSome_some] at this)
                clear HSR4 hq
                go_wp2_with (first
                  | (go_at_call 63; refine (HNM.out w8).mono ?_; rintro e w9 ⟨rfl, b9⟩; have Y9 := hid (Y8.out.keep b9); have YL := hid Y9.out.lt; have B19 := hid (B18.out.trans (b9.mono B18.out.size)); have B9 := hid (B8.out.trans (b9.mono B8.out.size)); clear b9)
                  | (refine Sv.wp_ld feS rfl (.tmp 13) rfl rfl F8.out.1 ?_)
                  | (refine Sh.wp_ld smS rfl (.tmp 11) rfl rfl V8.out.1 ?_)
                  | (refine Sv.wp_sv kyS (x := ⟨xw, 0, 0⟩) rfl (.tmp 14) (.tmp 48) rfl rfl (by rfl) q7 ?_; intro w8 q8 b8 o8 s8; have Y8 := hid q8; have B68 := hid (B67.out.trans (b8.mono (Nat.le_refl _))); have B18 := hid (B16.out.trans (B68.out.mono B16.out.size)); have B8 := hid (B6.out.trans (B68.out.mono B6.out.size)); have F8 := hid (F6.out.keep B68.out); have V8 := hid (V6.out.keep B68.out); clear q7 q8 b8 o8 s8)
                  | (refine Sv.wp_al kyS rfl rfl ?_; intro w7 q7 b7 s7; have B67 := hid b7; clear b7 s7)
                  | (refine Sv.wp_sv feS (x := ⟨some ⟨gF, 0, none⟩, nums.length, nums.length, 0, true, bk⟩) rfl (.tmp 13) (.tmp 37) rfl rfl (by rfl) q5 ?_; intro w6 q6 b6 o6 s6; have F6 := hid q6; have B46 := hid (B45.out.trans (b6.mono (Nat.le_refl _))); have B16 := hid (B14.out.trans (B46.out.mono B14.out.size)); have B6 := hid (B4.out.trans (B46.out.mono B4.out.size)); have V6 := hid (V4.out.keep B46.out); have f2 : w6.cell? ⟨w4.heap.size, 2, none⟩ = some (.bool true) := F6.out.cell (j := 2) rfl; have fl : w6.cell? ⟨b2, i, none⟩ = some (.bool false) := (B6.out.cell (p := ⟨b2, i, none⟩) HFL.out.1).trans HFL.out.2; have c6 : w6.cell? ⟨wr.heap.size, 0, none⟩ = some (.string (strB xw)) := V6.out.cell (j := 0) rfl; clear q5 q6 b6 o6 s6)
                  | (refine Sv.wp_al feS rfl rfl ?_; intro w5 q5 b5 s5; have B45 := hid b5; clear b5 s5)
                  | (refine wp_lk (r := feS.val ⟨some ⟨gF, 0, none⟩, nums.length, nums.length, 0, true, bk⟩) rfl (.tmp 34) (.tmp 36) rfl Tryz.underlying78 (feS.val feS.z) rfl rfl (HMP.out.1.keep B4.out) (feS.zero _) (by rw [HMP.out.2]; rfl) ?_)
                  | (go_at_call 51; refine (HO.out w3 B3.out).mono ?_; rintro e w4 ⟨rfl, b4⟩; have V4 := hid (V3.out.keep b4); have B14 := hid (B13.out.trans (b4.mono B13.out.size)); have B4 := hid (B3.out.trans (b4.mono B3.out.size)); have c0 : w4.cell? ⟨wr.heap.size, 0, none⟩ = some (.string (strB xw)) := V4.out.cell (j := 0) rfl; clear b4)
                  | (refine Sh.wp_ld smS rfl (.tmp 11) rfl rfl V3.out.1 ?_)
                  | (refine Sh.wp_sv smS (x := ⟨xw, xA, xn, xc, xb, xB, xm, xk⟩) rfl (.tmp 11) (.tmp 26) rfl rfl (by rfl) q2 ?_; intro w3 q3 b3 o3 s3; have V3 := hid q3; have B13 := hid (B2.out.trans (b3.mono (Nat.le_refl _))); have B3 := hid (BW.out.trans (B13.out.mono BW.out.size)); clear q2 q3 b3 o3 s3)
                  | (refine Sh.wp_al smS rfl rfl ?_; intro w2 q2 b2 s2; have B2 := hid b2; clear b2 s2)
                  | (refine Sh.wp_ld smS rfl (.tmp 25) rfl rfl r1 ?_))
                refine wp_loop_rounds 1 ?_
                rw [rounds_succ]
                go_wp2_with (first
                  | (refine wp_lkK (k := ⟨xw, 0, 0⟩) (r := .tuple #[.int .i64 (pq.2 : Int), .bool true]) rfl (.tmp 65) (.tmp 66) rfl Tryz.underlying86 (by kernel_rfl) rfl rfl (SM.out.keep B19.out) (by rw [HQ.out]; rfl) ?_)
                  | (refine Sv.wp_ld kyS rfl (.tmp 14) rfl rfl Y9.out.1 ?_))
                go_ret3
                refine ⟨?_, B9.out⟩
                rw [← HV.out]
                rfl
              | none =>
                have HQ := hid hq
                have HV : Hid (standF (nx.topL.zip (ins.drop (i + 1))) (i + 1) (ks ++ [(⟨xw, 0, 0⟩, i)]) = S) := hid (by have := HSR4.out; rwa [hq, if_neg (by simp)] at this)
                clear HSR4 hq
                go_wp2_with (first
                  | (go_at_call 63; refine (HNM.out w8).mono ?_; rintro e w9 ⟨rfl, b9⟩; have Y9 := hid (Y8.out.keep b9); have YL := hid Y9.out.lt; have B19 := hid (B18.out.trans (b9.mono B18.out.size)); have B9 := hid (B8.out.trans (b9.mono B8.out.size)); clear b9)
                  | (refine Sv.wp_ld feS rfl (.tmp 13) rfl rfl F8.out.1 ?_)
                  | (refine Sh.wp_ld smS rfl (.tmp 11) rfl rfl V8.out.1 ?_)
                  | (refine Sv.wp_sv kyS (x := ⟨xw, 0, 0⟩) rfl (.tmp 14) (.tmp 48) rfl rfl (by rfl) q7 ?_; intro w8 q8 b8 o8 s8; have Y8 := hid q8; have B68 := hid (B67.out.trans (b8.mono (Nat.le_refl _))); have B18 := hid (B16.out.trans (B68.out.mono B16.out.size)); have B8 := hid (B6.out.trans (B68.out.mono B6.out.size)); have F8 := hid (F6.out.keep B68.out); have V8 := hid (V6.out.keep B68.out); clear q7 q8 b8 o8 s8)
                  | (refine Sv.wp_al kyS rfl rfl ?_; intro w7 q7 b7 s7; have B67 := hid b7; clear b7 s7)
                  | (refine Sv.wp_sv feS (x := ⟨some ⟨gF, 0, none⟩, nums.length, nums.length, 0, true, bk⟩) rfl (.tmp 13) (.tmp 37) rfl rfl (by rfl) q5 ?_; intro w6 q6 b6 o6 s6; have F6 := hid q6; have B46 := hid (B45.out.trans (b6.mono (Nat.le_refl _))); have B16 := hid (B14.out.trans (B46.out.mono B14.out.size)); have B6 := hid (B4.out.trans (B46.out.mono B4.out.size)); have V6 := hid (V4.out.keep B46.out); have f2 : w6.cell? ⟨w4.heap.size, 2, none⟩ = some (.bool true) := F6.out.cell (j := 2) rfl; have fl : w6.cell? ⟨b2, i, none⟩ = some (.bool false) := (B6.out.cell (p := ⟨b2, i, none⟩) HFL.out.1).trans HFL.out.2; have c6 : w6.cell? ⟨wr.heap.size, 0, none⟩ = some (.string (strB xw)) := V6.out.cell (j := 0) rfl; clear q5 q6 b6 o6 s6)
                  | (refine Sv.wp_al feS rfl rfl ?_; intro w5 q5 b5 s5; have B45 := hid b5; clear b5 s5)
                  | (refine wp_lk (r := feS.val ⟨some ⟨gF, 0, none⟩, nums.length, nums.length, 0, true, bk⟩) rfl (.tmp 34) (.tmp 36) rfl Tryz.underlying78 (feS.val feS.z) rfl rfl (HMP.out.1.keep B4.out) (feS.zero _) (by rw [HMP.out.2]; rfl) ?_)
                  | (go_at_call 51; refine (HO.out w3 B3.out).mono ?_; rintro e w4 ⟨rfl, b4⟩; have V4 := hid (V3.out.keep b4); have B14 := hid (B13.out.trans (b4.mono B13.out.size)); have B4 := hid (B3.out.trans (b4.mono B3.out.size)); have c0 : w4.cell? ⟨wr.heap.size, 0, none⟩ = some (.string (strB xw)) := V4.out.cell (j := 0) rfl; clear b4)
                  | (refine Sh.wp_ld smS rfl (.tmp 11) rfl rfl V3.out.1 ?_)
                  | (refine Sh.wp_sv smS (x := ⟨xw, xA, xn, xc, xb, xB, xm, xk⟩) rfl (.tmp 11) (.tmp 26) rfl rfl (by rfl) q2 ?_; intro w3 q3 b3 o3 s3; have V3 := hid q3; have B13 := hid (B2.out.trans (b3.mono (Nat.le_refl _))); have B3 := hid (BW.out.trans (B13.out.mono BW.out.size)); clear q2 q3 b3 o3 s3)
                  | (refine Sh.wp_al smS rfl rfl ?_; intro w2 q2 b2 s2; have B2 := hid b2; clear b2 s2)
                  | (refine Sh.wp_ld smS rfl (.tmp 25) rfl rfl r1 ?_))
                refine wp_loop_rounds 1 ?_
                rw [rounds_succ]
                go_wp2_with (first
                  | (refine wp_upK (k := ⟨xw, 0, 0⟩) (n := i) rfl (.tmp 72) (.tmp 73) (.tmp 74) rfl Tryz.underlying86 rfl rfl rfl (SM.out.keep B19.out) HQ.out ?_; intro w20 m20 b20 o20 s20; have M20 := hid m20; have B20 := hid (B9.out.trans b20); clear m20 b20 o20 s20)
                  | (refine wp_lkK (k := ⟨xw, 0, 0⟩) (r := .tuple #[.int .i64 0, .bool false]) rfl (.tmp 65) (.tmp 66) rfl Tryz.underlying86 (by kernel_rfl) rfl rfl (SM.out.keep B19.out) (by rw [HQ.out]; rfl) ?_)
                  | (refine Sv.wp_ld kyS rfl (.tmp 14) rfl rfl Y9.out.1 ?_))
                go_roundw
                case rel => exact ⟨i + 1, nx, ks ++ [(⟨xw, 0, 0⟩, i)], by go_num, by omega, M20.out, HV.out, HNX.out.1, HNX.out.2, B20.out⟩
                case measure => simp [intOf]; omega
            ·
              obtain ⟨b3, o3, rfl, hb3, hr0⟩ := HNS.out.size.at_ (k := 0) (by omega)
              have HBL := hid hb3
              obtain ⟨hk0, hk1⟩ := key_take1 (ns := ns) (by omega)
              rw [hk0, hk1] at HSR3
              clear hk0 hk1
              generalize nmS.nth ns 0 = y0 at *
              obtain ⟨z0, t0⟩ := y0
              have E0 := hid (show w.cell? ⟨b3, o3, none⟩ = some (.int .i64 z0) from hr0 0 _ rfl)
              have K0 := hid (show w.cell? ⟨b3, o3 + 1, none⟩ = some (.bool t0) from hr0 1 _ rfl)
              clear hr0
              clear hb3
              have HSR4 : Hid ((if ks.any (fun p => p.1 == (⟨xw, z0, 0⟩ : Ky)) = true then Sd.bad i 7 else standF (nx.topL.zip (ins.drop (i + 1))) (i + 1) (ks ++ [(⟨xw, z0, 0⟩, i)])) = S) := hid HSR3.out
              clear HSR3
              rw [← fndK_any] at HSR4
              cases hq : fndK ks ⟨xw, z0, 0⟩ with
              | some pq =>
                have HQ := hid hq
                have HV : Hid (Sd.bad i 7 = S) := hid (by have := HSR4.out; rwa [hq, if_pos Option.isSome_some] at this)
                clear HSR4 hq
                go_wp2_with (first
                  | (go_at_call 63; refine (HNM.out w8).mono ?_; rintro e w9 ⟨rfl, b9⟩; have Y9 := hid (Y8.out.keep b9); have YL := hid Y9.out.lt; have B19 := hid (B18.out.trans (b9.mono B18.out.size)); have B9 := hid (B8.out.trans (b9.mono B8.out.size)); have e0 : w9.cell? ⟨b3, o3, none⟩ = some (.int .i64 z0) := (B9.out.cell (p := ⟨b3, o3, none⟩) HBL.out).trans E0.out; have k0 : w9.cell? ⟨b3, o3 + 1, none⟩ = some (.bool t0) := (B9.out.cell (p := ⟨b3, o3 + 1, none⟩) HBL.out).trans K0.out; clear b9)
                  | (refine Sv.wp_ld feS rfl (.tmp 13) rfl rfl F8.out.1 ?_)
                  | (refine Sh.wp_ld smS rfl (.tmp 11) rfl rfl V8.out.1 ?_)
                  | (refine Sv.wp_sv kyS (x := ⟨xw, 0, 0⟩) rfl (.tmp 14) (.tmp 48) rfl rfl (by rfl) q7 ?_; intro w8 q8 b8 o8 s8; have Y8 := hid q8; have B68 := hid (B67.out.trans (b8.mono (Nat.le_refl _))); have B18 := hid (B16.out.trans (B68.out.mono B16.out.size)); have B8 := hid (B6.out.trans (B68.out.mono B6.out.size)); have F8 := hid (F6.out.keep B68.out); have V8 := hid (V6.out.keep B68.out); clear q7 q8 b8 o8 s8)
                  | (refine Sv.wp_al kyS rfl rfl ?_; intro w7 q7 b7 s7; have B67 := hid b7; clear b7 s7)
                  | (refine Sv.wp_sv feS (x := ⟨some ⟨gF, 0, none⟩, nums.length, nums.length, 1, true, bk⟩) rfl (.tmp 13) (.tmp 37) rfl rfl (by rfl) q5 ?_; intro w6 q6 b6 o6 s6; have F6 := hid q6; have B46 := hid (B45.out.trans (b6.mono (Nat.le_refl _))); have B16 := hid (B14.out.trans (B46.out.mono B14.out.size)); have B6 := hid (B4.out.trans (B46.out.mono B4.out.size)); have V6 := hid (V4.out.keep B46.out); have f2 : w6.cell? ⟨w4.heap.size, 2, none⟩ = some (.bool true) := F6.out.cell (j := 2) rfl; have fl : w6.cell? ⟨b2, i, none⟩ = some (.bool false) := (B6.out.cell (p := ⟨b2, i, none⟩) HFL.out.1).trans HFL.out.2; have c6 : w6.cell? ⟨wr.heap.size, 0, none⟩ = some (.string (strB xw)) := V6.out.cell (j := 0) rfl; clear q5 q6 b6 o6 s6)
                  | (refine Sv.wp_al feS rfl rfl ?_; intro w5 q5 b5 s5; have B45 := hid b5; clear b5 s5)
                  | (refine wp_lk (r := feS.val ⟨some ⟨gF, 0, none⟩, nums.length, nums.length, 1, true, bk⟩) rfl (.tmp 34) (.tmp 36) rfl Tryz.underlying78 (feS.val feS.z) rfl rfl (HMP.out.1.keep B4.out) (feS.zero _) (by rw [HMP.out.2]; rfl) ?_)
                  | (go_at_call 51; refine (HO.out w3 B3.out).mono ?_; rintro e w4 ⟨rfl, b4⟩; have V4 := hid (V3.out.keep b4); have B14 := hid (B13.out.trans (b4.mono B13.out.size)); have B4 := hid (B3.out.trans (b4.mono B3.out.size)); have c0 : w4.cell? ⟨wr.heap.size, 0, none⟩ = some (.string (strB xw)) := V4.out.cell (j := 0) rfl; clear b4)
                  | (refine Sh.wp_ld smS rfl (.tmp 11) rfl rfl V3.out.1 ?_)
                  | (refine Sh.wp_sv smS (x := ⟨xw, some ⟨b3, o3, none⟩, xn, xc, xb, xB, xm, xk⟩) rfl (.tmp 11) (.tmp 26) rfl rfl (by rfl) q2 ?_; intro w3 q3 b3 o3 s3; have V3 := hid q3; have B13 := hid (B2.out.trans (b3.mono (Nat.le_refl _))); have B3 := hid (BW.out.trans (B13.out.mono BW.out.size)); clear q2 q3 b3 o3 s3)
                  | (refine Sh.wp_al smS rfl rfl ?_; intro w2 q2 b2 s2; have B2 := hid b2; clear b2 s2)
                  | (refine Sh.wp_ld smS rfl (.tmp 25) rfl rfl r1 ?_))
                refine wp_loop_rounds 2 ?_
                rw [rounds_succ]
                go_wp2_with (first
                  | (refine Sh.wp_sv nmS (x := (z0, t0)) rfl (.tmp 16) (.tmp 57) rfl rfl (by rfl) QA.out ?_; intro w11 q b o s; have d0 : w11.cell? ⟨w9.heap.size, 0, none⟩ = some (.int .i64 z0) := q.cell (j := 0) rfl; have YB := hid (YA.out.below b Y9.out.lt); have BB := hid (BA.out.trans (b.mono (by simp))); have BC := hid (B19.out.trans (BB.out.mono B19.out.size)); have BD := hid (B9.out.trans (BB.out.mono B9.out.size)); have y1 : w11.cell? ⟨w6.heap.size, 1, none⟩ = some (.int .i64 0) := YB.out.cell (j := 1) rfl; have y1f : w11.frozen? ⟨w6.heap.size, 1, none⟩ = false := YB.out.free (by decide); have YS := hid (ky_n0 YB.out z0); have BS := hid (show Below wr.heap.size wr (w11.setCell ⟨w6.heap.size, 1, none⟩ (.int .i64 z0)) from BC.out.trans (YS.out.2.bl.mono B16.out.size)); have BSw := hid (show Below w.heap.size w (w11.setCell ⟨w6.heap.size, 1, none⟩ (.int .i64 z0)) from BD.out.trans (YS.out.2.bl.mono B6.out.size)); clear q b o s)
                  | (refine Sh.wp_al nmS rfl rfl ?_; intro w10 q b s; have QA := hid q; have YA := hid (Y9.out.keep b); have BA := hid b; clear q b s))
                rw [rounds_succ]
                go_wp2_with (first
                  | (refine wp_lkK (k := ⟨xw, z0, 0⟩) (r := .tuple #[.int .i64 (pq.2 : Int), .bool true]) rfl (.tmp 65) (.tmp 66) rfl Tryz.underlying86 (by kernel_rfl) rfl rfl (SM.out.keep BS.out) (by rw [HQ.out]; rfl) ?_)
                  | (refine Sv.wp_ld kyS rfl (.tmp 14) rfl rfl YS.out.1.1 ?_))
                go_ret3
                refine ⟨?_, BSw.out⟩
                rw [← HV.out]
                rfl
              | none =>
                have HQ := hid hq
                have HV : Hid (standF (nx.topL.zip (ins.drop (i + 1))) (i + 1) (ks ++ [(⟨xw, z0, 0⟩, i)]) = S) := hid (by have := HSR4.out; rwa [hq, if_neg (by simp)] at this)
                clear HSR4 hq
                go_wp2_with (first
                  | (go_at_call 63; refine (HNM.out w8).mono ?_; rintro e w9 ⟨rfl, b9⟩; have Y9 := hid (Y8.out.keep b9); have YL := hid Y9.out.lt; have B19 := hid (B18.out.trans (b9.mono B18.out.size)); have B9 := hid (B8.out.trans (b9.mono B8.out.size)); have e0 : w9.cell? ⟨b3, o3, none⟩ = some (.int .i64 z0) := (B9.out.cell (p := ⟨b3, o3, none⟩) HBL.out).trans E0.out; have k0 : w9.cell? ⟨b3, o3 + 1, none⟩ = some (.bool t0) := (B9.out.cell (p := ⟨b3, o3 + 1, none⟩) HBL.out).trans K0.out; clear b9)
                  | (refine Sv.wp_ld feS rfl (.tmp 13) rfl rfl F8.out.1 ?_)
                  | (refine Sh.wp_ld smS rfl (.tmp 11) rfl rfl V8.out.1 ?_)
                  | (refine Sv.wp_sv kyS (x := ⟨xw, 0, 0⟩) rfl (.tmp 14) (.tmp 48) rfl rfl (by rfl) q7 ?_; intro w8 q8 b8 o8 s8; have Y8 := hid q8; have B68 := hid (B67.out.trans (b8.mono (Nat.le_refl _))); have B18 := hid (B16.out.trans (B68.out.mono B16.out.size)); have B8 := hid (B6.out.trans (B68.out.mono B6.out.size)); have F8 := hid (F6.out.keep B68.out); have V8 := hid (V6.out.keep B68.out); clear q7 q8 b8 o8 s8)
                  | (refine Sv.wp_al kyS rfl rfl ?_; intro w7 q7 b7 s7; have B67 := hid b7; clear b7 s7)
                  | (refine Sv.wp_sv feS (x := ⟨some ⟨gF, 0, none⟩, nums.length, nums.length, 1, true, bk⟩) rfl (.tmp 13) (.tmp 37) rfl rfl (by rfl) q5 ?_; intro w6 q6 b6 o6 s6; have F6 := hid q6; have B46 := hid (B45.out.trans (b6.mono (Nat.le_refl _))); have B16 := hid (B14.out.trans (B46.out.mono B14.out.size)); have B6 := hid (B4.out.trans (B46.out.mono B4.out.size)); have V6 := hid (V4.out.keep B46.out); have f2 : w6.cell? ⟨w4.heap.size, 2, none⟩ = some (.bool true) := F6.out.cell (j := 2) rfl; have fl : w6.cell? ⟨b2, i, none⟩ = some (.bool false) := (B6.out.cell (p := ⟨b2, i, none⟩) HFL.out.1).trans HFL.out.2; have c6 : w6.cell? ⟨wr.heap.size, 0, none⟩ = some (.string (strB xw)) := V6.out.cell (j := 0) rfl; clear q5 q6 b6 o6 s6)
                  | (refine Sv.wp_al feS rfl rfl ?_; intro w5 q5 b5 s5; have B45 := hid b5; clear b5 s5)
                  | (refine wp_lk (r := feS.val ⟨some ⟨gF, 0, none⟩, nums.length, nums.length, 1, true, bk⟩) rfl (.tmp 34) (.tmp 36) rfl Tryz.underlying78 (feS.val feS.z) rfl rfl (HMP.out.1.keep B4.out) (feS.zero _) (by rw [HMP.out.2]; rfl) ?_)
                  | (go_at_call 51; refine (HO.out w3 B3.out).mono ?_; rintro e w4 ⟨rfl, b4⟩; have V4 := hid (V3.out.keep b4); have B14 := hid (B13.out.trans (b4.mono B13.out.size)); have B4 := hid (B3.out.trans (b4.mono B3.out.size)); have c0 : w4.cell? ⟨wr.heap.size, 0, none⟩ = some (.string (strB xw)) := V4.out.cell (j := 0) rfl; clear b4)
                  | (refine Sh.wp_ld smS rfl (.tmp 11) rfl rfl V3.out.1 ?_)
                  | (refine Sh.wp_sv smS (x := ⟨xw, some ⟨b3, o3, none⟩, xn, xc, xb, xB, xm, xk⟩) rfl (.tmp 11) (.tmp 26) rfl rfl (by rfl) q2 ?_; intro w3 q3 b3 o3 s3; have V3 := hid q3; have B13 := hid (B2.out.trans (b3.mono (Nat.le_refl _))); have B3 := hid (BW.out.trans (B13.out.mono BW.out.size)); clear q2 q3 b3 o3 s3)
                  | (refine Sh.wp_al smS rfl rfl ?_; intro w2 q2 b2 s2; have B2 := hid b2; clear b2 s2)
                  | (refine Sh.wp_ld smS rfl (.tmp 25) rfl rfl r1 ?_))
                refine wp_loop_rounds 2 ?_
                rw [rounds_succ]
                go_wp2_with (first
                  | (refine Sh.wp_sv nmS (x := (z0, t0)) rfl (.tmp 16) (.tmp 57) rfl rfl (by rfl) QA.out ?_; intro w11 q b o s; have d0 : w11.cell? ⟨w9.heap.size, 0, none⟩ = some (.int .i64 z0) := q.cell (j := 0) rfl; have YB := hid (YA.out.below b Y9.out.lt); have BB := hid (BA.out.trans (b.mono (by simp))); have BC := hid (B19.out.trans (BB.out.mono B19.out.size)); have BD := hid (B9.out.trans (BB.out.mono B9.out.size)); have y1 : w11.cell? ⟨w6.heap.size, 1, none⟩ = some (.int .i64 0) := YB.out.cell (j := 1) rfl; have y1f : w11.frozen? ⟨w6.heap.size, 1, none⟩ = false := YB.out.free (by decide); have YS := hid (ky_n0 YB.out z0); have BS := hid (show Below wr.heap.size wr (w11.setCell ⟨w6.heap.size, 1, none⟩ (.int .i64 z0)) from BC.out.trans (YS.out.2.bl.mono B16.out.size)); have BSw := hid (show Below w.heap.size w (w11.setCell ⟨w6.heap.size, 1, none⟩ (.int .i64 z0)) from BD.out.trans (YS.out.2.bl.mono B6.out.size)); clear q b o s)
                  | (refine Sh.wp_al nmS rfl rfl ?_; intro w10 q b s; have QA := hid q; have YA := hid (Y9.out.keep b); have BA := hid b; clear q b s))
                rw [rounds_succ]
                go_wp2_with (first
                  | (refine wp_upK (k := ⟨xw, z0, 0⟩) (n := i) rfl (.tmp 72) (.tmp 73) (.tmp 74) rfl Tryz.underlying86 rfl rfl rfl (SM.out.keep BS.out) HQ.out ?_; intro w20 m20 b20 o20 s20; have M20 := hid m20; have B20 := hid (BSw.out.trans b20); clear m20 b20 o20 s20)
                  | (refine wp_lkK (k := ⟨xw, z0, 0⟩) (r := .tuple #[.int .i64 0, .bool false]) rfl (.tmp 65) (.tmp 66) rfl Tryz.underlying86 (by kernel_rfl) rfl rfl (SM.out.keep BS.out) (by rw [HQ.out]; rfl) ?_)
                  | (refine Sv.wp_ld kyS rfl (.tmp 14) rfl rfl YS.out.1.1 ?_))
                go_roundw
                case rel => exact ⟨i + 1, nx, ks ++ [(⟨xw, z0, 0⟩, i)], by go_num, by omega, M20.out, HV.out, HNX.out.1, HNX.out.2, B20.out⟩
                case measure => simp [intOf]; omega
            ·
              obtain ⟨b3, o3, rfl, hb3, hr0⟩ := HNS.out.size.at_ (k := 0) (by omega)
              have HBL := hid hb3
              obtain ⟨b3', o3', he, _, hr1⟩ := HNS.out.size.at_ (k := 1) (by omega)
              injection he with he; injection he with he1 he2
              subst he1 he2
              obtain ⟨hk0, hk1⟩ := key_take2 (ns := ns) (by omega)
              rw [hk0, hk1] at HSR3
              clear hk0 hk1
              generalize nmS.nth ns 0 = y0 at *
              obtain ⟨z0, t0⟩ := y0
              have E0 := hid (show w.cell? ⟨b3, o3, none⟩ = some (.int .i64 z0) from hr0 0 _ rfl)
              have K0 := hid (show w.cell? ⟨b3, o3 + 1, none⟩ = some (.bool t0) from hr0 1 _ rfl)
              clear hr0
              generalize nmS.nth ns 1 = y1 at *
              obtain ⟨z1, t1⟩ := y1
              have E1 := hid (show w.cell? ⟨b3, o3 + 2, none⟩ = some (.int .i64 z1) from hr1 0 _ rfl)
              have K1 := hid (show w.cell? ⟨b3, o3 + 2 + 1, none⟩ = some (.bool t1) from hr1 1 _ rfl)
              clear hr1
              clear hb3
              have HSR4 : Hid ((if ks.any (fun p => p.1 == (⟨xw, z0, z1⟩ : Ky)) = true then Sd.bad i 7 else standF (nx.topL.zip (ins.drop (i + 1))) (i + 1) (ks ++ [(⟨xw, z0, z1⟩, i)])) = S) := hid HSR3.out
              clear HSR3
              rw [← fndK_any] at HSR4
              cases hq : fndK ks ⟨xw, z0, z1⟩ with
              | some pq =>
                have HQ := hid hq
                have HV : Hid (Sd.bad i 7 = S) := hid (by have := HSR4.out; rwa [hq, if_pos Option.isSome_some] at this)
                clear HSR4 hq
                go_wp2_with (first
                  | (go_at_call 63; refine (HNM.out w8).mono ?_; rintro e w9 ⟨rfl, b9⟩; have Y9 := hid (Y8.out.keep b9); have YL := hid Y9.out.lt; have B19 := hid (B18.out.trans (b9.mono B18.out.size)); have B9 := hid (B8.out.trans (b9.mono B8.out.size)); have e0 : w9.cell? ⟨b3, o3, none⟩ = some (.int .i64 z0) := (B9.out.cell (p := ⟨b3, o3, none⟩) HBL.out).trans E0.out; have k0 : w9.cell? ⟨b3, o3 + 1, none⟩ = some (.bool t0) := (B9.out.cell (p := ⟨b3, o3 + 1, none⟩) HBL.out).trans K0.out; have e1 : w9.cell? ⟨b3, o3 + 2, none⟩ = some (.int .i64 z1) := (B9.out.cell (p := ⟨b3, o3 + 2, none⟩) HBL.out).trans E1.out; have k1 : w9.cell? ⟨b3, o3 + 2 + 1, none⟩ = some (.bool t1) := (B9.out.cell (p := ⟨b3, o3 + 2 + 1, none⟩) HBL.out).trans K1.out; clear b9)
                  | (refine Sv.wp_ld feS rfl (.tmp 13) rfl rfl F8.out.1 ?_)
                  | (refine Sh.wp_ld smS rfl (.tmp 11) rfl rfl V8.out.1 ?_)
                  | (refine Sv.wp_sv kyS (x := ⟨xw, 0, 0⟩) rfl (.tmp 14) (.tmp 48) rfl rfl (by rfl) q7 ?_; intro w8 q8 b8 o8 s8; have Y8 := hid q8; have B68 := hid (B67.out.trans (b8.mono (Nat.le_refl _))); have B18 := hid (B16.out.trans (B68.out.mono B16.out.size)); have B8 := hid (B6.out.trans (B68.out.mono B6.out.size)); have F8 := hid (F6.out.keep B68.out); have V8 := hid (V6.out.keep B68.out); clear q7 q8 b8 o8 s8)
                  | (refine Sv.wp_al kyS rfl rfl ?_; intro w7 q7 b7 s7; have B67 := hid b7; clear b7 s7)
                  | (refine Sv.wp_sv feS (x := ⟨some ⟨gF, 0, none⟩, nums.length, nums.length, 2, true, bk⟩) rfl (.tmp 13) (.tmp 37) rfl rfl (by rfl) q5 ?_; intro w6 q6 b6 o6 s6; have F6 := hid q6; have B46 := hid (B45.out.trans (b6.mono (Nat.le_refl _))); have B16 := hid (B14.out.trans (B46.out.mono B14.out.size)); have B6 := hid (B4.out.trans (B46.out.mono B4.out.size)); have V6 := hid (V4.out.keep B46.out); have f2 : w6.cell? ⟨w4.heap.size, 2, none⟩ = some (.bool true) := F6.out.cell (j := 2) rfl; have fl : w6.cell? ⟨b2, i, none⟩ = some (.bool false) := (B6.out.cell (p := ⟨b2, i, none⟩) HFL.out.1).trans HFL.out.2; have c6 : w6.cell? ⟨wr.heap.size, 0, none⟩ = some (.string (strB xw)) := V6.out.cell (j := 0) rfl; clear q5 q6 b6 o6 s6)
                  | (refine Sv.wp_al feS rfl rfl ?_; intro w5 q5 b5 s5; have B45 := hid b5; clear b5 s5)
                  | (refine wp_lk (r := feS.val ⟨some ⟨gF, 0, none⟩, nums.length, nums.length, 2, true, bk⟩) rfl (.tmp 34) (.tmp 36) rfl Tryz.underlying78 (feS.val feS.z) rfl rfl (HMP.out.1.keep B4.out) (feS.zero _) (by rw [HMP.out.2]; rfl) ?_)
                  | (go_at_call 51; refine (HO.out w3 B3.out).mono ?_; rintro e w4 ⟨rfl, b4⟩; have V4 := hid (V3.out.keep b4); have B14 := hid (B13.out.trans (b4.mono B13.out.size)); have B4 := hid (B3.out.trans (b4.mono B3.out.size)); have c0 : w4.cell? ⟨wr.heap.size, 0, none⟩ = some (.string (strB xw)) := V4.out.cell (j := 0) rfl; clear b4)
                  | (refine Sh.wp_ld smS rfl (.tmp 11) rfl rfl V3.out.1 ?_)
                  | (refine Sh.wp_sv smS (x := ⟨xw, some ⟨b3, o3, none⟩, xn, xc, xb, xB, xm, xk⟩) rfl (.tmp 11) (.tmp 26) rfl rfl (by rfl) q2 ?_; intro w3 q3 b3 o3 s3; have V3 := hid q3; have B13 := hid (B2.out.trans (b3.mono (Nat.le_refl _))); have B3 := hid (BW.out.trans (B13.out.mono BW.out.size)); clear q2 q3 b3 o3 s3)
                  | (refine Sh.wp_al smS rfl rfl ?_; intro w2 q2 b2 s2; have B2 := hid b2; clear b2 s2)
                  | (refine Sh.wp_ld smS rfl (.tmp 25) rfl rfl r1 ?_))
                refine wp_loop_rounds 3 ?_
                rw [rounds_succ]
                go_wp2_with (first
                  | (refine Sh.wp_sv nmS (x := (z0, t0)) rfl (.tmp 16) (.tmp 57) rfl rfl (by rfl) QA.out ?_; intro w11 q b o s; have d0 : w11.cell? ⟨w9.heap.size, 0, none⟩ = some (.int .i64 z0) := q.cell (j := 0) rfl; have YB := hid (YA.out.below b Y9.out.lt); have BB := hid (BA.out.trans (b.mono (by simp))); have BC := hid (B19.out.trans (BB.out.mono B19.out.size)); have BD := hid (B9.out.trans (BB.out.mono B9.out.size)); have y1 : w11.cell? ⟨w6.heap.size, 1, none⟩ = some (.int .i64 0) := YB.out.cell (j := 1) rfl; have y1f : w11.frozen? ⟨w6.heap.size, 1, none⟩ = false := YB.out.free (by decide); have YS := hid (ky_n0 YB.out z0); have BS := hid (show Below wr.heap.size wr (w11.setCell ⟨w6.heap.size, 1, none⟩ (.int .i64 z0)) from BC.out.trans (YS.out.2.bl.mono B16.out.size)); have BSw := hid (show Below w.heap.size w (w11.setCell ⟨w6.heap.size, 1, none⟩ (.int .i64 z0)) from BD.out.trans (YS.out.2.bl.mono B6.out.size)); have e1s : (w11.setCell ⟨w6.heap.size, 1, none⟩ (.int .i64 z0)).cell? ⟨b3, o3 + 2, none⟩ = some (.int .i64 z1) := (BSw.out.cell (p := ⟨b3, o3 + 2, none⟩) HBL.out).trans E1.out; have k1s : (w11.setCell ⟨w6.heap.size, 1, none⟩ (.int .i64 z0)).cell? ⟨b3, o3 + 2 + 1, none⟩ = some (.bool t1) := (BSw.out.cell (p := ⟨b3, o3 + 2 + 1, none⟩) HBL.out).trans K1.out; clear q b o s)
                  | (refine Sh.wp_al nmS rfl rfl ?_; intro w10 q b s; have QA := hid q; have YA := hid (Y9.out.keep b); have BA := hid b; clear q b s))
                rw [rounds_succ]
                go_wp2_with (first
                  | (refine Sh.wp_sv nmS (x := (z1, t1)) rfl (.tmp 16) (.tmp 57) rfl rfl (by rfl) QA.out ?_; intro w13 q b o s; have d0 : w13.cell? ⟨w11.heap.size, 0, none⟩ = some (.int .i64 z1) := q.cell (j := 0) rfl; have YB := hid (YA.out.below b YB.out.lt); have BB := hid (BA.out.trans (b.mono (by simp))); have BC := hid (BS.out.trans (BB.out.mono BS.out.size)); have BD := hid (BSw.out.trans (BB.out.mono BSw.out.size)); have y1 : w13.cell? ⟨w6.heap.size, 2, none⟩ = some (.int .i64 0) := YB.out.cell (j := 2) rfl; have y1f : w13.frozen? ⟨w6.heap.size, 2, none⟩ = false := YB.out.free (by decide); have YS2 := hid (ky_n1 YB.out z1); have BS2 := hid (show Below wr.heap.size wr (w13.setCell ⟨w6.heap.size, 2, none⟩ (.int .i64 z1)) from BC.out.trans (YS2.out.2.bl.mono B16.out.size)); have BSw2 := hid (show Below w.heap.size w (w13.setCell ⟨w6.heap.size, 2, none⟩ (.int .i64 z1)) from BD.out.trans (YS2.out.2.bl.mono B6.out.size)); clear q b o s)
                  | (refine Sh.wp_al nmS rfl rfl ?_; intro w12 q b s; have QA := hid (show nmS.Var w12 w11.heap.size _ from by simpa using q); have YA := hid (YS.out.1.keep b); have BA := hid b; clear q b s))
                rw [rounds_succ]
                go_wp2_with (first
                  | (refine wp_lkK (k := ⟨xw, z0, z1⟩) (r := .tuple #[.int .i64 (pq.2 : Int), .bool true]) rfl (.tmp 65) (.tmp 66) rfl Tryz.underlying86 (by kernel_rfl) rfl rfl (SM.out.keep BS2.out) (by rw [HQ.out]; rfl) ?_)
                  | (refine Sv.wp_ld kyS rfl (.tmp 14) rfl rfl YS2.out.1.1 ?_))
                go_ret3
                refine ⟨?_, BSw2.out⟩
                rw [← HV.out]
                rfl
              | none =>
                have HQ := hid hq
                have HV : Hid (standF (nx.topL.zip (ins.drop (i + 1))) (i + 1) (ks ++ [(⟨xw, z0, z1⟩, i)]) = S) := hid (by have := HSR4.out; rwa [hq, if_neg (by simp)] at this)
                clear HSR4 hq
                go_wp2_with (first
                  | (go_at_call 63; refine (HNM.out w8).mono ?_; rintro e w9 ⟨rfl, b9⟩; have Y9 := hid (Y8.out.keep b9); have YL := hid Y9.out.lt; have B19 := hid (B18.out.trans (b9.mono B18.out.size)); have B9 := hid (B8.out.trans (b9.mono B8.out.size)); have e0 : w9.cell? ⟨b3, o3, none⟩ = some (.int .i64 z0) := (B9.out.cell (p := ⟨b3, o3, none⟩) HBL.out).trans E0.out; have k0 : w9.cell? ⟨b3, o3 + 1, none⟩ = some (.bool t0) := (B9.out.cell (p := ⟨b3, o3 + 1, none⟩) HBL.out).trans K0.out; have e1 : w9.cell? ⟨b3, o3 + 2, none⟩ = some (.int .i64 z1) := (B9.out.cell (p := ⟨b3, o3 + 2, none⟩) HBL.out).trans E1.out; have k1 : w9.cell? ⟨b3, o3 + 2 + 1, none⟩ = some (.bool t1) := (B9.out.cell (p := ⟨b3, o3 + 2 + 1, none⟩) HBL.out).trans K1.out; clear b9)
                  | (refine Sv.wp_ld feS rfl (.tmp 13) rfl rfl F8.out.1 ?_)
                  | (refine Sh.wp_ld smS rfl (.tmp 11) rfl rfl V8.out.1 ?_)
                  | (refine Sv.wp_sv kyS (x := ⟨xw, 0, 0⟩) rfl (.tmp 14) (.tmp 48) rfl rfl (by rfl) q7 ?_; intro w8 q8 b8 o8 s8; have Y8 := hid q8; have B68 := hid (B67.out.trans (b8.mono (Nat.le_refl _))); have B18 := hid (B16.out.trans (B68.out.mono B16.out.size)); have B8 := hid (B6.out.trans (B68.out.mono B6.out.size)); have F8 := hid (F6.out.keep B68.out); have V8 := hid (V6.out.keep B68.out); clear q7 q8 b8 o8 s8)
                  | (refine Sv.wp_al kyS rfl rfl ?_; intro w7 q7 b7 s7; have B67 := hid b7; clear b7 s7)
                  | (refine Sv.wp_sv feS (x := ⟨some ⟨gF, 0, none⟩, nums.length, nums.length, 2, true, bk⟩) rfl (.tmp 13) (.tmp 37) rfl rfl (by rfl) q5 ?_; intro w6 q6 b6 o6 s6; have F6 := hid q6; have B46 := hid (B45.out.trans (b6.mono (Nat.le_refl _))); have B16 := hid (B14.out.trans (B46.out.mono B14.out.size)); have B6 := hid (B4.out.trans (B46.out.mono B4.out.size)); have V6 := hid (V4.out.keep B46.out); have f2 : w6.cell? ⟨w4.heap.size, 2, none⟩ = some (.bool true) := F6.out.cell (j := 2) rfl; have fl : w6.cell? ⟨b2, i, none⟩ = some (.bool false) := (B6.out.cell (p := ⟨b2, i, none⟩) HFL.out.1).trans HFL.out.2; have c6 : w6.cell? ⟨wr.heap.size, 0, none⟩ = some (.string (strB xw)) := V6.out.cell (j := 0) rfl; clear q5 q6 b6 o6 s6)
                  | (refine Sv.wp_al feS rfl rfl ?_; intro w5 q5 b5 s5; have B45 := hid b5; clear b5 s5)
                  | (refine wp_lk (r := feS.val ⟨some ⟨gF, 0, none⟩, nums.length, nums.length, 2, true, bk⟩) rfl (.tmp 34) (.tmp 36) rfl Tryz.underlying78 (feS.val feS.z) rfl rfl (HMP.out.1.keep B4.out) (feS.zero _) (by rw [HMP.out.2]; rfl) ?_)
                  | (go_at_call 51; refine (HO.out w3 B3.out).mono ?_; rintro e w4 ⟨rfl, b4⟩; have V4 := hid (V3.out.keep b4); have B14 := hid (B13.out.trans (b4.mono B13.out.size)); have B4 := hid (B3.out.trans (b4.mono B3.out.size)); have c0 : w4.cell? ⟨wr.heap.size, 0, none⟩ = some (.string (strB xw)) := V4.out.cell (j := 0) rfl; clear b4)
                  | (refine Sh.wp_ld smS rfl (.tmp 11) rfl rfl V3.out.1 ?_)
                  | (refine Sh.wp_sv smS (x := ⟨xw, some ⟨b3, o3, none⟩, xn, xc, xb, xB, xm, xk⟩) rfl (.tmp 11) (.tmp 26) rfl rfl (by rfl) q2 ?_; intro w3 q3 b3 o3 s3; have V3 := hid q3; have B13 := hid (B2.out.trans (b3.mono (Nat.le_refl _))); have B3 := hid (BW.out.trans (B13.out.mono BW.out.size)); clear q2 q3 b3 o3 s3)
                  | (refine Sh.wp_al smS rfl rfl ?_; intro w2 q2 b2 s2; have B2 := hid b2; clear b2 s2)
                  | (refine Sh.wp_ld smS rfl (.tmp 25) rfl rfl r1 ?_))
                refine wp_loop_rounds 3 ?_
                rw [rounds_succ]
                go_wp2_with (first
                  | (refine Sh.wp_sv nmS (x := (z0, t0)) rfl (.tmp 16) (.tmp 57) rfl rfl (by rfl) QA.out ?_; intro w11 q b o s; have d0 : w11.cell? ⟨w9.heap.size, 0, none⟩ = some (.int .i64 z0) := q.cell (j := 0) rfl; have YB := hid (YA.out.below b Y9.out.lt); have BB := hid (BA.out.trans (b.mono (by simp))); have BC := hid (B19.out.trans (BB.out.mono B19.out.size)); have BD := hid (B9.out.trans (BB.out.mono B9.out.size)); have y1 : w11.cell? ⟨w6.heap.size, 1, none⟩ = some (.int .i64 0) := YB.out.cell (j := 1) rfl; have y1f : w11.frozen? ⟨w6.heap.size, 1, none⟩ = false := YB.out.free (by decide); have YS := hid (ky_n0 YB.out z0); have BS := hid (show Below wr.heap.size wr (w11.setCell ⟨w6.heap.size, 1, none⟩ (.int .i64 z0)) from BC.out.trans (YS.out.2.bl.mono B16.out.size)); have BSw := hid (show Below w.heap.size w (w11.setCell ⟨w6.heap.size, 1, none⟩ (.int .i64 z0)) from BD.out.trans (YS.out.2.bl.mono B6.out.size)); have e1s : (w11.setCell ⟨w6.heap.size, 1, none⟩ (.int .i64 z0)).cell? ⟨b3, o3 + 2, none⟩ = some (.int .i64 z1) := (BSw.out.cell (p := ⟨b3, o3 + 2, none⟩) HBL.out).trans E1.out; have k1s : (w11.setCell ⟨w6.heap.size, 1, none⟩ (.int .i64 z0)).cell? ⟨b3, o3 + 2 + 1, none⟩ = some (.bool t1) := (BSw.out.cell (p := ⟨b3, o3 + 2 + 1, none⟩) HBL.out).trans K1.out; clear q b o s)
                  | (refine Sh.wp_al nmS rfl rfl ?_; intro w10 q b s; have QA := hid q; have YA := hid (Y9.out.keep b); have BA := hid b; clear q b s))
                rw [rounds_succ]
                go_wp2_with (first
                  | (refine Sh.wp_sv nmS (x := (z1, t1)) rfl (.tmp 16) (.tmp 57) rfl rfl (by rfl) QA.out ?_; intro w13 q b o s; have d0 : w13.cell? ⟨w11.heap.size, 0, none⟩ = some (.int .i64 z1) := q.cell (j := 0) rfl; have YB := hid (YA.out.below b YB.out.lt); have BB := hid (BA.out.trans (b.mono (by simp))); have BC := hid (BS.out.trans (BB.out.mono BS.out.size)); have BD := hid (BSw.out.trans (BB.out.mono BSw.out.size)); have y1 : w13.cell? ⟨w6.heap.size, 2, none⟩ = some (.int .i64 0) := YB.out.cell (j := 2) rfl; have y1f : w13.frozen? ⟨w6.heap.size, 2, none⟩ = false := YB.out.free (by decide); have YS2 := hid (ky_n1 YB.out z1); have BS2 := hid (show Below wr.heap.size wr (w13.setCell ⟨w6.heap.size, 2, none⟩ (.int .i64 z1)) from BC.out.trans (YS2.out.2.bl.mono B16.out.size)); have BSw2 := hid (show Below w.heap.size w (w13.setCell ⟨w6.heap.size, 2, none⟩ (.int .i64 z1)) from BD.out.trans (YS2.out.2.bl.mono B6.out.size)); clear q b o s)
                  | (refine Sh.wp_al nmS rfl rfl ?_; intro w12 q b s; have QA := hid (show nmS.Var w12 w11.heap.size _ from by simpa using q); have YA := hid (YS.out.1.keep b); have BA := hid b; clear q b s))
                rw [rounds_succ]
                go_wp2_with (first
                  | (refine wp_upK (k := ⟨xw, z0, z1⟩) (n := i) rfl (.tmp 72) (.tmp 73) (.tmp 74) rfl Tryz.underlying86 rfl rfl rfl (SM.out.keep BS2.out) HQ.out ?_; intro w20 m20 b20 o20 s20; have M20 := hid m20; have B20 := hid (BSw2.out.trans b20); clear m20 b20 o20 s20)
                  | (refine wp_lkK (k := ⟨xw, z0, z1⟩) (r := .tuple #[.int .i64 0, .bool false]) rfl (.tmp 65) (.tmp 66) rfl Tryz.underlying86 (by kernel_rfl) rfl rfl (SM.out.keep BS2.out) (by rw [HQ.out]; rfl) ?_)
                  | (refine Sv.wp_ld kyS rfl (.tmp 14) rfl rfl YS2.out.1.1 ?_))
                go_roundw
                case rel => exact ⟨i + 1, nx, ks ++ [(⟨xw, z0, z1⟩, i)], by go_num, by omega, M20.out, HV.out, HNX.out.1, HNX.out.2, B20.out⟩
                case measure => simp [intOf]; omega
      · have hne : ¬ (er : Int) = 0 := by omega
        have hne2 : ((er : Int) != 0) = true := by simp; omega
        have HV : Hid (Sd.bad i er = S) := hid (by have := HSR2.out; rwa [if_pos h0] at this)
        clear HSR2 E1
        go_wp2_with (first
          | (go_at_call 51; refine (HO.out w3 B3.out).mono ?_; rintro e w4 ⟨rfl, b4⟩; have V4 := hid (V3.out.keep b4); have B14 := hid (B13.out.trans (b4.mono B13.out.size)); have B4 := hid (B3.out.trans (b4.mono B3.out.size)); have c0 : w4.cell? ⟨wr.heap.size, 0, none⟩ = some (.string (strB xw)) := V4.out.cell (j := 0) rfl; clear b4)
          | (refine Sh.wp_ld smS rfl (.tmp 11) rfl rfl V3.out.1 ?_)
          | (refine Sh.wp_sv smS (x := ⟨xw, xA, xn, xc, xb, xB, xm, xk⟩) rfl (.tmp 11) (.tmp 26) rfl rfl (by rfl) q2 ?_; intro w3 q3 b3 o3 s3; have V3 := hid q3; have B13 := hid (B2.out.trans (b3.mono (Nat.le_refl _))); have B3 := hid (BW.out.trans (B13.out.mono BW.out.size)); clear q2 q3 b3 o3 s3)
          | (refine Sh.wp_al smS rfl rfl ?_; intro w2 q2 b2 s2; have B2 := hid b2; clear b2 s2)
          | (refine Sh.wp_ld smS rfl (.tmp 25) rfl rfl r1 ?_))
        go_ret3
        refine ⟨?_, B4.out⟩
        rw [← HV.out]
        rfl
    · obtain rfl : i = n := by omega
      have hr := htr.done (by rw [HX.out.1]; exact Nat.le_refl _)
      subst hr
      have HV : Hid (Sd.ok ks = S) := hid (by have := HSR.out; simpa [Fo.topL, standF] using this)
      clear htr hbel HSR
      go_wp2
      go_ret3
      refine ⟨?_, BW.out⟩
      rw [← HV.out]
      exact ⟨_, rfl, SM.out⟩
end Go.Proofs.YtpkoboohnbkpoaaGreatDoor
