/-
  The contract of the reader's statement, continued: what follows a word and its numbers is a sign; and the whole, given what its list tells.
-/
import Derived.Test.YtinjhnflnfpoeaaGreatDoorPR
namespace Go.Proofs.YtinjhnflnfpoeaaGreatDoor
open Go Go.RowKit Go.Joins

set_option maxHeartbeats 1000000 in
set_option maxRecDepth 100000 in
theorem stm_other {d : Nat} {w : World} {g b c many : Nat} {pre rest : List Tk} {t : Tk} (h : Rd w g b c pre (t :: rest) many) (hm : ¬ many = 2000) {u : Tk} {r2 : List Tk} (hf : fewN rest = true) (hr : restF rest = u :: r2) (hu1 : ¬ u.kind = 1) (hu : ¬ u.s = [59]) (hu2 : ¬ u.s = [123]) :
    Calls Tryz.prog 57 #[.pointer (some ⟨g, 0, none⟩), .string (strB t.s), .int .i64 (d : Nat)] w (SmPost (.bad 4 (u :: r2)) w g b c pre (t :: rest)) := by
  have HG := hid h.lt
  have hm2 : many ≤ 1999 := by have := h.le2; omega
  have hm3 : many < 2000 := by omega
  have hmf : ((many : Int) == 2000) = false := beq_eq_false_iff_ne.2 (by omega)
  have HGB := hid h.ltb
  have hv := now_s u r2 hu1 (rest_head hr)
  have a1 := as_sw (.string (strB u.s))
  have a2 := as_se (.string (strB u.s))
  have a3 := as_s1 (.string (strB u.s))
  have e1 := sg_ne hu
  have e2 := sg_ne hu2
  have HR := hid h
  clear h
  go_enter Tryz.func57, Tryz.ntmps57
  go_upto_region 4 with (first
    | (refine Sh.wp_al smS rfl rfl ?_; intro w1 v1 b1 s1; have B1 := hid b1; have V1 := hid v1; have R1 := HR.out.below b1; have c2 := R1.c2; have f2 := R1.free (j := 2) (by omega); have HK := hid (fun (z : Int) (hz : z = (many : Int) + 1) => R1.many1 hm3 (z := z) hz); clear R1 b1 v1 s1))
  obtain ⟨R2, M2⟩ := HK.out ((many : Int) + 1) rfl
  have M2 := hid ((Mov.of B1.out (Nat.le_of_lt HG.out)).trans M2)
  have V2 := hid (V1.out.mov (HK.out ((many : Int) + 1) rfl).2 HG.out)
  clear HK c2 f2 V1 B1
  generalize w1.setCell ⟨g, 2, none⟩ (.int .i64 ((many : Int) + 1)) = w2 at *
  have c1 := R2.c1
  have f1 := R2.free (j := 1) (by omega)
  have hkl : (pre.length : Int) ≤ 1000000 := by have := R2.le; omega
  have hk0 : 0 ≤ (pre.length : Int) := by omega
  have HK := hid (show ∀ z : Int, z = (pre.length : Int) + 1 → _ from fun z hz => R2.at1 (z := z) hz)
  clear R2
  generalize (pre.length : Int) = q at *
  go_upto_region 5 with fail
  have H36 := hid V2.out.lt
  obtain ⟨R3, M3⟩ := HK.out (q + 1) rfl
  have H36 := hid (Nat.lt_of_lt_of_le H36.out M3.size)
  have V3 := hid (V2.out.mov M3 HG.out)
  have M3 := hid (M2.out.trans M3)
  have HN := hid (numbers_ok R3 hf hr)
  clear HK c1 f1 V2 M2 R3
  generalize w2.setCell ⟨g, 1, none⟩ (.int .i64 (q + 1)) = w3 at *
  go_wp2_with (first
    | (refine Sh.wp_sv smS (x := smZ) rfl (.tmp 6) (.tmp 82) rfl rfl (by rfl) q69 ?_; intro w10 q10 b10 o10 s10; have B10 := hid b10; clear b10 o10 s10)
    | (go_at_call 71; refine (wrong_any R8.out).mono ?_; rintro e w9 ⟨rfl, b9⟩; have B9 := hid (B8.out.trans (b9.mono B8.out.size)); have q69 := q68.keep b9; clear b9)
    | (go_at_call 40; refine N7.out.mono ?_; rintro e w8 ⟨rfl, b8⟩; have B8 := hid (B7.out.trans (b8.mono B7.out.size)); have q8 := Q7.out.keep b8; have R8 := hid (R4.out.below (B7.out.trans (b8.mono B7.out.size))); have q68 := Q67.out.keep b8; clear b8)
    | (refine Sh.wp_sv smS (x := ⟨t.s, A, k, c4, false, none, 0, 0⟩) rfl (.tmp 10) (.tmp 54) rfl rfl (by rfl) q6 ?_; intro w7 q7 b7 o7 s7; have B7 := hid (B6.out.trans (b7.mono B5.out.size)); have Q7 := hid q7; have Q67 := hid ((q46.out.keep B6.out).other o7 (by have := H6.out; have := B5.out.size; omega)) ; have N7 := hid (now_is (R4.out.below (B6.out.trans (b7.mono B5.out.size))) hv); clear b7 o7 s7 q6 q7)
    | (refine Sh.wp_al smS rfl rfl ?_; intro w6 q6 b6 s6; have B6 := hid (B5.out.trans (b6.mono B5.out.size)); clear b6 s6)
    | (go_at_call 40; refine N5.out.mono ?_; rintro e w5 ⟨rfl, b5⟩; have B5 := hid b5; have H6 := hid q4.lt; have q46 := hid q4; clear b5 q4)
    | (go_at_call 70; refine HN.out.mono ?_; rintro e w4 ⟨m4, r4, A, k, c4, hk8, rfl, hns⟩; have M4 := hid (M3.out.trans m4); have R4 := hid r4; have q4 := V3.out.mov m4 HG.out; have NS4 := hid (hns.mono (P' := fun j => w3.heap.size ≤ j ∧ j < w4.heap.size) fun _ h _ => h); have N5 := hid (now_is R4.out hv); have K8 := hid hk8; clear m4 r4 hns hk8))
  exact bodyPost_ret (results_s1 Tryz.results57 _ rfl q10) rfl ⟨(M4.out.then B9.out (Nat.le_of_lt HG.out)).since B10.out (Nat.le_of_lt HG.out), ⟨many + 1, Went.more (q := [t]) ⟨rest.takeWhile isN, by rw [← hr]; exact (List.takeWhile_append_dropWhile).symm, (R4.out.below B9.out).over B10.out HG.out HGB.out⟩⟩, ⟨by decide, by decide⟩, rfl⟩

set_option maxHeartbeats 1000000 in
set_option maxRecDepth 100000 in
theorem stm_stop {d : Nat} {w : World} {g b c many : Nat} {pre rest : List Tk} {t : Tk} (h : Rd w g b c pre (t :: rest) many) (hm : ¬ many = 2000) {u : Tk} {r2 : List Tk} (hf : fewN rest = true) (hr : restF rest = u :: r2) (hu1 : ¬ u.kind = 1) (hu : u.s = [59]) :
    Calls Tryz.prog 57 #[.pointer (some ⟨g, 0, none⟩), .string (strB t.s), .int .i64 (d : Nat)] w (SmPost (.ok (.cons t.s (numsF rest) false .nil .nil) (many + 1) r2) w g b c pre (t :: rest)) := by
  have HG := hid h.lt
  have hm2 : many ≤ 1999 := by have := h.le2; omega
  have hm3 : many < 2000 := by omega
  have hmf : ((many : Int) == 2000) = false := beq_eq_false_iff_ne.2 (by omega)
  have HGB := hid h.ltb
  have hv := now_s u r2 hu1 (rest_head hr)
  have a1 := as_sw (.string (strB u.s))
  have a2 := as_se (.string (strB u.s))
  have a3 := as_s1 (.string (strB u.s))
  have e1 := sg_eq hu
  clear hu
  have HR := hid h
  clear h
  go_enter Tryz.func57, Tryz.ntmps57
  go_upto_region 4 with (first
    | (refine Sh.wp_al smS rfl rfl ?_; intro w1 v1 b1 s1; have B1 := hid b1; have V1 := hid v1; have R1 := HR.out.below b1; have c2 := R1.c2; have f2 := R1.free (j := 2) (by omega); have HK := hid (fun (z : Int) (hz : z = (many : Int) + 1) => R1.many1 hm3 (z := z) hz); clear R1 b1 v1 s1))
  obtain ⟨R2, M2⟩ := HK.out ((many : Int) + 1) rfl
  have M2 := hid ((Mov.of B1.out (Nat.le_of_lt HG.out)).trans M2)
  have V2 := hid (V1.out.mov (HK.out ((many : Int) + 1) rfl).2 HG.out)
  clear HK c2 f2 V1 B1
  generalize w1.setCell ⟨g, 2, none⟩ (.int .i64 ((many : Int) + 1)) = w2 at *
  have c1 := R2.c1
  have f1 := R2.free (j := 1) (by omega)
  have hkl : (pre.length : Int) ≤ 1000000 := by have := R2.le; omega
  have hk0 : 0 ≤ (pre.length : Int) := by omega
  have HK := hid (show ∀ z : Int, z = (pre.length : Int) + 1 → _ from fun z hz => R2.at1 (z := z) hz)
  clear R2
  generalize (pre.length : Int) = q at *
  go_upto_region 5 with fail
  have H36 := hid V2.out.lt
  obtain ⟨R3, M3⟩ := HK.out (q + 1) rfl
  have H36 := hid (Nat.lt_of_lt_of_le H36.out M3.size)
  have V3 := hid (V2.out.mov M3 HG.out)
  have M3 := hid (M2.out.trans M3)
  have HN := hid (numbers_ok R3 hf hr)
  clear HK c1 f1 V2 M2 R3
  generalize w2.setCell ⟨g, 1, none⟩ (.int .i64 (q + 1)) = w3 at *
  go_upto_region 15 with (first
    | (go_at_call 40; refine N7.out.mono ?_; rintro e w8 ⟨rfl, b8⟩; have B8 := hid (B7.out.trans (b8.mono B7.out.size)); have q8 := Q7.out.keep b8; have R8 := hid (R4.out.below (B7.out.trans (b8.mono B7.out.size))); have q68 := Q67.out.keep b8; clear b8)
    | (refine Sh.wp_sv smS (x := ⟨t.s, A, k, c4, false, none, 0, 0⟩) rfl (.tmp 10) (.tmp 54) rfl rfl (by rfl) q6 ?_; intro w7 q7 b7 o7 s7; have B7 := hid (B6.out.trans (b7.mono B5.out.size)); have Q7 := hid q7; have Q67 := hid ((q46.out.keep B6.out).other o7 (by have := H6.out; have := B5.out.size; omega)) ; have N7 := hid (now_is (R4.out.below (B6.out.trans (b7.mono B5.out.size))) hv); clear b7 o7 s7 q6 q7)
    | (refine Sh.wp_al smS rfl rfl ?_; intro w6 q6 b6 s6; have B6 := hid (B5.out.trans (b6.mono B5.out.size)); clear b6 s6)
    | (go_at_call 40; refine N5.out.mono ?_; rintro e w5 ⟨rfl, b5⟩; have B5 := hid b5; have H6 := hid q4.lt; have q46 := hid q4; clear b5 q4)
    | (go_at_call 70; refine HN.out.mono ?_; rintro e w4 ⟨m4, r4, A, k, c4, hk8, rfl, hns⟩; have M4 := hid (M3.out.trans m4); have R4 := hid r4; have q4 := V3.out.mov m4 HG.out; have NS4 := hid (hns.mono (P' := fun j => w3.heap.size ≤ j ∧ j < w4.heap.size) fun _ h _ => h); have N5 := hid (now_is R4.out hv); have K8 := hid hk8; clear m4 r4 hns hk8))
  have c1 := R8.out.c1
  have f1 := R8.out.free (j := 1) (by omega)
  have hkl : ((pre ++ [t] ++ rest.takeWhile isN).length : Int) ≤ 1000000 := by have := R8.out.le; omega
  have HK := hid (fun (z : Int) (hz : z = ((pre ++ [t] ++ rest.takeWhile isN).length : Int) + 1) => R8.out.at1 (z := z) hz)
  obtain ⟨q2, hq⟩ : ∃ q, (pre ++ [t] ++ rest.takeWhile isN).length = q := ⟨_, rfl⟩
  rw [hq] at c1 hkl
  have HQ := hid hq
  clear hq
  have Q8 := hid (And.intro q8 q68)
  clear q8 q68
  go_upto_region 19 with fail
  obtain ⟨R9, M9⟩ := HK.out ((q2 : Int) + 1) (by rw [HQ.out])
  have hgl : g < w5.heap.size := Nat.lt_of_lt_of_le (Nat.lt_of_lt_of_le HG.out M4.out.size) B5.out.size
  have v9 := Q8.out.1.mov M9 hgl
  have q69 := Q8.out.2.mov M9 HG.out
  have R9 := hid R9
  have M9 := hid M9
  clear HK c1 f1
  generalize w8.setCell ⟨g, 1, none⟩ (.int .i64 ((q2 : Int) + 1)) = w9 at *
  go_wp2_with (first
    | (refine Sh.wp_sv smS (x := ⟨t.s, A, k, c4, false, none, 0, 0⟩) rfl (.tmp 6) (.tmp 84) rfl rfl (by rfl) q69 ?_; intro w10 q10 b10 o10 s10; have B10 := hid b10; have O10 := hid o10; clear b10 o10 s10)
    | (refine Sh.wp_ld smS rfl (.tmp 10) rfl rfl v9.1 ?_))
  refine bodyPost_ret (results_s1 Tryz.results57 _ rfl q10) rfl ⟨((M4.out.then B8.out (Nat.le_of_lt HG.out)).trans M9.out).since B10.out (Nat.le_of_lt HG.out), Went.more (q := [t]) ⟨rest.takeWhile isN ++ [u], by rw [List.append_assoc]; show _ = rest.takeWhile isN ++ u :: r2; rw [← hr]; exact (List.takeWhile_append_dropWhile).symm, by rw [← List.append_assoc]; exact R9.out.over B10.out HG.out HGB.out⟩, ⟨t.s, A, k, c4, false, none, 0, 0⟩, rfl,
    ⟨⟨t.s, A, k, c4, false, none, 0, 0⟩, [], rfl, rfl, rfl, ?_, ⟨[], RwP.nil, rfl⟩, rfl⟩⟩
  have n8 := (NS4.out.keep (fun j _ hj => B8.out.block j hj)).keep (w' := w9) (fun j hj hs => M9.out.up j (Nat.lt_of_lt_of_le (Nat.lt_trans HG.out H36.out) hj.1) hs)
  have n10 := n8.keep (w' := w10) (fun j hj _ => O10.out j (by have := hj.1; have := H36.out; omega))
  exact n10.mono fun j hj hs => ⟨Nat.le_trans (Nat.le_of_lt H36.out) hj.1, hs⟩
end Go.Proofs.YtinjhnflnfpoeaaGreatDoor
