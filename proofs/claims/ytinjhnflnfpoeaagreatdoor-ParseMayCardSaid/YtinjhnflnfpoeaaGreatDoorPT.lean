/-
  The contract of the reader's statement, continued: what follows a word and its numbers is a {; and the whole, given what its list tells.
-/
import Derived.Test.YtinjhnflnfpoeaaGreatDoorPS
namespace Go.Proofs.YtinjhnflnfpoeaaGreatDoor
open Go Go.RowKit Go.Joins

set_option maxHeartbeats 1000000 in
set_option maxRecDepth 100000 in
theorem stm_open_bad {d : Nat} {w : World} {g b c many : Nat} {pre rest : List Tk} {t : Tk} (h : Rd w g b c pre (t :: rest) many) (hm : ¬ many = 2000) {u : Tk} {r2 : List Tk} (hf : fewN rest = true) (hr : restF rest = u :: r2) (hu1 : ¬ u.kind = 1) (hu : u.s = [123]) {n er : Nat} {r3 : List Tk} (hl : ListOk n) (hd : d ≤ 6) (hr2 : r2.length ≤ n) (hx : blkX (lstF n) (d + 1) (many + 1) u r2 = .bad er r3) :
    Calls Tryz.prog 57 #[.pointer (some ⟨g, 0, none⟩), .string (strB t.s), .int .i64 (d : Nat)] w (SmPost (.bad er r3) w g b c pre (t :: rest)) := by
  have HG := hid h.lt
  have hm2 : many ≤ 1999 := by have := h.le2; omega
  have hm3 : many < 2000 := by omega
  have hmf : ((many : Int) == 2000) = false := beq_eq_false_iff_ne.2 (by omega)
  have HGB := hid h.ltb
  have hv := now_s u r2 hu1 (rest_head hr)
  have a1 := as_sw (.string (strB u.s))
  have a2 := as_se (.string (strB u.s))
  have a3 := as_s1 (.string (strB u.s))
  have e1 := sg_ne (l := u.s) (m := [59]) (by rw [hu]; decide)
  have e2 := sg_eq hu
  clear hu
  have HBK := hid (fun w9 (R : Rd w9 g b c (pre ++ [t] ++ rest.takeWhile isN) (u :: r2) (many + 1)) => block_any hl (d := d + 1) (by omega) hr2 R)
  rw [hx, show ((d + 1 : Nat) : Int) = (d : Int) + 1 by omega] at HBK
  have hd6 : (d : Int) ≤ 6 := by omega
  clear hx hl hd hr2
  have HR := hid h
  clear h
  go_enter Tryz.func57, Tryz.ntmps57
  go_upto_region 4 with (first
    | (refine Sh.wp_al smS rfl rfl ?_; intro w1 v1 b1 s1; have B1 := hid b1; have V1 := hid v1; have R1 := HR.out.below b1; have c2 := R1.c2; have f2 := R1.free (j := 2) (by omega); have HK := hid (fun (z : Int) (hz : z = (many : Int) + 1) => R1.many1 hm3 (z := z) hz); clear R1 b1 v1 s1))
  obtain ⟨R2, M2⟩ := HK.out ((many : Int) + 1) rfl
  have M2 := hid ((Mov.of B1.out (Nat.le_of_lt HG.out)).trans M2)
  have V2 := hid (V1.out.mov (HK.out ((many : Int) + 1) rfl).2 HG.out)
  clear HK c2 f2 V1 B1
  generalize w1.setCell ⟨g, 2, none⟩ (.int .i64 ((many : Int) + 1)) = w2 at *
  have c1 := R2.c1
  have f1 := R2.free (j := 1) (by omega)
  have hkl : (pre.length : Int) ≤ 1000000 := by have := R2.le; omega
  have hk0 : 0 ≤ (pre.length : Int) := by omega
  have HK := hid (show ∀ z : Int, z = (pre.length : Int) + 1 → _ from fun z hz => R2.at1 (z := z) hz)
  clear R2
  generalize (pre.length : Int) = q at *
  go_upto_region 5 with fail
  have H36 := hid V2.out.lt
  obtain ⟨R3, M3⟩ := HK.out (q + 1) rfl
  have H36 := hid (Nat.lt_of_lt_of_le H36.out M3.size)
  have V3 := hid (V2.out.mov M3 HG.out)
  have M3 := hid (M2.out.trans M3)
  have HN := hid (numbers_ok R3 hf hr)
  clear HK c1 f1 V2 M2 R3
  generalize w2.setCell ⟨g, 1, none⟩ (.int .i64 (q + 1)) = w3 at *
  go_upto_region 17 with (first
    | (go_at_call 40; refine N7.out.mono ?_; rintro e w8 ⟨rfl, b8⟩; have B8 := hid (B7.out.trans (b8.mono B7.out.size)); have q8 := Q7.out.keep b8; have R8 := hid (R4.out.below (B7.out.trans (b8.mono B7.out.size))); have q68 := Q67.out.keep b8; clear b8)
    | (refine Sh.wp_sv smS (x := ⟨t.s, A, k, c4, false, none, 0, 0⟩) rfl (.tmp 10) (.tmp 54) rfl rfl (by rfl) q6 ?_; intro w7 q7 b7 o7 s7; have B7 := hid (B6.out.trans (b7.mono B5.out.size)); have Q7 := hid q7; have Q67 := hid ((q46.out.keep B6.out).other o7 (by have := H6.out; have := B5.out.size; omega)) ; have N7 := hid (now_is (R4.out.below (B6.out.trans (b7.mono B5.out.size))) hv); clear b7 o7 s7 q6 q7)
    | (refine Sh.wp_al smS rfl rfl ?_; intro w6 q6 b6 s6; have B6 := hid (B5.out.trans (b6.mono B5.out.size)); clear b6 s6)
    | (go_at_call 40; refine N5.out.mono ?_; rintro e w5 ⟨rfl, b5⟩; have B5 := hid b5; have H6 := hid q4.lt; have q46 := hid q4; clear b5 q4)
    | (go_at_call 70; refine HN.out.mono ?_; rintro e w4 ⟨m4, r4, A, k, c4, hk8, rfl, hns⟩; have M4 := hid (M3.out.trans m4); have R4 := hid r4; have q4 := V3.out.mov m4 HG.out; have NS4 := hid (hns.mono (P' := fun j => w3.heap.size ≤ j ∧ j < w4.heap.size) fun _ h _ => h); have N5 := hid (now_is R4.out hv); have K8 := hid hk8; clear m4 r4 hns hk8))
  have hgl : g < w5.heap.size := Nat.lt_of_lt_of_le (Nat.lt_of_lt_of_le HG.out M4.out.size) B5.out.size
  have hbl : b < w5.heap.size := Nat.lt_of_lt_of_le (Nat.lt_of_lt_of_le HGB.out M4.out.size) B5.out.size
  have h45 := hid (And.intro B5.out.size (Nat.lt_of_lt_of_le H6.out B5.out.size))
  have h58 := hid q8.lt
  have c2 := q8.cell (j := 2) rfl
  have f2 := q8.free (j := 2) (by decide)
  have HS := hid (q8.set1 (j := 2) (v := .bool true) (x' := ⟨t.s, A, k, c4, true, none, 0, 0⟩) (by decide) (by
    intro i y hy
    match i, hy with
    | 0, hy => exact hy
    | 1, hy => exact hy
    | 2, hy => exact (Option.some.inj hy).symm
    | 3, hy => exact hy))
  have q68 := hid q68
  clear q8
  have hg5 := hid (And.intro hgl hbl)
  clear hgl hbl
  go_upto_region 18 with fail
  have q9 := HS.out.1
  have R9 := R8.out.over HS.out.2.1 hg5.out.1 hg5.out.2
  have q69 := q68.out.other HS.out.2.2 (by have := h45.out.2; omega)
  have B9 := hid HS.out.2.1
  clear HS c2 f2
  generalize w8.setCell ⟨w5.heap.size, 2, none⟩ (.bool true) = w9 at *
  have HBL := hid (HBK.out w9 R9)
  clear HBK R9
  go_upto_region 19 with (first
    | (go_at_call 72; refine HBL.out.mono ?_; rintro e w10 ⟨m10, h10, h11, rfl⟩; have X10 := hid h11; clear h11; have q10 := q9.mov m10 hg5.out.1; have q610 := hid (q69.mov m10 HG.out); have c3 := q10.cell (j := 3) rfl; have f3 := q10.free (j := 3) (by decide); have Q10 := hid q10; have M10 := hid m10; have W10 := hid h10; clear m10 q10 h10))
  have HS := hid (Q10.out.set1 (j := 3) (v := .slice none 0 0) (x' := ⟨t.s, A, k, c4, true, none, 0, 0⟩) (by decide) (by
    intro i y hy
    match i, hy with
    | 0, hy => exact hy
    | 1, hy => exact hy
    | 2, hy => exact hy
    | 3, hy => exact (Option.some.inj hy).symm))
  clear c3 f3
  have hne : ((er : Int) == 0) = false := beq_eq_false_iff_ne.2 (by have := X10.out.1; omega)
  have q611 := q610.out.other HS.out.2.2 (by have := h45.out.2; omega)
  have q11 := HS.out.1
  have B11 := hid HS.out.2.1
  have O11 := hid HS.out.2.2
  clear HS
  generalize w10.setCell ⟨w5.heap.size, 3, none⟩ (.slice none 0 0) = w11 at *
  go_wp2_with (first
    | (refine Sh.wp_sv smS (x := smZ) rfl (.tmp 6) (.tmp 82) rfl rfl (by rfl) q611 ?_; intro w12 q12 b12 o12 s12; have B12 := hid b12; clear b12 o12 s12))
  have hgw : w.heap.size ≤ w5.heap.size := Nat.le_trans M4.out.size B5.out.size
  have M12 := ((((M4.out.then B8.out (Nat.le_of_lt HG.out)).since (B9.out.mono hgw) (Nat.le_of_lt HG.out)).trans M10.out).since (B11.out.mono hgw) (Nat.le_of_lt HG.out)).since B12.out (Nat.le_of_lt HG.out)
  obtain ⟨m, p, hp, R10⟩ := W10.out
  have W : Went w12 g b c pre (t :: rest) m r3 := Went.more (q := [t]) ⟨rest.takeWhile isN ++ p, by rw [List.append_assoc, ← hp, ← hr]; exact (List.takeWhile_append_dropWhile).symm, by rw [← List.append_assoc]; exact (R10.over (B11.out.mono hgw) HG.out HGB.out).over B12.out HG.out HGB.out⟩
  exact bodyPost_ret (results_s1 Tryz.results57 _ rfl q12) rfl ⟨M12, ⟨m, W⟩, X10.out, rfl⟩

set_option maxHeartbeats 1000000 in
set_option maxRecDepth 100000 in
theorem stm_open_ok {d : Nat} {w : World} {g b c many : Nat} {pre rest : List Tk} {t : Tk} (h : Rd w g b c pre (t :: rest) many) (hm : ¬ many = 2000) {u : Tk} {r2 : List Tk} (hf : fewN rest = true) (hr : restF rest = u :: r2) (hu1 : ¬ u.kind = 1) (hu : u.s = [123]) {n m : Nat} {f : Fo} {r3 : List Tk} (hl : ListOk n) (hd : d ≤ 6) (hr2 : r2.length ≤ n) (hx : blkX (lstF n) (d + 1) (many + 1) u r2 = .ok f m r3) :
    Calls Tryz.prog 57 #[.pointer (some ⟨g, 0, none⟩), .string (strB t.s), .int .i64 (d : Nat)] w (SmPost (.ok (.cons t.s (numsF rest) true f .nil) m r3) w g b c pre (t :: rest)) := by
  have HG := hid h.lt
  have hm2 : many ≤ 1999 := by have := h.le2; omega
  have hm3 : many < 2000 := by omega
  have hmf : ((many : Int) == 2000) = false := beq_eq_false_iff_ne.2 (by omega)
  have HGB := hid h.ltb
  have hv := now_s u r2 hu1 (rest_head hr)
  have a1 := as_sw (.string (strB u.s))
  have a2 := as_se (.string (strB u.s))
  have a3 := as_s1 (.string (strB u.s))
  have e1 := sg_ne (l := u.s) (m := [59]) (by rw [hu]; decide)
  have e2 := sg_eq hu
  clear hu
  have HBK := hid (fun w9 (R : Rd w9 g b c (pre ++ [t] ++ rest.takeWhile isN) (u :: r2) (many + 1)) => block_any hl (d := d + 1) (by omega) hr2 R)
  rw [hx, show ((d + 1 : Nat) : Int) = (d : Int) + 1 by omega] at HBK
  have hd6 : (d : Int) ≤ 6 := by omega
  clear hx hl hd hr2
  have HR := hid h
  clear h
  go_enter Tryz.func57, Tryz.ntmps57
  go_upto_region 4 with (first
    | (refine Sh.wp_al smS rfl rfl ?_; intro w1 v1 b1 s1; have B1 := hid b1; have V1 := hid v1; have R1 := HR.out.below b1; have c2 := R1.c2; have f2 := R1.free (j := 2) (by omega); have HK := hid (fun (z : Int) (hz : z = (many : Int) + 1) => R1.many1 hm3 (z := z) hz); clear R1 b1 v1 s1))
  obtain ⟨R2, M2⟩ := HK.out ((many : Int) + 1) rfl
  have M2 := hid ((Mov.of B1.out (Nat.le_of_lt HG.out)).trans M2)
  have V2 := hid (V1.out.mov (HK.out ((many : Int) + 1) rfl).2 HG.out)
  clear HK c2 f2 V1 B1
  generalize w1.setCell ⟨g, 2, none⟩ (.int .i64 ((many : Int) + 1)) = w2 at *
  have c1 := R2.c1
  have f1 := R2.free (j := 1) (by omega)
  have hkl : (pre.length : Int) ≤ 1000000 := by have := R2.le; omega
  have hk0 : 0 ≤ (pre.length : Int) := by omega
  have HK := hid (show ∀ z : Int, z = (pre.length : Int) + 1 → _ from fun z hz => R2.at1 (z := z) hz)
  clear R2
  generalize (pre.length : Int) = q at *
  go_upto_region 5 with fail
  have H36 := hid V2.out.lt
  obtain ⟨R3, M3⟩ := HK.out (q + 1) rfl
  have H36 := hid (Nat.lt_of_lt_of_le H36.out M3.size)
  have V3 := hid (V2.out.mov M3 HG.out)
  have M3 := hid (M2.out.trans M3)
  have HN := hid (numbers_ok R3 hf hr)
  clear HK c1 f1 V2 M2 R3
  generalize w2.setCell ⟨g, 1, none⟩ (.int .i64 (q + 1)) = w3 at *
  go_upto_region 17 with (first
    | (go_at_call 40; refine N7.out.mono ?_; rintro e w8 ⟨rfl, b8⟩; have B8 := hid (B7.out.trans (b8.mono B7.out.size)); have q8 := Q7.out.keep b8; have R8 := hid (R4.out.below (B7.out.trans (b8.mono B7.out.size))); have q68 := Q67.out.keep b8; clear b8)
    | (refine Sh.wp_sv smS (x := ⟨t.s, A, k, c4, false, none, 0, 0⟩) rfl (.tmp 10) (.tmp 54) rfl rfl (by rfl) q6 ?_; intro w7 q7 b7 o7 s7; have B7 := hid (B6.out.trans (b7.mono B5.out.size)); have Q7 := hid q7; have Q67 := hid ((q46.out.keep B6.out).other o7 (by have := H6.out; have := B5.out.size; omega)) ; have N7 := hid (now_is (R4.out.below (B6.out.trans (b7.mono B5.out.size))) hv); clear b7 o7 s7 q6 q7)
    | (refine Sh.wp_al smS rfl rfl ?_; intro w6 q6 b6 s6; have B6 := hid (B5.out.trans (b6.mono B5.out.size)); clear b6 s6)
    | (go_at_call 40; refine N5.out.mono ?_; rintro e w5 ⟨rfl, b5⟩; have B5 := hid b5; have H6 := hid q4.lt; have q46 := hid q4; clear b5 q4)
    | (go_at_call 70; refine HN.out.mono ?_; rintro e w4 ⟨m4, r4, A, k, c4, hk8, rfl, hns⟩; have M4 := hid (M3.out.trans m4); have R4 := hid r4; have q4 := V3.out.mov m4 HG.out; have NS4 := hid (hns.mono (P' := fun j => w3.heap.size ≤ j ∧ j < w4.heap.size) fun _ h _ => h); have N5 := hid (now_is R4.out hv); have K8 := hid hk8; clear m4 r4 hns hk8))
  have hgl : g < w5.heap.size := Nat.lt_of_lt_of_le (Nat.lt_of_lt_of_le HG.out M4.out.size) B5.out.size
  have hbl : b < w5.heap.size := Nat.lt_of_lt_of_le (Nat.lt_of_lt_of_le HGB.out M4.out.size) B5.out.size
  have h45 := hid (And.intro B5.out.size (Nat.lt_of_lt_of_le H6.out B5.out.size))
  have h58 := hid q8.lt
  have c2 := q8.cell (j := 2) rfl
  have f2 := q8.free (j := 2) (by decide)
  have HS := hid (q8.set1 (j := 2) (v := .bool true) (x' := ⟨t.s, A, k, c4, true, none, 0, 0⟩) (by decide) (by
    intro i y hy
    match i, hy with
    | 0, hy => exact hy
    | 1, hy => exact hy
    | 2, hy => exact (Option.some.inj hy).symm
    | 3, hy => exact hy))
  have q68 := hid q68
  clear q8
  have hg5 := hid (And.intro hgl hbl)
  clear hgl hbl
  go_upto_region 18 with fail
  have q9 := HS.out.1
  have R9 := R8.out.over HS.out.2.1 hg5.out.1 hg5.out.2
  have q69 := q68.out.other HS.out.2.2 (by have := h45.out.2; omega)
  have B9 := hid HS.out.2.1
  clear HS c2 f2
  generalize w8.setCell ⟨w5.heap.size, 2, none⟩ (.bool true) = w9 at *
  have HBL := hid (HBK.out w9 R9)
  clear HBK R9
  go_upto_region 19 with (first
    | (go_at_call 72; refine HBL.out.mono ?_; rintro e w10 ⟨m10, h10, A2, k2, c2, rfl, h11⟩; have X10 := hid h11; clear h11; have q10 := q9.mov m10 hg5.out.1; have q610 := hid (q69.mov m10 HG.out); have c3 := q10.cell (j := 3) rfl; have f3 := q10.free (j := 3) (by decide); have Q10 := hid q10; have M10 := hid m10; have W10 := hid h10; clear m10 q10 h10))
  have HS := hid (Q10.out.set1 (j := 3) (v := .slice A2 k2 c2) (x' := ⟨t.s, A, k, c4, true, A2, k2, c2⟩) (by decide) (by
    intro i y hy
    match i, hy with
    | 0, hy => exact hy
    | 1, hy => exact hy
    | 2, hy => exact hy
    | 3, hy => exact (Option.some.inj hy).symm))
  clear c3 f3
  have q611 := q610.out.other HS.out.2.2 (by have := h45.out.2; omega)
  have q11 := HS.out.1
  have B11 := hid HS.out.2.1
  have O11 := hid HS.out.2.2
  clear HS
  generalize w10.setCell ⟨w5.heap.size, 3, none⟩ (.slice A2 k2 c2) = w11 at *
  go_wp2_with (first
    | (refine Sh.wp_sv smS (x := ⟨t.s, A, k, c4, true, A2, k2, c2⟩) rfl (.tmp 6) (.tmp 84) rfl rfl (by rfl) q611 ?_; intro w12 q12 b12 o12 s12; have B12 := hid b12; have O12 := hid o12; clear b12 o12 s12)
    | (refine Sh.wp_ld smS rfl (.tmp 10) rfl rfl q11.1 ?_))
  have hgw : w.heap.size ≤ w5.heap.size := Nat.le_trans M4.out.size B5.out.size
  have M12 := ((((M4.out.then B8.out (Nat.le_of_lt HG.out)).since (B9.out.mono hgw) (Nat.le_of_lt HG.out)).trans M10.out).since (B11.out.mono hgw) (Nat.le_of_lt HG.out)).since B12.out (Nat.le_of_lt HG.out)
  obtain ⟨p, hp, R10⟩ := W10.out
  have W : Went w12 g b c pre (t :: rest) m r3 := Went.more (q := [t]) ⟨rest.takeWhile isN ++ p, by rw [List.append_assoc, ← hp, ← hr]; exact (List.takeWhile_append_dropWhile).symm, by rw [← List.append_assoc]; exact (R10.over (B11.out.mono hgw) HG.out HGB.out).over B12.out HG.out HGB.out⟩
  have h98 : w8.heap.size ≤ w9.heap.size := B9.out.size
  have h87 : w5.heap.size < w8.heap.size := h58.out
  refine bodyPost_ret (results_s1 Tryz.results57 _ rfl q12) rfl ⟨M12, W, ⟨t.s, A, k, c4, true, A2, k2, c2⟩, rfl,
    ⟨⟨t.s, A, k, c4, true, A2, k2, c2⟩, [], rfl, rfl, rfl, ?_, ?_, rfl⟩⟩
  · have n8 := (NS4.out.keep (fun j _ hj => B8.out.block j hj)).mono (P' := fun j => w3.heap.size ≤ j ∧ j < w4.heap.size) (fun j hj _ => hj)
    have n9 := n8.keep (w' := w9) (fun j hj _ => B9.out.block j (by have := hj.2; have := B5.out.size; omega))
    have n10 := n9.keep (w' := w10) (fun j hj hs => M10.out.up j (Nat.lt_of_lt_of_le (Nat.lt_trans HG.out H36.out) hj.1) hs)
    have n11 := n10.keep (w' := w11) (fun j hj _ => B11.out.block j (by have := hj.2; have := B5.out.size; omega))
    have n12 := n11.keep (w' := w12) (fun j hj _ => O12.out j (by have := hj.1; have := H36.out; omega))
    exact n12.mono fun j hj hs => ⟨Nat.le_trans (Nat.le_of_lt H36.out) hj.1, hs⟩
  · have t11 := X10.out.keep (w' := w11) (fun j hj _ => O11.out j (by have := hj.1; omega))
    have t12 := t11.keep (w' := w12) (fun j hj _ => O12.out j (by have := hj.1; have := h45.out.2; omega))
    exact t12.mono fun j hj hs => ⟨by have := hj.1; omega, hs⟩
end Go.Proofs.YtinjhnflnfpoeaaGreatDoor
