/-
  Contract of check.one: whether a statement may be by itself, given the map of forms.
-/
import Derived.Test.YtpkoboohnbkpoaaGreatDoorJZO
import Derived.Test.YtpkoboohnbkpoaaGreatDoorJZF
namespace Go.Proofs.YtpkoboohnbkpoaaGreatDoor
open Go Go.RowKit Go.Maps

theorem form_few {w : List UInt8} {f : Fm} (h : formF w = some f) : f.nums.length ≤ 4 ∧ f.nodes ≤ f.nums.length ∧ f.nodes ≤ 2 := by
  unfold formF at h
  cases hq : tab.find? (fun p => p.1 == w) with
  | none => rw [hq] at h; cases h
  | some q =>
    rw [hq] at h
    have e : q.2 = f := by simpa using h
    have hm := List.mem_of_find?_eq_some hq
    have key : ∀ p ∈ tab, p.2.nums.length ≤ 4 ∧ p.2.nodes ≤ p.2.nums.length ∧ p.2.nodes ≤ 2 := by decide
    rw [← e]
    exact key q hm
set_option maxHeartbeats 1000000 in
set_option maxRecDepth 100000 in
theorem one_none (B n : Nat) (L : List (List UInt8 × Value)) (x : Sm) (w : World) (hM : Mp w B (esL L) n) (hf : fndL L x.word = none) :
    Calls Tryz.prog 51 #[.map (some B), smV x] w fun e w' => e = .returned (.int .i64 4) ∧ Below w.heap.size w w' := by
  obtain ⟨xw, xA, xn, xc, xb, xB, xm, xk⟩ := x
  simp only at hf ⊢
  have HM := hid hM
  clear hM
  go_enter Tryz.func51, Tryz.ntmps51
  go_wp2_with (first
    | (refine Sv.wp_sv feS (x := feS.z) rfl (.tmp 5) (.tmp 12) rfl rfl (by rfl) q3 ?_; intro w4 q4 b4 o4 s4; have B4 := hid (B3.out.trans (b4.mono B1.out.size)); clear b4 o4 s4)
    | (refine Sv.wp_al feS rfl rfl ?_; intro w3 q3 b3 s3; have B3 := hid (B1.out.trans (b3.mono B1.out.size)); clear b3 s3)
    | (refine wp_lk (r := .tuple #[feS.val feS.z, .bool false]) rfl (.tmp 8) (.tmp 10) rfl Tryz.underlying78 (feS.val feS.z) rfl rfl (HM.out.keep B1.out) (feS.zero _) (by rw [hf]; rfl) ?_)
    | (refine Sh.wp_box smS (x := ⟨xw, xA, xn, xc, xb, xB, xm, xk⟩) rfl (.tmp 1) rfl rfl ?_; intro w1 q1 b1 s1; have c0 : w1.cell? ⟨w.heap.size, 0, none⟩ = some (.string (strB xw)) := q1.cell (j := 0) rfl; have V1 := hid q1; have B1 := hid b1; clear q1 b1 s1))
  go_ret
  exact ⟨rfl, B4.out⟩
set_option maxHeartbeats 2000000 in
set_option maxRecDepth 100000 in
theorem one_ne (B n i g m nodes : Nat) (L : List (List UInt8 × Value)) (wo bl : Bool) (x : Sm) (w : World) (hM : Mp w B (esL L) n) (hf : fndL L x.word = some (i, feS.val ⟨some ⟨g, 0, none⟩, m, m, nodes, wo, bl⟩)) (hne : x.block ≠ bl) :
    Calls Tryz.prog 51 #[.map (some B), smV x] w fun e w' => e = .returned (.int .i64 4) ∧ Below w.heap.size w w' := by
  obtain ⟨xw, xA, xn, xc, xb, xB, xm, xk⟩ := x
  simp only at hf hne ⊢
  have HM := hid hM
  have HFN := hid hf
  clear hM hf
  cases xb <;> cases bl <;> simp only [ne_eq, not_true_eq_false, reduceCtorEq, not_false_eq_true] at hne
  ·
    go_enter Tryz.func51, Tryz.ntmps51
    go_wp2_with (first
          | (refine Sv.wp_sv feS (x := ⟨some ⟨g, 0, none⟩, m, m, nodes, wo, true⟩) rfl (.tmp 5) (.tmp 12) rfl rfl (by rfl) q3 ?_; intro w4 q4 b4 o4 s4; have V4 := hid ((V1.out.keep B13.out).below b4 V1.out.lt); have F4 := hid q4; have B4 := hid (B3.out.trans (b4.mono B1.out.size)); have c2 : w4.cell? ⟨w.heap.size, 2, none⟩ = some (.bool false) := V4.out.cell (j := 2) rfl; have f3 : w4.cell? ⟨w1.heap.size, 3, none⟩ = some (.bool true) := F4.out.cell (j := 3) rfl; clear q4 b4 o4 s4)
          | (refine Sv.wp_al feS rfl rfl ?_; intro w3 q3 b3 s3; have B13 := hid b3; have B3 := hid (B1.out.trans (b3.mono B1.out.size)); clear b3 s3)
          | (refine wp_lk (r := .tuple #[feS.val ⟨some ⟨g, 0, none⟩, m, m, nodes, wo, true⟩, .bool true]) rfl (.tmp 8) (.tmp 10) rfl Tryz.underlying78 (feS.val feS.z) rfl rfl (HM.out.keep B1.out) (feS.zero _) (by rw [HFN.out]; rfl) ?_)
          | (refine Sh.wp_box smS (x := ⟨xw, xA, xn, xc, false, xB, xm, xk⟩) rfl (.tmp 1) rfl rfl ?_; intro w1 q1 b1 s1; have c0 : w1.cell? ⟨w.heap.size, 0, none⟩ = some (.string (strB xw)) := q1.cell (j := 0) rfl; have V1 := hid q1; have B1 := hid b1; clear q1 b1 s1))
    go_ret
    exact ⟨rfl, B4.out⟩
  ·
    go_enter Tryz.func51, Tryz.ntmps51
    go_wp2_with (first
          | (refine Sv.wp_sv feS (x := ⟨some ⟨g, 0, none⟩, m, m, nodes, wo, false⟩) rfl (.tmp 5) (.tmp 12) rfl rfl (by rfl) q3 ?_; intro w4 q4 b4 o4 s4; have V4 := hid ((V1.out.keep B13.out).below b4 V1.out.lt); have F4 := hid q4; have B4 := hid (B3.out.trans (b4.mono B1.out.size)); have c2 : w4.cell? ⟨w.heap.size, 2, none⟩ = some (.bool true) := V4.out.cell (j := 2) rfl; have f3 : w4.cell? ⟨w1.heap.size, 3, none⟩ = some (.bool false) := F4.out.cell (j := 3) rfl; clear q4 b4 o4 s4)
          | (refine Sv.wp_al feS rfl rfl ?_; intro w3 q3 b3 s3; have B13 := hid b3; have B3 := hid (B1.out.trans (b3.mono B1.out.size)); clear b3 s3)
          | (refine wp_lk (r := .tuple #[feS.val ⟨some ⟨g, 0, none⟩, m, m, nodes, wo, false⟩, .bool true]) rfl (.tmp 8) (.tmp 10) rfl Tryz.underlying78 (feS.val feS.z) rfl rfl (HM.out.keep B1.out) (feS.zero _) (by rw [HFN.out]; rfl) ?_)
          | (refine Sh.wp_box smS (x := ⟨xw, xA, xn, xc, true, xB, xm, xk⟩) rfl (.tmp 1) rfl rfl ?_; intro w1 q1 b1 s1; have c0 : w1.cell? ⟨w.heap.size, 0, none⟩ = some (.string (strB xw)) := q1.cell (j := 0) rfl; have V1 := hid q1; have B1 := hid b1; clear q1 b1 s1))
    go_ret
    exact ⟨rfl, B4.out⟩
set_option maxHeartbeats 2000000 in
set_option maxRecDepth 100000 in
theorem one_eq (B n i g nodes : Nat) (L : List (List UInt8 × Value)) (nums : List Nr) (wo : Bool) (x : Sm) (ns : List (Int × Bool)) (w : World) (hM : Mp w B (esL L) n) (hf : fndL L x.word = some (i, feS.val ⟨some ⟨g, 0, none⟩, nums.length, nums.length, nodes, wo, x.block⟩))
    (hm8 : nums.length ≤ 4) (hno : nodes ≤ nums.length) (hg : w.rangeAt g 0 (nrS.flat nums)) (hgl : g < w.heap.size) (hr : nmS.Rw w w.heap.size x.nA x.nn ns) (hn : x.nn ≤ 9223372036854775807) (hcap : x.nn ≤ x.nc) :
    Calls Tryz.prog 51 #[.map (some B), smV x] w fun e w' => e = .returned (.int .i64 (if fitsL nums ns = true then (if Fm.holds ⟨nums, nodes, wo, x.block⟩ ns = true then 0 else 1) else 4)) ∧ Below w.heap.size w w' := by
  have HHO : Hid (fitsL nums ns = true → ∀ w', Below w.heap.size w w' → Calls Tryz.prog 101 #[.agg #[.slice (some ⟨g, 0, none⟩) nums.length nums.length, .int .i64 (nodes : Int), .bool wo, .bool x.block], smV x] w' fun e w2 => e = .returned (.bool (Fm.holds ⟨nums, nodes, wo, x.block⟩ ns)) ∧ Below w'.heap.size w' w2) := hid fun hfi w' hb =>
    fholds_any nums g nums.length nodes wo x.block x ns w' rfl (by omega) (range_keep hg hgl hb) (Nat.lt_of_lt_of_le hgl hb.size) ((hr.below hb).more hb.size) (by rw [← hr.1]; exact ((fitsL_iff nums ns).1 hfi).1) hno hcap
  have HFI := hid (fun w' (hb : Below w.heap.size w w') => ffits_any nums g nums.length nodes wo x.block x ns w' rfl (by omega) (range_keep hg hgl hb) (Nat.lt_of_lt_of_le hgl hb.size) ((hr.below hb).more hb.size) hn)
  obtain ⟨xw, xA, xn, xc, xb, xB, xm, xk⟩ := x
  simp only at hf hcap hn hr HHO HFI ⊢
  have HM := hid hM
  have HFN := hid hf
  clear hM hf hg hgl hr hcap hno hm8
  generalize nums.length = m at *
  generalize fitsL nums ns = FI at *
  generalize Fm.holds ⟨nums, nodes, wo, xb⟩ ns = HO at *
  cases FI with
  | false =>
    clear HHO
    cases xb with
    | true =>
      go_enter Tryz.func51, Tryz.ntmps51
      go_wp2_with (first
            | (go_at_call 100; refine (HFI.out w4 B4.out).mono ?_; rintro e w5 ⟨rfl, b5⟩; have V5 := hid (V4.out.keep b5); have F5 := hid (F4.out.keep b5); have B5 := hid (B4.out.trans (b5.mono B4.out.size)); clear b5)
            | (refine Sv.wp_ld feS rfl (.tmp 5) rfl rfl F4.out.1 ?_)
            | (refine Sh.wp_ld smS rfl (.tmp 3) rfl rfl V4.out.1 ?_)
            | (refine Sv.wp_sv feS (x := ⟨some ⟨g, 0, none⟩, m, m, nodes, wo, true⟩) rfl (.tmp 5) (.tmp 12) rfl rfl (by rfl) q3 ?_; intro w4 q4 b4 o4 s4; have V4 := hid ((V1.out.keep B13.out).below b4 V1.out.lt); have F4 := hid q4; have B4 := hid (B3.out.trans (b4.mono B1.out.size)); have c2 : w4.cell? ⟨w.heap.size, 2, none⟩ = some (.bool true) := V4.out.cell (j := 2) rfl; have f3 : w4.cell? ⟨w1.heap.size, 3, none⟩ = some (.bool true) := F4.out.cell (j := 3) rfl; clear q4 b4 o4 s4)
            | (refine Sv.wp_al feS rfl rfl ?_; intro w3 q3 b3 s3; have B13 := hid b3; have B3 := hid (B1.out.trans (b3.mono B1.out.size)); clear b3 s3)
            | (refine wp_lk (r := .tuple #[feS.val ⟨some ⟨g, 0, none⟩, m, m, nodes, wo, true⟩, .bool true]) rfl (.tmp 8) (.tmp 10) rfl Tryz.underlying78 (feS.val feS.z) rfl rfl (HM.out.keep B1.out) (feS.zero _) (by rw [HFN.out]; rfl) ?_)
            | (refine Sh.wp_box smS (x := ⟨xw, xA, xn, xc, true, xB, xm, xk⟩) rfl (.tmp 1) rfl rfl ?_; intro w1 q1 b1 s1; have c0 : w1.cell? ⟨w.heap.size, 0, none⟩ = some (.string (strB xw)) := q1.cell (j := 0) rfl; have V1 := hid q1; have B1 := hid b1; clear q1 b1 s1))
      go_ret
      exact ⟨rfl, B5.out⟩
    | false =>
      go_enter Tryz.func51, Tryz.ntmps51
      go_wp2_with (first
            | (go_at_call 100; refine (HFI.out w4 B4.out).mono ?_; rintro e w5 ⟨rfl, b5⟩; have V5 := hid (V4.out.keep b5); have F5 := hid (F4.out.keep b5); have B5 := hid (B4.out.trans (b5.mono B4.out.size)); clear b5)
            | (refine Sv.wp_ld feS rfl (.tmp 5) rfl rfl F4.out.1 ?_)
            | (refine Sh.wp_ld smS rfl (.tmp 3) rfl rfl V4.out.1 ?_)
            | (refine Sv.wp_sv feS (x := ⟨some ⟨g, 0, none⟩, m, m, nodes, wo, false⟩) rfl (.tmp 5) (.tmp 12) rfl rfl (by rfl) q3 ?_; intro w4 q4 b4 o4 s4; have V4 := hid ((V1.out.keep B13.out).below b4 V1.out.lt); have F4 := hid q4; have B4 := hid (B3.out.trans (b4.mono B1.out.size)); have c2 : w4.cell? ⟨w.heap.size, 2, none⟩ = some (.bool false) := V4.out.cell (j := 2) rfl; have f3 : w4.cell? ⟨w1.heap.size, 3, none⟩ = some (.bool false) := F4.out.cell (j := 3) rfl; clear q4 b4 o4 s4)
            | (refine Sv.wp_al feS rfl rfl ?_; intro w3 q3 b3 s3; have B13 := hid b3; have B3 := hid (B1.out.trans (b3.mono B1.out.size)); clear b3 s3)
            | (refine wp_lk (r := .tuple #[feS.val ⟨some ⟨g, 0, none⟩, m, m, nodes, wo, false⟩, .bool true]) rfl (.tmp 8) (.tmp 10) rfl Tryz.underlying78 (feS.val feS.z) rfl rfl (HM.out.keep B1.out) (feS.zero _) (by rw [HFN.out]; rfl) ?_)
            | (refine Sh.wp_box smS (x := ⟨xw, xA, xn, xc, false, xB, xm, xk⟩) rfl (.tmp 1) rfl rfl ?_; intro w1 q1 b1 s1; have c0 : w1.cell? ⟨w.heap.size, 0, none⟩ = some (.string (strB xw)) := q1.cell (j := 0) rfl; have V1 := hid q1; have B1 := hid b1; clear q1 b1 s1))
      go_ret
      exact ⟨rfl, B5.out⟩
  | true =>
    have HH2 := hid (HHO.out rfl)
    clear HHO
    cases HO with
    | true =>
      cases xb with
      | true =>
        go_enter Tryz.func51, Tryz.ntmps51
        go_wp2_with (first
              | (go_at_call 101; refine (HH2.out w5 B5.out).mono ?_; rintro e w6 ⟨rfl, b6⟩; have B6 := hid (B5.out.trans (b6.mono B5.out.size)); clear b6)
              | (refine Sv.wp_ld feS rfl (.tmp 5) rfl rfl F5.out.1 ?_)
              | (refine Sh.wp_ld smS rfl (.tmp 3) rfl rfl V5.out.1 ?_)
              | (go_at_call 100; refine (HFI.out w4 B4.out).mono ?_; rintro e w5 ⟨rfl, b5⟩; have V5 := hid (V4.out.keep b5); have F5 := hid (F4.out.keep b5); have B5 := hid (B4.out.trans (b5.mono B4.out.size)); clear b5)
              | (refine Sv.wp_ld feS rfl (.tmp 5) rfl rfl F4.out.1 ?_)
              | (refine Sh.wp_ld smS rfl (.tmp 3) rfl rfl V4.out.1 ?_)
              | (refine Sv.wp_sv feS (x := ⟨some ⟨g, 0, none⟩, m, m, nodes, wo, true⟩) rfl (.tmp 5) (.tmp 12) rfl rfl (by rfl) q3 ?_; intro w4 q4 b4 o4 s4; have V4 := hid ((V1.out.keep B13.out).below b4 V1.out.lt); have F4 := hid q4; have B4 := hid (B3.out.trans (b4.mono B1.out.size)); have c2 : w4.cell? ⟨w.heap.size, 2, none⟩ = some (.bool true) := V4.out.cell (j := 2) rfl; have f3 : w4.cell? ⟨w1.heap.size, 3, none⟩ = some (.bool true) := F4.out.cell (j := 3) rfl; clear q4 b4 o4 s4)
              | (refine Sv.wp_al feS rfl rfl ?_; intro w3 q3 b3 s3; have B13 := hid b3; have B3 := hid (B1.out.trans (b3.mono B1.out.size)); clear b3 s3)
              | (refine wp_lk (r := .tuple #[feS.val ⟨some ⟨g, 0, none⟩, m, m, nodes, wo, true⟩, .bool true]) rfl (.tmp 8) (.tmp 10) rfl Tryz.underlying78 (feS.val feS.z) rfl rfl (HM.out.keep B1.out) (feS.zero _) (by rw [HFN.out]; rfl) ?_)
              | (refine Sh.wp_box smS (x := ⟨xw, xA, xn, xc, true, xB, xm, xk⟩) rfl (.tmp 1) rfl rfl ?_; intro w1 q1 b1 s1; have c0 : w1.cell? ⟨w.heap.size, 0, none⟩ = some (.string (strB xw)) := q1.cell (j := 0) rfl; have V1 := hid q1; have B1 := hid b1; clear q1 b1 s1))
        go_ret
        exact ⟨rfl, B6.out⟩
      | false =>
        go_enter Tryz.func51, Tryz.ntmps51
        go_wp2_with (first
              | (go_at_call 101; refine (HH2.out w5 B5.out).mono ?_; rintro e w6 ⟨rfl, b6⟩; have B6 := hid (B5.out.trans (b6.mono B5.out.size)); clear b6)
              | (refine Sv.wp_ld feS rfl (.tmp 5) rfl rfl F5.out.1 ?_)
              | (refine Sh.wp_ld smS rfl (.tmp 3) rfl rfl V5.out.1 ?_)
              | (go_at_call 100; refine (HFI.out w4 B4.out).mono ?_; rintro e w5 ⟨rfl, b5⟩; have V5 := hid (V4.out.keep b5); have F5 := hid (F4.out.keep b5); have B5 := hid (B4.out.trans (b5.mono B4.out.size)); clear b5)
              | (refine Sv.wp_ld feS rfl (.tmp 5) rfl rfl F4.out.1 ?_)
              | (refine Sh.wp_ld smS rfl (.tmp 3) rfl rfl V4.out.1 ?_)
              | (refine Sv.wp_sv feS (x := ⟨some ⟨g, 0, none⟩, m, m, nodes, wo, false⟩) rfl (.tmp 5) (.tmp 12) rfl rfl (by rfl) q3 ?_; intro w4 q4 b4 o4 s4; have V4 := hid ((V1.out.keep B13.out).below b4 V1.out.lt); have F4 := hid q4; have B4 := hid (B3.out.trans (b4.mono B1.out.size)); have c2 : w4.cell? ⟨w.heap.size, 2, none⟩ = some (.bool false) := V4.out.cell (j := 2) rfl; have f3 : w4.cell? ⟨w1.heap.size, 3, none⟩ = some (.bool false) := F4.out.cell (j := 3) rfl; clear q4 b4 o4 s4)
              | (refine Sv.wp_al feS rfl rfl ?_; intro w3 q3 b3 s3; have B13 := hid b3; have B3 := hid (B1.out.trans (b3.mono B1.out.size)); clear b3 s3)
              | (refine wp_lk (r := .tuple #[feS.val ⟨some ⟨g, 0, none⟩, m, m, nodes, wo, false⟩, .bool true]) rfl (.tmp 8) (.tmp 10) rfl Tryz.underlying78 (feS.val feS.z) rfl rfl (HM.out.keep B1.out) (feS.zero _) (by rw [HFN.out]; rfl) ?_)
              | (refine Sh.wp_box smS (x := ⟨xw, xA, xn, xc, false, xB, xm, xk⟩) rfl (.tmp 1) rfl rfl ?_; intro w1 q1 b1 s1; have c0 : w1.cell? ⟨w.heap.size, 0, none⟩ = some (.string (strB xw)) := q1.cell (j := 0) rfl; have V1 := hid q1; have B1 := hid b1; clear q1 b1 s1))
        go_ret
        exact ⟨rfl, B6.out⟩
    | false =>
      cases xb with
      | true =>
        go_enter Tryz.func51, Tryz.ntmps51
        go_wp2_with (first
              | (go_at_call 101; refine (HH2.out w5 B5.out).mono ?_; rintro e w6 ⟨rfl, b6⟩; have B6 := hid (B5.out.trans (b6.mono B5.out.size)); clear b6)
              | (refine Sv.wp_ld feS rfl (.tmp 5) rfl rfl F5.out.1 ?_)
              | (refine Sh.wp_ld smS rfl (.tmp 3) rfl rfl V5.out.1 ?_)
              | (go_at_call 100; refine (HFI.out w4 B4.out).mono ?_; rintro e w5 ⟨rfl, b5⟩; have V5 := hid (V4.out.keep b5); have F5 := hid (F4.out.keep b5); have B5 := hid (B4.out.trans (b5.mono B4.out.size)); clear b5)
              | (refine Sv.wp_ld feS rfl (.tmp 5) rfl rfl F4.out.1 ?_)
              | (refine Sh.wp_ld smS rfl (.tmp 3) rfl rfl V4.out.1 ?_)
              | (refine Sv.wp_sv feS (x := ⟨some ⟨g, 0, none⟩, m, m, nodes, wo, true⟩) rfl (.tmp 5) (.tmp 12) rfl rfl (by rfl) q3 ?_; intro w4 q4 b4 o4 s4; have V4 := hid ((V1.out.keep B13.out).below b4 V1.out.lt); have F4 := hid q4; have B4 := hid (B3.out.trans (b4.mono B1.out.size)); have c2 : w4.cell? ⟨w.heap.size, 2, none⟩ = some (.bool true) := V4.out.cell (j := 2) rfl; have f3 : w4.cell? ⟨w1.heap.size, 3, none⟩ = some (.bool true) := F4.out.cell (j := 3) rfl; clear q4 b4 o4 s4)
              | (refine Sv.wp_al feS rfl rfl ?_; intro w3 q3 b3 s3; have B13 := hid b3; have B3 := hid (B1.out.trans (b3.mono B1.out.size)); clear b3 s3)
              | (refine wp_lk (r := .tuple #[feS.val ⟨some ⟨g, 0, none⟩, m, m, nodes, wo, true⟩, .bool true]) rfl (.tmp 8) (.tmp 10) rfl Tryz.underlying78 (feS.val feS.z) rfl rfl (HM.out.keep B1.out) (feS.zero _) (by rw [HFN.out]; rfl) ?_)
              | (refine Sh.wp_box smS (x := ⟨xw, xA, xn, xc, true, xB, xm, xk⟩) rfl (.tmp 1) rfl rfl ?_; intro w1 q1 b1 s1; have c0 : w1.cell? ⟨w.heap.size, 0, none⟩ = some (.string (strB xw)) := q1.cell (j := 0) rfl; have V1 := hid q1; have B1 := hid b1; clear q1 b1 s1))
        go_ret
        exact ⟨rfl, B6.out⟩
      | false =>
        go_enter Tryz.func51, Tryz.ntmps51
        go_wp2_with (first
              | (go_at_call 101; refine (HH2.out w5 B5.out).mono ?_; rintro e w6 ⟨rfl, b6⟩; have B6 := hid (B5.out.trans (b6.mono B5.out.size)); clear b6)
              | (refine Sv.wp_ld feS rfl (.tmp 5) rfl rfl F5.out.1 ?_)
              | (refine Sh.wp_ld smS rfl (.tmp 3) rfl rfl V5.out.1 ?_)
              | (go_at_call 100; refine (HFI.out w4 B4.out).mono ?_; rintro e w5 ⟨rfl, b5⟩; have V5 := hid (V4.out.keep b5); have F5 := hid (F4.out.keep b5); have B5 := hid (B4.out.trans (b5.mono B4.out.size)); clear b5)
              | (refine Sv.wp_ld feS rfl (.tmp 5) rfl rfl F4.out.1 ?_)
              | (refine Sh.wp_ld smS rfl (.tmp 3) rfl rfl V4.out.1 ?_)
              | (refine Sv.wp_sv feS (x := ⟨some ⟨g, 0, none⟩, m, m, nodes, wo, false⟩) rfl (.tmp 5) (.tmp 12) rfl rfl (by rfl) q3 ?_; intro w4 q4 b4 o4 s4; have V4 := hid ((V1.out.keep B13.out).below b4 V1.out.lt); have F4 := hid q4; have B4 := hid (B3.out.trans (b4.mono B1.out.size)); have c2 : w4.cell? ⟨w.heap.size, 2, none⟩ = some (.bool false) := V4.out.cell (j := 2) rfl; have f3 : w4.cell? ⟨w1.heap.size, 3, none⟩ = some (.bool false) := F4.out.cell (j := 3) rfl; clear q4 b4 o4 s4)
              | (refine Sv.wp_al feS rfl rfl ?_; intro w3 q3 b3 s3; have B13 := hid b3; have B3 := hid (B1.out.trans (b3.mono B1.out.size)); clear b3 s3)
              | (refine wp_lk (r := .tuple #[feS.val ⟨some ⟨g, 0, none⟩, m, m, nodes, wo, false⟩, .bool true]) rfl (.tmp 8) (.tmp 10) rfl Tryz.underlying78 (feS.val feS.z) rfl rfl (HM.out.keep B1.out) (feS.zero _) (by rw [HFN.out]; rfl) ?_)
              | (refine Sh.wp_box smS (x := ⟨xw, xA, xn, xc, false, xB, xm, xk⟩) rfl (.tmp 1) rfl rfl ?_; intro w1 q1 b1 s1; have c0 : w1.cell? ⟨w.heap.size, 0, none⟩ = some (.string (strB xw)) := q1.cell (j := 0) rfl; have V1 := hid q1; have B1 := hid b1; clear q1 b1 s1))
        go_ret
        exact ⟨rfl, B6.out⟩
theorem one_any (B base : Nat) (x : Sm) (ns : List (Int × Bool)) (w : World) (hF : Fms w B base) (hr : nmS.Rw w w.heap.size x.nA x.nn ns) (hn : x.nn ≤ 9223372036854775807) (hcap : x.nn ≤ x.nc) :
    Calls Tryz.prog 51 #[.map (some B), smV x] w fun e w' => e = .returned (.int .i64 (oneE ⟨x.word, ns, x.block⟩ : Nat)) ∧ Below w.heap.size w w' := by
  cases hv : formF x.word with
  | none =>
    obtain ⟨L, n, h1, h2⟩ := hF.none hv
    have e : oneE ⟨x.word, ns, x.block⟩ = 4 := by unfold oneE; simp only; rw [hv]
    rw [e]
    exact one_none B n L x w h1 h2
  | some f =>
    obtain ⟨L, n, g, i, h1, h2, _, h4, h5⟩ := hF.some hv
    obtain ⟨nums, nodes, wo, bl⟩ := f
    obtain ⟨k1, k2, _⟩ := form_few hv
    by_cases hb : x.block = bl
    · subst hb
      refine (one_eq B n i g nodes L nums wo x ns w h1 h2 k1 k2 h5 h4 hr hn hcap).mono fun e w' ⟨he, hw⟩ => ⟨?_, hw⟩
      rw [he]
      unfold oneE
      simp only
      rw [hv]
      simp only [bne_self_eq_false, Bool.false_or, Bool.not_eq_true']
      cases fitsL nums ns <;> cases Fm.holds ⟨nums, nodes, wo, x.block⟩ ns <;> rfl
    · have e : oneE ⟨x.word, ns, x.block⟩ = 4 := by
        unfold oneE; simp only; rw [hv]; simp only
        rw [if_pos]
        simp [hb]
      rw [e]
      exact one_ne B n i g nums.length nodes L wo bl x w h1 h2 hb
theorem One_any (x : Sm) (ns : List (Int × Bool)) (w : World) (hC : LaidC w) (hr : nmS.Rw w w.heap.size x.nA x.nn ns) (hn : x.nn ≤ 9223372036854775807) (hcap : x.nn ≤ x.nc) :
    Calls Tryz.prog 23 #[smV x] w fun e w' => e = .returned (.int .i64 (oneE ⟨x.word, ns, x.block⟩ : Nat)) ∧ Below w.heap.size w w' := by
  have HO := hid (fun w' (hb : Below w.heap.size w w') B base (hF : Fms w' B base) => one_any B base x ns w' hF ((hr.below hb).more hb.size) hn hcap)
  have HFO := hid (fun w' (hb : Below w.heap.size w w') => forms_any w' (hC.below hb))
  obtain ⟨xw, xA, xn, xc, xb, xB, xm, xk⟩ := x
  clear hr hC
  simp only at hn hcap HO ⊢
  go_enter Tryz.func23, Tryz.ntmps23
  go_upto_region 1 with (first
    | (refine Sh.wp_box smS (x := ⟨xw, xA, xn, xc, xb, xB, xm, xk⟩) rfl (.tmp 0) rfl rfl ?_; intro w1 q1 b1 s1; have V1 := hid q1.drew; have B1 := hid b1.drew; clear q1 b1 s1))
  have c0 : w1.drew.cell? ⟨w.heap.size, 0, none⟩ = some (.string (strB xw)) := V1.out.cell (j := 0) rfl
  have c1 : w1.drew.cell? ⟨w.heap.size, 1, none⟩ = some (.slice xA xn xc) := V1.out.cell (j := 1) rfl
  have c2 : w1.drew.cell? ⟨w.heap.size, 2, none⟩ = some (.bool xb) := V1.out.cell (j := 2) rfl
  have c3 : w1.drew.cell? ⟨w.heap.size, 3, none⟩ = some (.slice xB xm xk) := V1.out.cell (j := 3) rfl
  go_region_with (first
    | (go_at_call 51; refine (HO.out w3 F3.out.2 _ _ F3.out.1).mono ?_; rintro e w4 ⟨rfl, b4⟩; have B4 := hid (F3.out.2.trans (b4.mono F3.out.2.size)); clear b4)
    | (go_at_call 52; refine (HFO.out w1.drew B1.out).mono ?_; rintro e w3 ⟨B, rfl, f3, b3⟩; have V3 := hid (V1.out.keep b3); have c0 : w3.cell? ⟨w.heap.size, 0, none⟩ = some (.string (strB xw)) := V3.out.cell (j := 0) rfl; have c1 : w3.cell? ⟨w.heap.size, 1, none⟩ = some (.slice xA xn xc) := V3.out.cell (j := 1) rfl; have c2 : w3.cell? ⟨w.heap.size, 2, none⟩ = some (.bool xb) := V3.out.cell (j := 2) rfl; have c3 : w3.cell? ⟨w.heap.size, 3, none⟩ = some (.slice xB xm xk) := V3.out.cell (j := 3) rfl; have F3 := hid (And.intro f3 (B1.out.trans (b3.mono B1.out.size))); clear f3 b3))
  all_goals
    go_wp2_with fail
    go_ret
    exact ⟨rfl, B4.out⟩
end Go.Proofs.YtpkoboohnbkpoaaGreatDoor
