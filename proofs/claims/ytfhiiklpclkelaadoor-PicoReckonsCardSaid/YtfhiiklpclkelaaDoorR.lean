/-
  The walk of the document's own Scale (palletref01.Scale): at three times, the last at least 1, it answers the quotient, down, and the rest, or that they go over; no other condition.
-/
import Derived.Test.YtfhiiklpclkelaaDoorQ
import Derived.Test.YtfhiiklpclkelaaDoorS
namespace Go.Proofs.YtfhiiklpclkelaaDoor
open Go Go.RowKit

def Rel1 (A B : Nat) (vh vl vi : Value) : Prop := ∃ h l : Nat, vh = .int .u64 (h : Int) ∧ vl = .int .u64 (l : Int) ∧ ((∃ j : Nat, j ≤ 63 ∧ vi = .int .i64 (j : Int) ∧ Inv1 A B (j + 1) h l) ∨ (vi = .int .i64 (-1) ∧ Inv1 A B 0 h l))
theorem rel1_mk {A B h l j : Nat} {vh vl : Value} (e1 : vh = .int .u64 (h : Int)) (e2 : vl = .int .u64 (l : Int)) (hj : j ≤ 64) (i : Inv1 A B j h l) : Rel1 A B vh vl (.int .i64 ((j : Int) - 1)) := by
  refine ⟨h, l, e1, e2, ?_⟩
  match j, hj, i with
  | 0, _, i => exact .inr ⟨by simp, i⟩
  | k + 1, hk, i => exact .inl ⟨k, by omega, by simp, i⟩
def Rel2 (P d : Nat) (vq vr vi : Value) : Prop := ∃ q r : Nat, vq = .int .u64 (q : Int) ∧ vr = .int .u64 (r : Int) ∧ q ≤ 2305843009213693953 ∧ ((∃ j : Nat, j ≤ 127 ∧ vi = .int .i64 (j : Int) ∧ Inv2 P d (j + 1) q r) ∨ (vi = .int .i64 (-1) ∧ Inv2 P d 0 q r))
theorem rel2_mk {P d q r j : Nat} {vq vr : Value} (e1 : vq = .int .u64 (q : Int)) (e2 : vr = .int .u64 (r : Int)) (hq : q ≤ 2305843009213693953) (hj : j ≤ 128) (i : Inv2 P d j q r) : Rel2 P d vq vr (.int .i64 ((j : Int) - 1)) := by
  refine ⟨q, r, e1, e2, hq, ?_⟩
  match j, hj, i with
  | 0, _, i => exact .inr ⟨by simp, i⟩
  | k + 1, hk, i => exact .inl ⟨k, by omega, by simp, i⟩

theorem and_bit (x m : Nat) (hx : x < 18446744073709551616) : bits .and .u64 ((x : Int) / 2 ^ m) 1 = ((x / 2 ^ m % 2 : Nat) : Int) := by
  rw [cast_shr]
  have h := bits_and_u64_nat (x / 2 ^ m) 1 (Nat.lt_of_le_of_lt (Nat.div_le_self _ _) hx) (by decide)
  rw [nat_mask1] at h
  exact h
theorem or_bit (r b : Nat) (hr : r < 9223372036854775808) (hb : b < 2) : bits .or .u64 ((r : Int) * 2) (b : Int) = ((2 * r + b : Nat) : Int) := by
  have e1 : ((r : Int) * 2) = ((r * 2 : Nat) : Int) := by rw [Int.natCast_mul]; rfl
  rw [e1, bits_or_u64_nat _ _ (by omega) (by omega), nat_join 1 _ _ (by omega) (by omega)]
  omega

set_option maxRecDepth 100000 in
set_option maxHeartbeats 1000000 in
theorem rscale_same (a b : Int) (d : Nat) (w : World) (ha1 : -1152921504606846976 ≤ a) (ha2 : a ≤ 1152921504606846976) (hb1 : -1152921504606846976 ≤ b) (hb2 : b ≤ 1152921504606846976) (hd1 : 1 ≤ d) (hd2 : d ≤ 1152921504606846976) (hs : (a < 0 ↔ b < 0)) (hN : a.natAbs * b.natAbs / d ≤ 1152921504606846976) :
    Calls Tryd.prog 17 #[.int .i64 a, .int .i64 b, .int .i64 d] w fun e w' => e = .returned (.tuple #[.int .i64 ((a.natAbs * b.natAbs / d : Nat) : Int), .int .i64 ((a.natAbs * b.natAbs % d : Nat) : Int), .int .i64 0]) ∧ Below w.heap.size w w' := by
  have hd3 : decide ((d : Int) < 1) = false := by simp; omega
  have hA : a.natAbs ≤ 1152921504606846976 := by omega
  have hB : b.natAbs ≤ 1152921504606846976 := by omega
  have HN := hid hN
  clear hN
  go_enter Tryd.func17, Tryd.ntmps17
  go_wp2_with fail
  refine (rmay_3 _ _ a b d true (by rw [timeB_yes ha1 ha2, timeB_yes hb1 hb2, timeB_yes (by omega) (by omega)]; rfl) _ (by simp) (by simp) (by simp)).mono ?_
  rintro e w' ⟨rfl, rfl⟩
  go_wp2_with fail
  go_loop [9, 10, 11] (fun vh vl vi => Rel1 a.natAbs b.natAbs vh vl vi) (fun _ _ vi => ((intOf vi) + 1).toNat)
  case atStart => exact rel1_mk (h := 0) (l := 0) (j := 64) rfl rfl (by omega) (inv1_start _ _ hB)
  case round =>
    obtain ⟨h, l, rfl, rfl, hj⟩ := hrel
    rcases hj with ⟨j, hj, rfl, hI⟩ | ⟨rfl, hI⟩
    · have HI := hid hI
      have hl : l < 18446744073709551616 := hI.2
      have hh0 := inv1_top hA hB hI
      have hh : h < 9223372036854775808 := by omega
      clear hI
      go_wp2_with fail
      refine (twice_any h l _ hh hl).mono ?_
      rintro e w' ⟨rfl, rfl⟩
      have hhb : 2 * h + l / 9223372036854775808 < 9223372036854775808 := by omega
      have hlb : 2 * l % 18446744073709551616 < 18446744073709551616 := Nat.mod_lt _ (by decide)
      generalize hh2 : 2 * h + l / 9223372036854775808 = h2 at *
      generalize hl2 : 2 * l % 18446744073709551616 = l2 at *
      have HH2 := hid hh2
      have HL2 := hid hl2
      clear hh2 hl2
      go_wp2_with fail
      refine (rsize_any b _ hb1 hb2).mono ?_
      rintro e w' ⟨rfl, rfl⟩
      have hbit := and_bit b.natAbs j (by omega)
      rcases Nat.mod_two_eq_zero_or_one (b.natAbs / 2 ^ j) with hz | hz
      · rw [hz] at hbit
        have HZ := hid hz
        clear hz
        have hbit' : (bits .and .u64 ((b.natAbs : Int) / 2 ^ j) 1 == 1) = false := by rw [hbit]; decide
        clear hbit
        go_wp2_with fail
        exact ⟨rel1_mk (h := h2) (l := l2) (j := j) rfl rfl (by omega) (by rw [← HH2.out, ← HL2.out]; exact inv1_zero HI.out HZ.out), by simp [intOf] <;> omega⟩
      · rw [hz] at hbit
        have HZ := hid hz
        clear hz
        have hbit' : (bits .and .u64 ((b.natAbs : Int) / 2 ^ j) 1 == 1) = true := by rw [hbit]; decide
        clear hbit
        go_wp2_with fail
        refine (rsize_any a _ ha1 ha2).mono ?_
        rintro e w' ⟨rfl, rfl⟩
        by_cases hc : l2 + a.natAbs < 18446744073709551616
        · have hw1 : IntKind.u64.wrap ((l2 : Int) + (a.natAbs : Nat)) = ((l2 + a.natAbs : Nat) : Int) := by rw [IntKind.wrap_u64]; omega
          have hlt : ¬ l2 + a.natAbs < l2 := by omega
          have HW := hid hw1
          go_wp2_with fail
          exact ⟨rel1_mk (h := h2) (l := l2 + a.natAbs) (j := j) rfl (by simp) (by omega) (inv1_one HI.out HZ.out HH2.out HL2.out hc), by simp [intOf] <;> omega⟩
        · have hm : l2 + a.natAbs - 18446744073709551616 < l2 := by omega
          have hw1 : IntKind.u64.wrap ((l2 : Int) + (a.natAbs : Nat)) = ((l2 + a.natAbs - 18446744073709551616 : Nat) : Int) := by rw [IntKind.wrap_u64]; omega
          have hIc := hid (inv1_carry HI.out HZ.out HH2.out HL2.out hA (by omega))
          generalize l2 + a.natAbs - 18446744073709551616 = m at *
          clear hc
          go_wp2_with fail
          exact ⟨rel1_mk (h := h2 + 1) (l := m) (j := j) (by simp) (by simp) (by omega) hIc.out, by simp [intOf] <;> omega⟩
    · have hl : l < 18446744073709551616 := hI.2
      have hh0 := inv1_top hA hB hI
      have hP : h * 18446744073709551616 + l = a.natAbs * b.natAbs := by have := hI.1; rwa [Nat.pow_zero, Nat.div_one] at this
      have HP := hid hP
      clear hI hP
      have hPb : h * 18446744073709551616 + l < 2 ^ 128 := by omega
      have HPB := hid hPb
      clear hPb
      have HNN := HN.out
      rw [← HP.out] at HNN
      have HM := hid HNN
      clear HNN
      go_wp2_with fail
      go_loop [13, 14, 15] (fun vq vr vi => Rel2 (h * 18446744073709551616 + l) d vq vr vi) (fun _ _ vi => ((intOf vi) + 1).toNat)
      case atStart => exact rel2_mk (q := 0) (r := 0) (j := 128) rfl rfl (by omega) (by omega) (inv2_start _ _ HPB.out)
      case round =>
        obtain ⟨q, r, rfl, rfl, hqb, hj⟩ := hrel
        rcases hj with ⟨j, hj, rfl, hI⟩ | ⟨rfl, hI⟩
        · have HI := hid hI
          have hrd := inv2_rest hd1 hI
          clear hI
          have hb1' : (h * 18446744073709551616 + l) / 2 ^ j % 2 < 2 := Nat.mod_lt _ (by decide)
          have HBL : Hid (j < 64 → bits .and .u64 ((l : Int) / 2 ^ (j % 64)) 1 = (((h * 18446744073709551616 + l) / 2 ^ j % 2 : Nat) : Int)) := hid (fun hj => by rw [← bit_low h l j hj]; exact and_bit l _ hl)
          have HBH : Hid (64 ≤ j → bits .and .u64 ((h : Int) / 2 ^ (j % 64)) 1 = (((h * 18446744073709551616 + l) / 2 ^ j % 2 : Nat) : Int)) := hid (fun h1 => by rw [← bit_high h l j hl h1 (by omega)]; exact and_bit h _ (by omega))
          have HBX : Hid (∀ bb, bb = (h * 18446744073709551616 + l) / 2 ^ j % 2 → bb = (h * 18446744073709551616 + l) / 2 ^ j % 2) := hid (fun _ h => h)
          generalize hbb : (h * 18446744073709551616 + l) / 2 ^ j % 2 = bb at *
          have HBB := hid hbb
          clear hbb HBX
          have hor := or_bit r bb (by omega) hb1'
          have hr2 : 2 * r + bb < 2 * d + 2 := by omega
          generalize hrr : 2 * r + bb = r2 at *
          have HRR := hid hrr
          clear hrr
          by_cases hqt : 1152921504606846976 < q
          · exact absurd (inv2_over HI.out) (by have := HM.out; omega)
          · by_cases hj64 : j < 64
            · have hbl := HBL.out hj64
              have hj64' : ¬ 64 ≤ j := by omega
              have hjm : j % 64 = j := Nat.mod_eq_of_lt hj64
              rw [hjm] at hbl
              clear hj64
              by_cases hg : d ≤ r2
              · go_wp2_with fail
                exact ⟨rel2_mk (q := 2 * q + 1) (r := r2 - d) (j := j) (by simp; omega) (by simp; omega) (by omega) (by omega) (by rw [← HRR.out]; exact inv2_high hd1 HI.out HBB.out.symm (by rw [HRR.out]; exact hg)), by simp [intOf] <;> omega⟩
              · go_wp2_with fail
                exact ⟨rel2_mk (q := 2 * q) (r := r2) (j := j) (by simp; omega) (by simp) (by omega) (by omega) (by rw [← HRR.out]; exact inv2_low hd1 HI.out HBB.out.symm (by rw [HRR.out]; omega)), by simp [intOf] <;> omega⟩
            · have hbh := HBH.out (by omega)
              have hj64' : 64 ≤ j := by omega
              clear hj64
              by_cases hg : d ≤ r2
              · go_wp2_with fail
                exact ⟨rel2_mk (q := 2 * q + 1) (r := r2 - d) (j := j) (by simp; omega) (by simp; omega) (by omega) (by omega) (by rw [← HRR.out]; exact inv2_high hd1 HI.out HBB.out.symm (by rw [HRR.out]; exact hg)), by simp [intOf] <;> omega⟩
              · go_wp2_with fail
                exact ⟨rel2_mk (q := 2 * q) (r := r2) (j := j) (by simp; omega) (by simp) (by omega) (by omega) (by rw [← HRR.out]; exact inv2_low hd1 HI.out HBB.out.symm (by rw [HRR.out]; omega)), by simp [intOf] <;> omega⟩
        · obtain ⟨hq, hr⟩ := inv2_end hI
          have hM := HM.out
          rw [← hq] at hM
          have hrd : r < d := by rw [hr]; exact Nat.mod_lt _ hd1
          rw [HP.out] at hq hr
          have HQ := hid hq
          have HR := hid hr
          clear hq hr hI
          have hsb : (decide (a < 0) == decide (b < 0)) = true := by rw [beq_iff_eq, decide_eq_decide]; exact hs
          clear hs
          go_wp2_with fail
          refine (rmay_1 _ _ (q : Int) true (timeB_yes (by omega) (by omega)) _ (by simp)).mono ?_
          rintro e w1 ⟨rfl, rfl⟩
          go_wp2
          go_ret3
          exact ⟨ret_three (by rw [HQ.out]) (by rw [HR.out]) rfl, ((Below.refl _ _).alloc (Nat.le_refl _) _).alloc (by simp) _⟩

set_option maxRecDepth 100000 in
set_option maxHeartbeats 1000000 in
theorem rscale_same_over (a b : Int) (d : Nat) (w : World) (ha1 : -1152921504606846976 ≤ a) (ha2 : a ≤ 1152921504606846976) (hb1 : -1152921504606846976 ≤ b) (hb2 : b ≤ 1152921504606846976) (hd1 : 1 ≤ d) (hd2 : d ≤ 1152921504606846976) (hs : (a < 0 ↔ b < 0)) (hN : 1152921504606846976 < a.natAbs * b.natAbs / d) :
    Calls Tryd.prog 17 #[.int .i64 a, .int .i64 b, .int .i64 d] w fun e w' => e = .returned (.tuple #[.int .i64 0, .int .i64 0, .int .i64 2]) ∧ Below w.heap.size w w' := by
  have hd3 : decide ((d : Int) < 1) = false := by simp; omega
  have hA : a.natAbs ≤ 1152921504606846976 := by omega
  have hB : b.natAbs ≤ 1152921504606846976 := by omega
  have HN := hid hN
  clear hN
  go_enter Tryd.func17, Tryd.ntmps17
  go_wp2_with fail
  refine (rmay_3 _ _ a b d true (by rw [timeB_yes ha1 ha2, timeB_yes hb1 hb2, timeB_yes (by omega) (by omega)]; rfl) _ (by simp) (by simp) (by simp)).mono ?_
  rintro e w' ⟨rfl, rfl⟩
  go_wp2_with fail
  go_loop [9, 10, 11] (fun vh vl vi => Rel1 a.natAbs b.natAbs vh vl vi) (fun _ _ vi => ((intOf vi) + 1).toNat)
  case atStart => exact rel1_mk (h := 0) (l := 0) (j := 64) rfl rfl (by omega) (inv1_start _ _ hB)
  case round =>
    obtain ⟨h, l, rfl, rfl, hj⟩ := hrel
    rcases hj with ⟨j, hj, rfl, hI⟩ | ⟨rfl, hI⟩
    · have HI := hid hI
      have hl : l < 18446744073709551616 := hI.2
      have hh0 := inv1_top hA hB hI
      have hh : h < 9223372036854775808 := by omega
      clear hI
      go_wp2_with fail
      refine (twice_any h l _ hh hl).mono ?_
      rintro e w' ⟨rfl, rfl⟩
      have hhb : 2 * h + l / 9223372036854775808 < 9223372036854775808 := by omega
      have hlb : 2 * l % 18446744073709551616 < 18446744073709551616 := Nat.mod_lt _ (by decide)
      generalize hh2 : 2 * h + l / 9223372036854775808 = h2 at *
      generalize hl2 : 2 * l % 18446744073709551616 = l2 at *
      have HH2 := hid hh2
      have HL2 := hid hl2
      clear hh2 hl2
      go_wp2_with fail
      refine (rsize_any b _ hb1 hb2).mono ?_
      rintro e w' ⟨rfl, rfl⟩
      have hbit := and_bit b.natAbs j (by omega)
      rcases Nat.mod_two_eq_zero_or_one (b.natAbs / 2 ^ j) with hz | hz
      · rw [hz] at hbit
        have HZ := hid hz
        clear hz
        have hbit' : (bits .and .u64 ((b.natAbs : Int) / 2 ^ j) 1 == 1) = false := by rw [hbit]; decide
        clear hbit
        go_wp2_with fail
        exact ⟨rel1_mk (h := h2) (l := l2) (j := j) rfl rfl (by omega) (by rw [← HH2.out, ← HL2.out]; exact inv1_zero HI.out HZ.out), by simp [intOf] <;> omega⟩
      · rw [hz] at hbit
        have HZ := hid hz
        clear hz
        have hbit' : (bits .and .u64 ((b.natAbs : Int) / 2 ^ j) 1 == 1) = true := by rw [hbit]; decide
        clear hbit
        go_wp2_with fail
        refine (rsize_any a _ ha1 ha2).mono ?_
        rintro e w' ⟨rfl, rfl⟩
        by_cases hc : l2 + a.natAbs < 18446744073709551616
        · have hw1 : IntKind.u64.wrap ((l2 : Int) + (a.natAbs : Nat)) = ((l2 + a.natAbs : Nat) : Int) := by rw [IntKind.wrap_u64]; omega
          have hlt : ¬ l2 + a.natAbs < l2 := by omega
          have HW := hid hw1
          go_wp2_with fail
          exact ⟨rel1_mk (h := h2) (l := l2 + a.natAbs) (j := j) rfl (by simp) (by omega) (inv1_one HI.out HZ.out HH2.out HL2.out hc), by simp [intOf] <;> omega⟩
        · have hm : l2 + a.natAbs - 18446744073709551616 < l2 := by omega
          have hw1 : IntKind.u64.wrap ((l2 : Int) + (a.natAbs : Nat)) = ((l2 + a.natAbs - 18446744073709551616 : Nat) : Int) := by rw [IntKind.wrap_u64]; omega
          have hIc := hid (inv1_carry HI.out HZ.out HH2.out HL2.out hA (by omega))
          generalize l2 + a.natAbs - 18446744073709551616 = m at *
          clear hc
          go_wp2_with fail
          exact ⟨rel1_mk (h := h2 + 1) (l := m) (j := j) (by simp) (by simp) (by omega) hIc.out, by simp [intOf] <;> omega⟩
    · have hl : l < 18446744073709551616 := hI.2
      have hh0 := inv1_top hA hB hI
      have hP : h * 18446744073709551616 + l = a.natAbs * b.natAbs := by have := hI.1; rwa [Nat.pow_zero, Nat.div_one] at this
      have HP := hid hP
      clear hI hP
      have hPb : h * 18446744073709551616 + l < 2 ^ 128 := by omega
      have HPB := hid hPb
      clear hPb
      have HNN := HN.out
      rw [← HP.out] at HNN
      have HM := hid HNN
      clear HNN
      go_wp2_with fail
      go_loop [13, 14, 15] (fun vq vr vi => Rel2 (h * 18446744073709551616 + l) d vq vr vi) (fun _ _ vi => ((intOf vi) + 1).toNat)
      case atStart => exact rel2_mk (q := 0) (r := 0) (j := 128) rfl rfl (by omega) (by omega) (inv2_start _ _ HPB.out)
      case round =>
        obtain ⟨q, r, rfl, rfl, hqb, hj⟩ := hrel
        rcases hj with ⟨j, hj, rfl, hI⟩ | ⟨rfl, hI⟩
        · have HI := hid hI
          have hrd := inv2_rest hd1 hI
          clear hI
          have hb1' : (h * 18446744073709551616 + l) / 2 ^ j % 2 < 2 := Nat.mod_lt _ (by decide)
          have HBL : Hid (j < 64 → bits .and .u64 ((l : Int) / 2 ^ (j % 64)) 1 = (((h * 18446744073709551616 + l) / 2 ^ j % 2 : Nat) : Int)) := hid (fun hj => by rw [← bit_low h l j hj]; exact and_bit l _ hl)
          have HBH : Hid (64 ≤ j → bits .and .u64 ((h : Int) / 2 ^ (j % 64)) 1 = (((h * 18446744073709551616 + l) / 2 ^ j % 2 : Nat) : Int)) := hid (fun h1 => by rw [← bit_high h l j hl h1 (by omega)]; exact and_bit h _ (by omega))
          have HBX : Hid (∀ bb, bb = (h * 18446744073709551616 + l) / 2 ^ j % 2 → bb = (h * 18446744073709551616 + l) / 2 ^ j % 2) := hid (fun _ h => h)
          generalize hbb : (h * 18446744073709551616 + l) / 2 ^ j % 2 = bb at *
          have HBB := hid hbb
          clear hbb HBX
          have hor := or_bit r bb (by omega) hb1'
          have hr2 : 2 * r + bb < 2 * d + 2 := by omega
          generalize hrr : 2 * r + bb = r2 at *
          have HRR := hid hrr
          clear hrr
          by_cases hqt : 1152921504606846976 < q
          · by_cases hj64 : j < 64
            · have hbl := HBL.out hj64
              have hj64' : ¬ 64 ≤ j := by omega
              have hjm : j % 64 = j := Nat.mod_eq_of_lt hj64
              rw [hjm] at hbl
              clear hj64
              go_wp2
              go_ret3
              exact ⟨rfl, (Below.refl _ _).alloc (Nat.le_refl _) _⟩
            · have hbh := HBH.out (by omega)
              have hj64' : 64 ≤ j := by omega
              clear hj64
              go_wp2
              go_ret3
              exact ⟨rfl, (Below.refl _ _).alloc (Nat.le_refl _) _⟩
          · by_cases hj64 : j < 64
            · have hbl := HBL.out hj64
              have hj64' : ¬ 64 ≤ j := by omega
              have hjm : j % 64 = j := Nat.mod_eq_of_lt hj64
              rw [hjm] at hbl
              clear hj64
              by_cases hg : d ≤ r2
              · go_wp2_with fail
                exact ⟨rel2_mk (q := 2 * q + 1) (r := r2 - d) (j := j) (by simp; omega) (by simp; omega) (by omega) (by omega) (by rw [← HRR.out]; exact inv2_high hd1 HI.out HBB.out.symm (by rw [HRR.out]; exact hg)), by simp [intOf] <;> omega⟩
              · go_wp2_with fail
                exact ⟨rel2_mk (q := 2 * q) (r := r2) (j := j) (by simp; omega) (by simp) (by omega) (by omega) (by rw [← HRR.out]; exact inv2_low hd1 HI.out HBB.out.symm (by rw [HRR.out]; omega)), by simp [intOf] <;> omega⟩
            · have hbh := HBH.out (by omega)
              have hj64' : 64 ≤ j := by omega
              clear hj64
              by_cases hg : d ≤ r2
              · go_wp2_with fail
                exact ⟨rel2_mk (q := 2 * q + 1) (r := r2 - d) (j := j) (by simp; omega) (by simp; omega) (by omega) (by omega) (by rw [← HRR.out]; exact inv2_high hd1 HI.out HBB.out.symm (by rw [HRR.out]; exact hg)), by simp [intOf] <;> omega⟩
              · go_wp2_with fail
                exact ⟨rel2_mk (q := 2 * q) (r := r2) (j := j) (by simp; omega) (by simp) (by omega) (by omega) (by rw [← HRR.out]; exact inv2_low hd1 HI.out HBB.out.symm (by rw [HRR.out]; omega)), by simp [intOf] <;> omega⟩
        · obtain ⟨hq, hr⟩ := inv2_end hI
          have hM := HM.out
          rw [← hq] at hM
          have hrd : r < d := by rw [hr]; exact Nat.mod_lt _ hd1
          rw [HP.out] at hq hr
          have HQ := hid hq
          have HR := hid hr
          clear hq hr hI
          have hsb : (decide (a < 0) == decide (b < 0)) = true := by rw [beq_iff_eq, decide_eq_decide]; exact hs
          clear hs
          go_wp2_with fail
          refine (rmay_1 _ _ (q : Int) false (timeB_no (by omega)) _ (by simp)).mono ?_
          rintro e w1 ⟨rfl, rfl⟩
          go_wp2
          go_ret3
          exact ⟨rfl, ((Below.refl _ _).alloc (Nat.le_refl _) _).alloc (by simp) _⟩

set_option maxRecDepth 100000 in
set_option maxHeartbeats 1000000 in
theorem rscale_opp0 (a b : Int) (d : Nat) (w : World) (ha1 : -1152921504606846976 ≤ a) (ha2 : a ≤ 1152921504606846976) (hb1 : -1152921504606846976 ≤ b) (hb2 : b ≤ 1152921504606846976) (hd1 : 1 ≤ d) (hd2 : d ≤ 1152921504606846976) (hs : ¬ (a < 0 ↔ b < 0)) (hN : a.natAbs * b.natAbs / d ≤ 1152921504606846976) (hR : a.natAbs * b.natAbs % d = 0) :
    Calls Tryd.prog 17 #[.int .i64 a, .int .i64 b, .int .i64 d] w fun e w' => e = .returned (.tuple #[.int .i64 (-((a.natAbs * b.natAbs / d : Nat) : Int)), .int .i64 0, .int .i64 0]) ∧ Below w.heap.size w w' := by
  have hd3 : decide ((d : Int) < 1) = false := by simp; omega
  have hA : a.natAbs ≤ 1152921504606846976 := by omega
  have hB : b.natAbs ≤ 1152921504606846976 := by omega
  have HN := hid hN
  clear hN
  go_enter Tryd.func17, Tryd.ntmps17
  go_wp2_with fail
  refine (rmay_3 _ _ a b d true (by rw [timeB_yes ha1 ha2, timeB_yes hb1 hb2, timeB_yes (by omega) (by omega)]; rfl) _ (by simp) (by simp) (by simp)).mono ?_
  rintro e w' ⟨rfl, rfl⟩
  go_wp2_with fail
  go_loop [9, 10, 11] (fun vh vl vi => Rel1 a.natAbs b.natAbs vh vl vi) (fun _ _ vi => ((intOf vi) + 1).toNat)
  case atStart => exact rel1_mk (h := 0) (l := 0) (j := 64) rfl rfl (by omega) (inv1_start _ _ hB)
  case round =>
    obtain ⟨h, l, rfl, rfl, hj⟩ := hrel
    rcases hj with ⟨j, hj, rfl, hI⟩ | ⟨rfl, hI⟩
    · have HI := hid hI
      have hl : l < 18446744073709551616 := hI.2
      have hh0 := inv1_top hA hB hI
      have hh : h < 9223372036854775808 := by omega
      clear hI
      go_wp2_with fail
      refine (twice_any h l _ hh hl).mono ?_
      rintro e w' ⟨rfl, rfl⟩
      have hhb : 2 * h + l / 9223372036854775808 < 9223372036854775808 := by omega
      have hlb : 2 * l % 18446744073709551616 < 18446744073709551616 := Nat.mod_lt _ (by decide)
      generalize hh2 : 2 * h + l / 9223372036854775808 = h2 at *
      generalize hl2 : 2 * l % 18446744073709551616 = l2 at *
      have HH2 := hid hh2
      have HL2 := hid hl2
      clear hh2 hl2
      go_wp2_with fail
      refine (rsize_any b _ hb1 hb2).mono ?_
      rintro e w' ⟨rfl, rfl⟩
      have hbit := and_bit b.natAbs j (by omega)
      rcases Nat.mod_two_eq_zero_or_one (b.natAbs / 2 ^ j) with hz | hz
      · rw [hz] at hbit
        have HZ := hid hz
        clear hz
        have hbit' : (bits .and .u64 ((b.natAbs : Int) / 2 ^ j) 1 == 1) = false := by rw [hbit]; decide
        clear hbit
        go_wp2_with fail
        exact ⟨rel1_mk (h := h2) (l := l2) (j := j) rfl rfl (by omega) (by rw [← HH2.out, ← HL2.out]; exact inv1_zero HI.out HZ.out), by simp [intOf] <;> omega⟩
      · rw [hz] at hbit
        have HZ := hid hz
        clear hz
        have hbit' : (bits .and .u64 ((b.natAbs : Int) / 2 ^ j) 1 == 1) = true := by rw [hbit]; decide
        clear hbit
        go_wp2_with fail
        refine (rsize_any a _ ha1 ha2).mono ?_
        rintro e w' ⟨rfl, rfl⟩
        by_cases hc : l2 + a.natAbs < 18446744073709551616
        · have hw1 : IntKind.u64.wrap ((l2 : Int) + (a.natAbs : Nat)) = ((l2 + a.natAbs : Nat) : Int) := by rw [IntKind.wrap_u64]; omega
          have hlt : ¬ l2 + a.natAbs < l2 := by omega
          have HW := hid hw1
          go_wp2_with fail
          exact ⟨rel1_mk (h := h2) (l := l2 + a.natAbs) (j := j) rfl (by simp) (by omega) (inv1_one HI.out HZ.out HH2.out HL2.out hc), by simp [intOf] <;> omega⟩
        · have hm : l2 + a.natAbs - 18446744073709551616 < l2 := by omega
          have hw1 : IntKind.u64.wrap ((l2 : Int) + (a.natAbs : Nat)) = ((l2 + a.natAbs - 18446744073709551616 : Nat) : Int) := by rw [IntKind.wrap_u64]; omega
          have hIc := hid (inv1_carry HI.out HZ.out HH2.out HL2.out hA (by omega))
          generalize l2 + a.natAbs - 18446744073709551616 = m at *
          clear hc
          go_wp2_with fail
          exact ⟨rel1_mk (h := h2 + 1) (l := m) (j := j) (by simp) (by simp) (by omega) hIc.out, by simp [intOf] <;> omega⟩
    · have hl : l < 18446744073709551616 := hI.2
      have hh0 := inv1_top hA hB hI
      have hP : h * 18446744073709551616 + l = a.natAbs * b.natAbs := by have := hI.1; rwa [Nat.pow_zero, Nat.div_one] at this
      have HP := hid hP
      clear hI hP
      have hPb : h * 18446744073709551616 + l < 2 ^ 128 := by omega
      have HPB := hid hPb
      clear hPb
      have HNN := HN.out
      rw [← HP.out] at HNN
      have HM := hid HNN
      clear HNN
      go_wp2_with fail
      go_loop [13, 14, 15] (fun vq vr vi => Rel2 (h * 18446744073709551616 + l) d vq vr vi) (fun _ _ vi => ((intOf vi) + 1).toNat)
      case atStart => exact rel2_mk (q := 0) (r := 0) (j := 128) rfl rfl (by omega) (by omega) (inv2_start _ _ HPB.out)
      case round =>
        obtain ⟨q, r, rfl, rfl, hqb, hj⟩ := hrel
        rcases hj with ⟨j, hj, rfl, hI⟩ | ⟨rfl, hI⟩
        · have HI := hid hI
          have hrd := inv2_rest hd1 hI
          clear hI
          have hb1' : (h * 18446744073709551616 + l) / 2 ^ j % 2 < 2 := Nat.mod_lt _ (by decide)
          have HBL : Hid (j < 64 → bits .and .u64 ((l : Int) / 2 ^ (j % 64)) 1 = (((h * 18446744073709551616 + l) / 2 ^ j % 2 : Nat) : Int)) := hid (fun hj => by rw [← bit_low h l j hj]; exact and_bit l _ hl)
          have HBH : Hid (64 ≤ j → bits .and .u64 ((h : Int) / 2 ^ (j % 64)) 1 = (((h * 18446744073709551616 + l) / 2 ^ j % 2 : Nat) : Int)) := hid (fun h1 => by rw [← bit_high h l j hl h1 (by omega)]; exact and_bit h _ (by omega))
          have HBX : Hid (∀ bb, bb = (h * 18446744073709551616 + l) / 2 ^ j % 2 → bb = (h * 18446744073709551616 + l) / 2 ^ j % 2) := hid (fun _ h => h)
          generalize hbb : (h * 18446744073709551616 + l) / 2 ^ j % 2 = bb at *
          have HBB := hid hbb
          clear hbb HBX
          have hor := or_bit r bb (by omega) hb1'
          have hr2 : 2 * r + bb < 2 * d + 2 := by omega
          generalize hrr : 2 * r + bb = r2 at *
          have HRR := hid hrr
          clear hrr
          by_cases hqt : 1152921504606846976 < q
          · exact absurd (inv2_over HI.out) (by have := HM.out; omega)
          · by_cases hj64 : j < 64
            · have hbl := HBL.out hj64
              have hj64' : ¬ 64 ≤ j := by omega
              have hjm : j % 64 = j := Nat.mod_eq_of_lt hj64
              rw [hjm] at hbl
              clear hj64
              by_cases hg : d ≤ r2
              · go_wp2_with fail
                exact ⟨rel2_mk (q := 2 * q + 1) (r := r2 - d) (j := j) (by simp; omega) (by simp; omega) (by omega) (by omega) (by rw [← HRR.out]; exact inv2_high hd1 HI.out HBB.out.symm (by rw [HRR.out]; exact hg)), by simp [intOf] <;> omega⟩
              · go_wp2_with fail
                exact ⟨rel2_mk (q := 2 * q) (r := r2) (j := j) (by simp; omega) (by simp) (by omega) (by omega) (by rw [← HRR.out]; exact inv2_low hd1 HI.out HBB.out.symm (by rw [HRR.out]; omega)), by simp [intOf] <;> omega⟩
            · have hbh := HBH.out (by omega)
              have hj64' : 64 ≤ j := by omega
              clear hj64
              by_cases hg : d ≤ r2
              · go_wp2_with fail
                exact ⟨rel2_mk (q := 2 * q + 1) (r := r2 - d) (j := j) (by simp; omega) (by simp; omega) (by omega) (by omega) (by rw [← HRR.out]; exact inv2_high hd1 HI.out HBB.out.symm (by rw [HRR.out]; exact hg)), by simp [intOf] <;> omega⟩
              · go_wp2_with fail
                exact ⟨rel2_mk (q := 2 * q) (r := r2) (j := j) (by simp; omega) (by simp) (by omega) (by omega) (by rw [← HRR.out]; exact inv2_low hd1 HI.out HBB.out.symm (by rw [HRR.out]; omega)), by simp [intOf] <;> omega⟩
        · obtain ⟨hq, hr⟩ := inv2_end hI
          have hM := HM.out
          rw [← hq] at hM
          have hrd : r < d := by rw [hr]; exact Nat.mod_lt _ hd1
          rw [HP.out] at hq hr
          have HQ := hid hq
          have HR := hid hr
          clear hq hr hI
          have hsb : (decide (a < 0) == decide (b < 0)) = false := by rw [beq_eq_false_iff_ne, ne_eq, decide_eq_decide]; exact hs
          clear hs
          obtain rfl : r = 0 := by rw [HR.out]; exact hR
          go_wp2_with fail
          refine (rmay_1 _ _ (-(q : Int)) true (timeB_yes (by omega) (by omega)) _ (by simp)).mono ?_
          rintro e w1 ⟨rfl, rfl⟩
          go_wp2
          go_ret3
          exact ⟨ret_three (by rw [HQ.out]) rfl rfl, ((Below.refl _ _).alloc (Nat.le_refl _) _).alloc (by simp) _⟩

set_option maxRecDepth 100000 in
set_option maxHeartbeats 1000000 in
theorem rscale_opp0_over (a b : Int) (d : Nat) (w : World) (ha1 : -1152921504606846976 ≤ a) (ha2 : a ≤ 1152921504606846976) (hb1 : -1152921504606846976 ≤ b) (hb2 : b ≤ 1152921504606846976) (hd1 : 1 ≤ d) (hd2 : d ≤ 1152921504606846976) (hs : ¬ (a < 0 ↔ b < 0)) (hN : 1152921504606846976 < a.natAbs * b.natAbs / d) (hR : a.natAbs * b.natAbs % d = 0) :
    Calls Tryd.prog 17 #[.int .i64 a, .int .i64 b, .int .i64 d] w fun e w' => e = .returned (.tuple #[.int .i64 0, .int .i64 0, .int .i64 2]) ∧ Below w.heap.size w w' := by
  have hd3 : decide ((d : Int) < 1) = false := by simp; omega
  have hA : a.natAbs ≤ 1152921504606846976 := by omega
  have hB : b.natAbs ≤ 1152921504606846976 := by omega
  have HN := hid hN
  clear hN
  go_enter Tryd.func17, Tryd.ntmps17
  go_wp2_with fail
  refine (rmay_3 _ _ a b d true (by rw [timeB_yes ha1 ha2, timeB_yes hb1 hb2, timeB_yes (by omega) (by omega)]; rfl) _ (by simp) (by simp) (by simp)).mono ?_
  rintro e w' ⟨rfl, rfl⟩
  go_wp2_with fail
  go_loop [9, 10, 11] (fun vh vl vi => Rel1 a.natAbs b.natAbs vh vl vi) (fun _ _ vi => ((intOf vi) + 1).toNat)
  case atStart => exact rel1_mk (h := 0) (l := 0) (j := 64) rfl rfl (by omega) (inv1_start _ _ hB)
  case round =>
    obtain ⟨h, l, rfl, rfl, hj⟩ := hrel
    rcases hj with ⟨j, hj, rfl, hI⟩ | ⟨rfl, hI⟩
    · have HI := hid hI
      have hl : l < 18446744073709551616 := hI.2
      have hh0 := inv1_top hA hB hI
      have hh : h < 9223372036854775808 := by omega
      clear hI
      go_wp2_with fail
      refine (twice_any h l _ hh hl).mono ?_
      rintro e w' ⟨rfl, rfl⟩
      have hhb : 2 * h + l / 9223372036854775808 < 9223372036854775808 := by omega
      have hlb : 2 * l % 18446744073709551616 < 18446744073709551616 := Nat.mod_lt _ (by decide)
      generalize hh2 : 2 * h + l / 9223372036854775808 = h2 at *
      generalize hl2 : 2 * l % 18446744073709551616 = l2 at *
      have HH2 := hid hh2
      have HL2 := hid hl2
      clear hh2 hl2
      go_wp2_with fail
      refine (rsize_any b _ hb1 hb2).mono ?_
      rintro e w' ⟨rfl, rfl⟩
      have hbit := and_bit b.natAbs j (by omega)
      rcases Nat.mod_two_eq_zero_or_one (b.natAbs / 2 ^ j) with hz | hz
      · rw [hz] at hbit
        have HZ := hid hz
        clear hz
        have hbit' : (bits .and .u64 ((b.natAbs : Int) / 2 ^ j) 1 == 1) = false := by rw [hbit]; decide
        clear hbit
        go_wp2_with fail
        exact ⟨rel1_mk (h := h2) (l := l2) (j := j) rfl rfl (by omega) (by rw [← HH2.out, ← HL2.out]; exact inv1_zero HI.out HZ.out), by simp [intOf] <;> omega⟩
      · rw [hz] at hbit
        have HZ := hid hz
        clear hz
        have hbit' : (bits .and .u64 ((b.natAbs : Int) / 2 ^ j) 1 == 1) = true := by rw [hbit]; decide
        clear hbit
        go_wp2_with fail
        refine (rsize_any a _ ha1 ha2).mono ?_
        rintro e w' ⟨rfl, rfl⟩
        by_cases hc : l2 + a.natAbs < 18446744073709551616
        · have hw1 : IntKind.u64.wrap ((l2 : Int) + (a.natAbs : Nat)) = ((l2 + a.natAbs : Nat) : Int) := by rw [IntKind.wrap_u64]; omega
          have hlt : ¬ l2 + a.natAbs < l2 := by omega
          have HW := hid hw1
          go_wp2_with fail
          exact ⟨rel1_mk (h := h2) (l := l2 + a.natAbs) (j := j) rfl (by simp) (by omega) (inv1_one HI.out HZ.out HH2.out HL2.out hc), by simp [intOf] <;> omega⟩
        · have hm : l2 + a.natAbs - 18446744073709551616 < l2 := by omega
          have hw1 : IntKind.u64.wrap ((l2 : Int) + (a.natAbs : Nat)) = ((l2 + a.natAbs - 18446744073709551616 : Nat) : Int) := by rw [IntKind.wrap_u64]; omega
          have hIc := hid (inv1_carry HI.out HZ.out HH2.out HL2.out hA (by omega))
          generalize l2 + a.natAbs - 18446744073709551616 = m at *
          clear hc
          go_wp2_with fail
          exact ⟨rel1_mk (h := h2 + 1) (l := m) (j := j) (by simp) (by simp) (by omega) hIc.out, by simp [intOf] <;> omega⟩
    · have hl : l < 18446744073709551616 := hI.2
      have hh0 := inv1_top hA hB hI
      have hP : h * 18446744073709551616 + l = a.natAbs * b.natAbs := by have := hI.1; rwa [Nat.pow_zero, Nat.div_one] at this
      have HP := hid hP
      clear hI hP
      have hPb : h * 18446744073709551616 + l < 2 ^ 128 := by omega
      have HPB := hid hPb
      clear hPb
      have HNN := HN.out
      rw [← HP.out] at HNN
      have HM := hid HNN
      clear HNN
      go_wp2_with fail
      go_loop [13, 14, 15] (fun vq vr vi => Rel2 (h * 18446744073709551616 + l) d vq vr vi) (fun _ _ vi => ((intOf vi) + 1).toNat)
      case atStart => exact rel2_mk (q := 0) (r := 0) (j := 128) rfl rfl (by omega) (by omega) (inv2_start _ _ HPB.out)
      case round =>
        obtain ⟨q, r, rfl, rfl, hqb, hj⟩ := hrel
        rcases hj with ⟨j, hj, rfl, hI⟩ | ⟨rfl, hI⟩
        · have HI := hid hI
          have hrd := inv2_rest hd1 hI
          clear hI
          have hb1' : (h * 18446744073709551616 + l) / 2 ^ j % 2 < 2 := Nat.mod_lt _ (by decide)
          have HBL : Hid (j < 64 → bits .and .u64 ((l : Int) / 2 ^ (j % 64)) 1 = (((h * 18446744073709551616 + l) / 2 ^ j % 2 : Nat) : Int)) := hid (fun hj => by rw [← bit_low h l j hj]; exact and_bit l _ hl)
          have HBH : Hid (64 ≤ j → bits .and .u64 ((h : Int) / 2 ^ (j % 64)) 1 = (((h * 18446744073709551616 + l) / 2 ^ j % 2 : Nat) : Int)) := hid (fun h1 => by rw [← bit_high h l j hl h1 (by omega)]; exact and_bit h _ (by omega))
          have HBX : Hid (∀ bb, bb = (h * 18446744073709551616 + l) / 2 ^ j % 2 → bb = (h * 18446744073709551616 + l) / 2 ^ j % 2) := hid (fun _ h => h)
          generalize hbb : (h * 18446744073709551616 + l) / 2 ^ j % 2 = bb at *
          have HBB := hid hbb
          clear hbb HBX
          have hor := or_bit r bb (by omega) hb1'
          have hr2 : 2 * r + bb < 2 * d + 2 := by omega
          generalize hrr : 2 * r + bb = r2 at *
          have HRR := hid hrr
          clear hrr
          by_cases hqt : 1152921504606846976 < q
          · by_cases hj64 : j < 64
            · have hbl := HBL.out hj64
              have hj64' : ¬ 64 ≤ j := by omega
              have hjm : j % 64 = j := Nat.mod_eq_of_lt hj64
              rw [hjm] at hbl
              clear hj64
              go_wp2
              go_ret3
              exact ⟨rfl, (Below.refl _ _).alloc (Nat.le_refl _) _⟩
            · have hbh := HBH.out (by omega)
              have hj64' : 64 ≤ j := by omega
              clear hj64
              go_wp2
              go_ret3
              exact ⟨rfl, (Below.refl _ _).alloc (Nat.le_refl _) _⟩
          · by_cases hj64 : j < 64
            · have hbl := HBL.out hj64
              have hj64' : ¬ 64 ≤ j := by omega
              have hjm : j % 64 = j := Nat.mod_eq_of_lt hj64
              rw [hjm] at hbl
              clear hj64
              by_cases hg : d ≤ r2
              · go_wp2_with fail
                exact ⟨rel2_mk (q := 2 * q + 1) (r := r2 - d) (j := j) (by simp; omega) (by simp; omega) (by omega) (by omega) (by rw [← HRR.out]; exact inv2_high hd1 HI.out HBB.out.symm (by rw [HRR.out]; exact hg)), by simp [intOf] <;> omega⟩
              · go_wp2_with fail
                exact ⟨rel2_mk (q := 2 * q) (r := r2) (j := j) (by simp; omega) (by simp) (by omega) (by omega) (by rw [← HRR.out]; exact inv2_low hd1 HI.out HBB.out.symm (by rw [HRR.out]; omega)), by simp [intOf] <;> omega⟩
            · have hbh := HBH.out (by omega)
              have hj64' : 64 ≤ j := by omega
              clear hj64
              by_cases hg : d ≤ r2
              · go_wp2_with fail
                exact ⟨rel2_mk (q := 2 * q + 1) (r := r2 - d) (j := j) (by simp; omega) (by simp; omega) (by omega) (by omega) (by rw [← HRR.out]; exact inv2_high hd1 HI.out HBB.out.symm (by rw [HRR.out]; exact hg)), by simp [intOf] <;> omega⟩
              · go_wp2_with fail
                exact ⟨rel2_mk (q := 2 * q) (r := r2) (j := j) (by simp; omega) (by simp) (by omega) (by omega) (by rw [← HRR.out]; exact inv2_low hd1 HI.out HBB.out.symm (by rw [HRR.out]; omega)), by simp [intOf] <;> omega⟩
        · obtain ⟨hq, hr⟩ := inv2_end hI
          have hM := HM.out
          rw [← hq] at hM
          have hrd : r < d := by rw [hr]; exact Nat.mod_lt _ hd1
          rw [HP.out] at hq hr
          have HQ := hid hq
          have HR := hid hr
          clear hq hr hI
          have hsb : (decide (a < 0) == decide (b < 0)) = false := by rw [beq_eq_false_iff_ne, ne_eq, decide_eq_decide]; exact hs
          clear hs
          obtain rfl : r = 0 := by rw [HR.out]; exact hR
          go_wp2_with fail
          refine (rmay_1 _ _ (-(q : Int)) false (timeB_no (by omega)) _ (by simp)).mono ?_
          rintro e w1 ⟨rfl, rfl⟩
          go_wp2
          go_ret3
          exact ⟨rfl, ((Below.refl _ _).alloc (Nat.le_refl _) _).alloc (by simp) _⟩

set_option maxRecDepth 100000 in
set_option maxHeartbeats 1000000 in
theorem rscale_opp (a b : Int) (d : Nat) (w : World) (ha1 : -1152921504606846976 ≤ a) (ha2 : a ≤ 1152921504606846976) (hb1 : -1152921504606846976 ≤ b) (hb2 : b ≤ 1152921504606846976) (hd1 : 1 ≤ d) (hd2 : d ≤ 1152921504606846976) (hs : ¬ (a < 0 ↔ b < 0)) (hN : a.natAbs * b.natAbs / d < 1152921504606846976) (hR : 0 < a.natAbs * b.natAbs % d) :
    Calls Tryd.prog 17 #[.int .i64 a, .int .i64 b, .int .i64 d] w fun e w' => e = .returned (.tuple #[.int .i64 (-(((a.natAbs * b.natAbs / d : Nat) : Int) + 1)), .int .i64 ((d : Int) - ((a.natAbs * b.natAbs % d : Nat) : Int)), .int .i64 0]) ∧ Below w.heap.size w w' := by
  have hd3 : decide ((d : Int) < 1) = false := by simp; omega
  have hA : a.natAbs ≤ 1152921504606846976 := by omega
  have hB : b.natAbs ≤ 1152921504606846976 := by omega
  have HN := hid hN
  clear hN
  go_enter Tryd.func17, Tryd.ntmps17
  go_wp2_with fail
  refine (rmay_3 _ _ a b d true (by rw [timeB_yes ha1 ha2, timeB_yes hb1 hb2, timeB_yes (by omega) (by omega)]; rfl) _ (by simp) (by simp) (by simp)).mono ?_
  rintro e w' ⟨rfl, rfl⟩
  go_wp2_with fail
  go_loop [9, 10, 11] (fun vh vl vi => Rel1 a.natAbs b.natAbs vh vl vi) (fun _ _ vi => ((intOf vi) + 1).toNat)
  case atStart => exact rel1_mk (h := 0) (l := 0) (j := 64) rfl rfl (by omega) (inv1_start _ _ hB)
  case round =>
    obtain ⟨h, l, rfl, rfl, hj⟩ := hrel
    rcases hj with ⟨j, hj, rfl, hI⟩ | ⟨rfl, hI⟩
    · have HI := hid hI
      have hl : l < 18446744073709551616 := hI.2
      have hh0 := inv1_top hA hB hI
      have hh : h < 9223372036854775808 := by omega
      clear hI
      go_wp2_with fail
      refine (twice_any h l _ hh hl).mono ?_
      rintro e w' ⟨rfl, rfl⟩
      have hhb : 2 * h + l / 9223372036854775808 < 9223372036854775808 := by omega
      have hlb : 2 * l % 18446744073709551616 < 18446744073709551616 := Nat.mod_lt _ (by decide)
      generalize hh2 : 2 * h + l / 9223372036854775808 = h2 at *
      generalize hl2 : 2 * l % 18446744073709551616 = l2 at *
      have HH2 := hid hh2
      have HL2 := hid hl2
      clear hh2 hl2
      go_wp2_with fail
      refine (rsize_any b _ hb1 hb2).mono ?_
      rintro e w' ⟨rfl, rfl⟩
      have hbit := and_bit b.natAbs j (by omega)
      rcases Nat.mod_two_eq_zero_or_one (b.natAbs / 2 ^ j) with hz | hz
      · rw [hz] at hbit
        have HZ := hid hz
        clear hz
        have hbit' : (bits .and .u64 ((b.natAbs : Int) / 2 ^ j) 1 == 1) = false := by rw [hbit]; decide
        clear hbit
        go_wp2_with fail
        exact ⟨rel1_mk (h := h2) (l := l2) (j := j) rfl rfl (by omega) (by rw [← HH2.out, ← HL2.out]; exact inv1_zero HI.out HZ.out), by simp [intOf] <;> omega⟩
      · rw [hz] at hbit
        have HZ := hid hz
        clear hz
        have hbit' : (bits .and .u64 ((b.natAbs : Int) / 2 ^ j) 1 == 1) = true := by rw [hbit]; decide
        clear hbit
        go_wp2_with fail
        refine (rsize_any a _ ha1 ha2).mono ?_
        rintro e w' ⟨rfl, rfl⟩
        by_cases hc : l2 + a.natAbs < 18446744073709551616
        · have hw1 : IntKind.u64.wrap ((l2 : Int) + (a.natAbs : Nat)) = ((l2 + a.natAbs : Nat) : Int) := by rw [IntKind.wrap_u64]; omega
          have hlt : ¬ l2 + a.natAbs < l2 := by omega
          have HW := hid hw1
          go_wp2_with fail
          exact ⟨rel1_mk (h := h2) (l := l2 + a.natAbs) (j := j) rfl (by simp) (by omega) (inv1_one HI.out HZ.out HH2.out HL2.out hc), by simp [intOf] <;> omega⟩
        · have hm : l2 + a.natAbs - 18446744073709551616 < l2 := by omega
          have hw1 : IntKind.u64.wrap ((l2 : Int) + (a.natAbs : Nat)) = ((l2 + a.natAbs - 18446744073709551616 : Nat) : Int) := by rw [IntKind.wrap_u64]; omega
          have hIc := hid (inv1_carry HI.out HZ.out HH2.out HL2.out hA (by omega))
          generalize l2 + a.natAbs - 18446744073709551616 = m at *
          clear hc
          go_wp2_with fail
          exact ⟨rel1_mk (h := h2 + 1) (l := m) (j := j) (by simp) (by simp) (by omega) hIc.out, by simp [intOf] <;> omega⟩
    · have hl : l < 18446744073709551616 := hI.2
      have hh0 := inv1_top hA hB hI
      have hP : h * 18446744073709551616 + l = a.natAbs * b.natAbs := by have := hI.1; rwa [Nat.pow_zero, Nat.div_one] at this
      have HP := hid hP
      clear hI hP
      have hPb : h * 18446744073709551616 + l < 2 ^ 128 := by omega
      have HPB := hid hPb
      clear hPb
      have HNN := HN.out
      rw [← HP.out] at HNN
      have HM := hid HNN
      clear HNN
      go_wp2_with fail
      go_loop [13, 14, 15] (fun vq vr vi => Rel2 (h * 18446744073709551616 + l) d vq vr vi) (fun _ _ vi => ((intOf vi) + 1).toNat)
      case atStart => exact rel2_mk (q := 0) (r := 0) (j := 128) rfl rfl (by omega) (by omega) (inv2_start _ _ HPB.out)
      case round =>
        obtain ⟨q, r, rfl, rfl, hqb, hj⟩ := hrel
        rcases hj with ⟨j, hj, rfl, hI⟩ | ⟨rfl, hI⟩
        · have HI := hid hI
          have hrd := inv2_rest hd1 hI
          clear hI
          have hb1' : (h * 18446744073709551616 + l) / 2 ^ j % 2 < 2 := Nat.mod_lt _ (by decide)
          have HBL : Hid (j < 64 → bits .and .u64 ((l : Int) / 2 ^ (j % 64)) 1 = (((h * 18446744073709551616 + l) / 2 ^ j % 2 : Nat) : Int)) := hid (fun hj => by rw [← bit_low h l j hj]; exact and_bit l _ hl)
          have HBH : Hid (64 ≤ j → bits .and .u64 ((h : Int) / 2 ^ (j % 64)) 1 = (((h * 18446744073709551616 + l) / 2 ^ j % 2 : Nat) : Int)) := hid (fun h1 => by rw [← bit_high h l j hl h1 (by omega)]; exact and_bit h _ (by omega))
          have HBX : Hid (∀ bb, bb = (h * 18446744073709551616 + l) / 2 ^ j % 2 → bb = (h * 18446744073709551616 + l) / 2 ^ j % 2) := hid (fun _ h => h)
          generalize hbb : (h * 18446744073709551616 + l) / 2 ^ j % 2 = bb at *
          have HBB := hid hbb
          clear hbb HBX
          have hor := or_bit r bb (by omega) hb1'
          have hr2 : 2 * r + bb < 2 * d + 2 := by omega
          generalize hrr : 2 * r + bb = r2 at *
          have HRR := hid hrr
          clear hrr
          by_cases hqt : 1152921504606846976 < q
          · exact absurd (inv2_over HI.out) (by have := HM.out; omega)
          · by_cases hj64 : j < 64
            · have hbl := HBL.out hj64
              have hj64' : ¬ 64 ≤ j := by omega
              have hjm : j % 64 = j := Nat.mod_eq_of_lt hj64
              rw [hjm] at hbl
              clear hj64
              by_cases hg : d ≤ r2
              · go_wp2_with fail
                exact ⟨rel2_mk (q := 2 * q + 1) (r := r2 - d) (j := j) (by simp; omega) (by simp; omega) (by omega) (by omega) (by rw [← HRR.out]; exact inv2_high hd1 HI.out HBB.out.symm (by rw [HRR.out]; exact hg)), by simp [intOf] <;> omega⟩
              · go_wp2_with fail
                exact ⟨rel2_mk (q := 2 * q) (r := r2) (j := j) (by simp; omega) (by simp) (by omega) (by omega) (by rw [← HRR.out]; exact inv2_low hd1 HI.out HBB.out.symm (by rw [HRR.out]; omega)), by simp [intOf] <;> omega⟩
            · have hbh := HBH.out (by omega)
              have hj64' : 64 ≤ j := by omega
              clear hj64
              by_cases hg : d ≤ r2
              · go_wp2_with fail
                exact ⟨rel2_mk (q := 2 * q + 1) (r := r2 - d) (j := j) (by simp; omega) (by simp; omega) (by omega) (by omega) (by rw [← HRR.out]; exact inv2_high hd1 HI.out HBB.out.symm (by rw [HRR.out]; exact hg)), by simp [intOf] <;> omega⟩
              · go_wp2_with fail
                exact ⟨rel2_mk (q := 2 * q) (r := r2) (j := j) (by simp; omega) (by simp) (by omega) (by omega) (by rw [← HRR.out]; exact inv2_low hd1 HI.out HBB.out.symm (by rw [HRR.out]; omega)), by simp [intOf] <;> omega⟩
        · obtain ⟨hq, hr⟩ := inv2_end hI
          have hM := HM.out
          rw [← hq] at hM
          have hrd : r < d := by rw [hr]; exact Nat.mod_lt _ hd1
          rw [HP.out] at hq hr
          have HQ := hid hq
          have HR := hid hr
          clear hq hr hI
          have hsb : (decide (a < 0) == decide (b < 0)) = false := by rw [beq_eq_false_iff_ne, ne_eq, decide_eq_decide]; exact hs
          clear hs
          have hr0 : 0 < r := by rw [HR.out]; exact hR
          go_wp2_with fail
          refine (rmay_1 _ _ (-(q : Int) - 1) true (timeB_yes (by omega) (by omega)) _ (by simp)).mono ?_
          rintro e w1 ⟨rfl, rfl⟩
          go_wp2
          go_ret3
          exact ⟨ret_three (by rw [← HQ.out]; omega) (by rw [HR.out]) rfl, ((Below.refl _ _).alloc (Nat.le_refl _) _).alloc (by simp) _⟩

set_option maxRecDepth 100000 in
set_option maxHeartbeats 1000000 in
theorem rscale_opp_over (a b : Int) (d : Nat) (w : World) (ha1 : -1152921504606846976 ≤ a) (ha2 : a ≤ 1152921504606846976) (hb1 : -1152921504606846976 ≤ b) (hb2 : b ≤ 1152921504606846976) (hd1 : 1 ≤ d) (hd2 : d ≤ 1152921504606846976) (hs : ¬ (a < 0 ↔ b < 0)) (hN : 1152921504606846976 ≤ a.natAbs * b.natAbs / d) (hR : 0 < a.natAbs * b.natAbs % d) :
    Calls Tryd.prog 17 #[.int .i64 a, .int .i64 b, .int .i64 d] w fun e w' => e = .returned (.tuple #[.int .i64 0, .int .i64 0, .int .i64 2]) ∧ Below w.heap.size w w' := by
  have hd3 : decide ((d : Int) < 1) = false := by simp; omega
  have hA : a.natAbs ≤ 1152921504606846976 := by omega
  have hB : b.natAbs ≤ 1152921504606846976 := by omega
  have HN := hid hN
  clear hN
  go_enter Tryd.func17, Tryd.ntmps17
  go_wp2_with fail
  refine (rmay_3 _ _ a b d true (by rw [timeB_yes ha1 ha2, timeB_yes hb1 hb2, timeB_yes (by omega) (by omega)]; rfl) _ (by simp) (by simp) (by simp)).mono ?_
  rintro e w' ⟨rfl, rfl⟩
  go_wp2_with fail
  go_loop [9, 10, 11] (fun vh vl vi => Rel1 a.natAbs b.natAbs vh vl vi) (fun _ _ vi => ((intOf vi) + 1).toNat)
  case atStart => exact rel1_mk (h := 0) (l := 0) (j := 64) rfl rfl (by omega) (inv1_start _ _ hB)
  case round =>
    obtain ⟨h, l, rfl, rfl, hj⟩ := hrel
    rcases hj with ⟨j, hj, rfl, hI⟩ | ⟨rfl, hI⟩
    · have HI := hid hI
      have hl : l < 18446744073709551616 := hI.2
      have hh0 := inv1_top hA hB hI
      have hh : h < 9223372036854775808 := by omega
      clear hI
      go_wp2_with fail
      refine (twice_any h l _ hh hl).mono ?_
      rintro e w' ⟨rfl, rfl⟩
      have hhb : 2 * h + l / 9223372036854775808 < 9223372036854775808 := by omega
      have hlb : 2 * l % 18446744073709551616 < 18446744073709551616 := Nat.mod_lt _ (by decide)
      generalize hh2 : 2 * h + l / 9223372036854775808 = h2 at *
      generalize hl2 : 2 * l % 18446744073709551616 = l2 at *
      have HH2 := hid hh2
      have HL2 := hid hl2
      clear hh2 hl2
      go_wp2_with fail
      refine (rsize_any b _ hb1 hb2).mono ?_
      rintro e w' ⟨rfl, rfl⟩
      have hbit := and_bit b.natAbs j (by omega)
      rcases Nat.mod_two_eq_zero_or_one (b.natAbs / 2 ^ j) with hz | hz
      · rw [hz] at hbit
        have HZ := hid hz
        clear hz
        have hbit' : (bits .and .u64 ((b.natAbs : Int) / 2 ^ j) 1 == 1) = false := by rw [hbit]; decide
        clear hbit
        go_wp2_with fail
        exact ⟨rel1_mk (h := h2) (l := l2) (j := j) rfl rfl (by omega) (by rw [← HH2.out, ← HL2.out]; exact inv1_zero HI.out HZ.out), by simp [intOf] <;> omega⟩
      · rw [hz] at hbit
        have HZ := hid hz
        clear hz
        have hbit' : (bits .and .u64 ((b.natAbs : Int) / 2 ^ j) 1 == 1) = true := by rw [hbit]; decide
        clear hbit
        go_wp2_with fail
        refine (rsize_any a _ ha1 ha2).mono ?_
        rintro e w' ⟨rfl, rfl⟩
        by_cases hc : l2 + a.natAbs < 18446744073709551616
        · have hw1 : IntKind.u64.wrap ((l2 : Int) + (a.natAbs : Nat)) = ((l2 + a.natAbs : Nat) : Int) := by rw [IntKind.wrap_u64]; omega
          have hlt : ¬ l2 + a.natAbs < l2 := by omega
          have HW := hid hw1
          go_wp2_with fail
          exact ⟨rel1_mk (h := h2) (l := l2 + a.natAbs) (j := j) rfl (by simp) (by omega) (inv1_one HI.out HZ.out HH2.out HL2.out hc), by simp [intOf] <;> omega⟩
        · have hm : l2 + a.natAbs - 18446744073709551616 < l2 := by omega
          have hw1 : IntKind.u64.wrap ((l2 : Int) + (a.natAbs : Nat)) = ((l2 + a.natAbs - 18446744073709551616 : Nat) : Int) := by rw [IntKind.wrap_u64]; omega
          have hIc := hid (inv1_carry HI.out HZ.out HH2.out HL2.out hA (by omega))
          generalize l2 + a.natAbs - 18446744073709551616 = m at *
          clear hc
          go_wp2_with fail
          exact ⟨rel1_mk (h := h2 + 1) (l := m) (j := j) (by simp) (by simp) (by omega) hIc.out, by simp [intOf] <;> omega⟩
    · have hl : l < 18446744073709551616 := hI.2
      have hh0 := inv1_top hA hB hI
      have hP : h * 18446744073709551616 + l = a.natAbs * b.natAbs := by have := hI.1; rwa [Nat.pow_zero, Nat.div_one] at this
      have HP := hid hP
      clear hI hP
      have hPb : h * 18446744073709551616 + l < 2 ^ 128 := by omega
      have HPB := hid hPb
      clear hPb
      have HNN := HN.out
      rw [← HP.out] at HNN
      have HM := hid HNN
      clear HNN
      go_wp2_with fail
      go_loop [13, 14, 15] (fun vq vr vi => Rel2 (h * 18446744073709551616 + l) d vq vr vi) (fun _ _ vi => ((intOf vi) + 1).toNat)
      case atStart => exact rel2_mk (q := 0) (r := 0) (j := 128) rfl rfl (by omega) (by omega) (inv2_start _ _ HPB.out)
      case round =>
        obtain ⟨q, r, rfl, rfl, hqb, hj⟩ := hrel
        rcases hj with ⟨j, hj, rfl, hI⟩ | ⟨rfl, hI⟩
        · have HI := hid hI
          have hrd := inv2_rest hd1 hI
          clear hI
          have hb1' : (h * 18446744073709551616 + l) / 2 ^ j % 2 < 2 := Nat.mod_lt _ (by decide)
          have HBL : Hid (j < 64 → bits .and .u64 ((l : Int) / 2 ^ (j % 64)) 1 = (((h * 18446744073709551616 + l) / 2 ^ j % 2 : Nat) : Int)) := hid (fun hj => by rw [← bit_low h l j hj]; exact and_bit l _ hl)
          have HBH : Hid (64 ≤ j → bits .and .u64 ((h : Int) / 2 ^ (j % 64)) 1 = (((h * 18446744073709551616 + l) / 2 ^ j % 2 : Nat) : Int)) := hid (fun h1 => by rw [← bit_high h l j hl h1 (by omega)]; exact and_bit h _ (by omega))
          have HBX : Hid (∀ bb, bb = (h * 18446744073709551616 + l) / 2 ^ j % 2 → bb = (h * 18446744073709551616 + l) / 2 ^ j % 2) := hid (fun _ h => h)
          generalize hbb : (h * 18446744073709551616 + l) / 2 ^ j % 2 = bb at *
          have HBB := hid hbb
          clear hbb HBX
          have hor := or_bit r bb (by omega) hb1'
          have hr2 : 2 * r + bb < 2 * d + 2 := by omega
          generalize hrr : 2 * r + bb = r2 at *
          have HRR := hid hrr
          clear hrr
          by_cases hqt : 1152921504606846976 < q
          · by_cases hj64 : j < 64
            · have hbl := HBL.out hj64
              have hj64' : ¬ 64 ≤ j := by omega
              have hjm : j % 64 = j := Nat.mod_eq_of_lt hj64
              rw [hjm] at hbl
              clear hj64
              go_wp2
              go_ret3
              exact ⟨rfl, (Below.refl _ _).alloc (Nat.le_refl _) _⟩
            · have hbh := HBH.out (by omega)
              have hj64' : 64 ≤ j := by omega
              clear hj64
              go_wp2
              go_ret3
              exact ⟨rfl, (Below.refl _ _).alloc (Nat.le_refl _) _⟩
          · by_cases hj64 : j < 64
            · have hbl := HBL.out hj64
              have hj64' : ¬ 64 ≤ j := by omega
              have hjm : j % 64 = j := Nat.mod_eq_of_lt hj64
              rw [hjm] at hbl
              clear hj64
              by_cases hg : d ≤ r2
              · go_wp2_with fail
                exact ⟨rel2_mk (q := 2 * q + 1) (r := r2 - d) (j := j) (by simp; omega) (by simp; omega) (by omega) (by omega) (by rw [← HRR.out]; exact inv2_high hd1 HI.out HBB.out.symm (by rw [HRR.out]; exact hg)), by simp [intOf] <;> omega⟩
              · go_wp2_with fail
                exact ⟨rel2_mk (q := 2 * q) (r := r2) (j := j) (by simp; omega) (by simp) (by omega) (by omega) (by rw [← HRR.out]; exact inv2_low hd1 HI.out HBB.out.symm (by rw [HRR.out]; omega)), by simp [intOf] <;> omega⟩
            · have hbh := HBH.out (by omega)
              have hj64' : 64 ≤ j := by omega
              clear hj64
              by_cases hg : d ≤ r2
              · go_wp2_with fail
                exact ⟨rel2_mk (q := 2 * q + 1) (r := r2 - d) (j := j) (by simp; omega) (by simp; omega) (by omega) (by omega) (by rw [← HRR.out]; exact inv2_high hd1 HI.out HBB.out.symm (by rw [HRR.out]; exact hg)), by simp [intOf] <;> omega⟩
              · go_wp2_with fail
                exact ⟨rel2_mk (q := 2 * q) (r := r2) (j := j) (by simp; omega) (by simp) (by omega) (by omega) (by rw [← HRR.out]; exact inv2_low hd1 HI.out HBB.out.symm (by rw [HRR.out]; omega)), by simp [intOf] <;> omega⟩
        · obtain ⟨hq, hr⟩ := inv2_end hI
          have hM := HM.out
          rw [← hq] at hM
          have hrd : r < d := by rw [hr]; exact Nat.mod_lt _ hd1
          rw [HP.out] at hq hr
          have HQ := hid hq
          have HR := hid hr
          clear hq hr hI
          have hsb : (decide (a < 0) == decide (b < 0)) = false := by rw [beq_eq_false_iff_ne, ne_eq, decide_eq_decide]; exact hs
          clear hs
          have hr0 : 0 < r := by rw [HR.out]; exact hR
          go_wp2_with fail
          refine (rmay_1 _ _ (-(q : Int) - 1) false (timeB_no (by omega)) _ (by simp)).mono ?_
          rintro e w1 ⟨rfl, rfl⟩
          go_wp2
          go_ret3
          exact ⟨rfl, ((Below.refl _ _).alloc (Nat.le_refl _) _).alloc (by simp) _⟩

end Go.Proofs.YtfhiiklpclkelaaDoor
