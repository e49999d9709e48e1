/-
  Contracts of print.Is, and of the law functions' live and few; under: the tables hold what the program lays.
-/
import Derived.Test.YtkfnkieljcipnaaGreatDoorZWG

namespace Go.Proofs.YtkfnkieljcipnaaGreatDoor
open Go Go.RowKit Go.Joins

theorem bA_eqs (a : List UInt8) (s : ByteArray) : ((bA a).toList == s.toList) = decide (a = s.data.toList) := by
  rw [ByteArray.toList_eq, ByteArray.toList_eq, Bool.eq_iff_iff, beq_iff_eq, decide_eq_true_eq]
  exact Iff.rfl
def isB (l : List UInt8) : Bool := decide ((tdF l).e = 0) && decide ((tdF l).s = l)
set_option maxHeartbeats 1000000 in
set_option maxRecDepth 100000 in
theorem is_any (s : ByteArray) (w : World) (hL : LaidW w) (hs : s.size ≤ 9223372036854775807) : Calls Tryz.prog 34 #[.string s] w fun e w' => e = .returned (.bool (isB s.data.toList)) ∧ Below w.heap.size w w' := by
  have HT := hid (tidy_any s w hL hs)
  have hb : Hid (isB s.data.toList = (decide ((tdF s.data.toList).e = 0) && decide ((tdF s.data.toList).s = s.data.toList))) := hid rfl
  clear hL hs
  rw [hb.out]
  clear hb
  generalize tdF s.data.toList = d at *
  obtain ⟨q, p, er⟩ := d
  simp only [tdV] at HT ⊢
  by_cases h0 : er = 0
  · subst h0
    go_enter Tryz.func34, Tryz.ntmps34
    go_wp2_with (first
      | (refine Sh.wp_sv plS (x := p) rfl (.tmp 4) (.tmp 10) rfl rfl (by rfl) q2 ?_; intro w3 q3 b3 o3 s3; have B3 := hid (B2.out.trans (b3.mono B1.out.size)); clear q3 b3 o3 s3 q2)
      | (refine Sh.wp_al plS rfl rfl ?_; intro w2 q2 b2 s2; have B2 := hid (B1.out.trans (b2.mono B1.out.size)); clear b2 s2)
      | (go_at_call 32; refine HT.out.mono ?_; rintro e w1 ⟨rfl, b1⟩; have B1 := hid b1; clear b1))
    go_ret
    refine ⟨ret_bool ?_, B3.out⟩
    rw [bA_eqs, decide_true, Bool.true_and]
  · have hne : ((er : Int) == 0) = false := beq_eq_false_iff_ne.2 (by omega)
    have HN := hid h0
    clear h0
    go_enter Tryz.func34, Tryz.ntmps34
    go_wp2_with (first
      | (refine Sh.wp_sv plS (x := p) rfl (.tmp 4) (.tmp 10) rfl rfl (by rfl) q2 ?_; intro w3 q3 b3 o3 s3; have B3 := hid (B2.out.trans (b3.mono B1.out.size)); clear q3 b3 o3 s3 q2)
      | (refine Sh.wp_al plS rfl rfl ?_; intro w2 q2 b2 s2; have B2 := hid (B1.out.trans (b2.mono B1.out.size)); clear b2 s2)
      | (go_at_call 32; refine HT.out.mono ?_; rintro e w1 ⟨rfl, b1⟩; have B1 := hid b1; clear b1))
    go_ret
    exact ⟨ret_bool (by simp [HN.out]), B3.out⟩

def AnyW (e : Ending) : Prop := ∃ b, e = .returned (.bool b)
theorem few16_any (s : ByteArray) (w : World) : Calls Tryz.prog 31 #[.string s] w fun e w' => AnyW e ∧ Below w.heap.size w w' := by
  by_cases h1 : (s.size : Int) ≤ 20000
  · go_enter Tryz.func31, Tryz.ntmps31
    go_wp2
    go_ret
    exact ⟨⟨_, rfl⟩, Below.refl _ _⟩
  · by_cases h2 : (65536 : Int) < s.size
    · by_cases h3 : (s.size : Int) < 131072
      · go_enter Tryz.func31, Tryz.ntmps31
        go_wp2
        go_ret
        exact ⟨⟨_, rfl⟩, Below.refl _ _⟩
      · go_enter Tryz.func31, Tryz.ntmps31
        go_wp2
        go_ret
        exact ⟨⟨_, rfl⟩, Below.refl _ _⟩
    · go_enter Tryz.func31, Tryz.ntmps31
      go_wp2
      go_ret
      exact ⟨⟨_, rfl⟩, Below.refl _ _⟩

/-! ### The chapter's example -/
def exF : Fo := .cons [97] [] true (.cons [98] [(5000, true)] false .nil .nil) .nil
def exL : List UInt8 := [97, 32, 123, 10, 32, 32, 98, 32, 53, 110, 115, 59, 10, 125, 10]
theorem ex_par : parF [97, 123, 98, 32, 53, 48, 48, 48, 112, 115, 59, 125] = .ok exF := by
  rw [parN_eq 12 _ (by decide)]
  decide +kernel
theorem ex_text : exF.text [] = exL := by decide +kernel
theorem ex_tidy : tdF [97, 123, 98, 32, 53, 48, 48, 48, 112, 115, 59, 125] = ⟨exL, ⟨0, 0⟩, 0⟩ := by
  unfold tdF
  rw [ex_par]
  simp only
  rw [ex_text]
  rfl
theorem ex_is : isB exL = true := by
  have h : parF exL = .ok exF := by
    rw [parN_eq 15 _ (by decide)]
    decide +kernel
  have ht : tdF exL = ⟨exL, ⟨0, 0⟩, 0⟩ := by
    unfold tdF
    rw [h]
    simp only
    rw [ex_text]
    rfl
  unfold isB
  rw [ht]
  decide
set_option maxRecDepth 100000 in
theorem live16_any (w : World) (hL : LaidW w) : Calls Tryz.prog 26 #[] w fun e w' => e = .returned (.bool true) ∧ Below w.heap.size w w' := by
  have HT := tidy_any ⟨#[97, 123, 98, 32, 53, 48, 48, 48, 112, 115, 59, 125]⟩ w hL (by decide)
  rw [show tdF (⟨#[97, 123, 98, 32, 53, 48, 48, 48, 112, 115, 59, 125]⟩ : ByteArray).data.toList = ⟨exL, ⟨0, 0⟩, 0⟩ from ex_tidy] at HT
  have HT := hid HT
  have HI := hid (fun w1 (hb : Below w.heap.size w w1) => by have := is_any (bA exL) w1 (hL.below hb) (by decide); rwa [show isB (bA exL).data.toList = true from ex_is] at this)
  have hx : Hid (bA exL = ⟨#[97, 32, 123, 10, 32, 32, 98, 32, 53, 110, 115, 59, 10, 125, 10]⟩) := hid rfl
  rw [hx.out] at HI
  simp only [tdV] at HT
  rw [hx.out] at HT
  clear hL hx
  go_enter Tryz.func26, Tryz.ntmps26
  go_wp2_with (first
    | (go_at_call 34; refine (HI.out w3 B3.out).mono ?_; rintro e w4 ⟨rfl, b4⟩; have B4 := hid (B3.out.trans (b4.mono B3.out.size)); clear b4)
    | (refine Sh.wp_sv plS (x := ⟨0, 0⟩) rfl (.tmp 2) (.tmp 7) rfl rfl (by rfl) q2 ?_; intro w3 q3 b3 o3 s3; have B3 := hid (B2.out.trans (b3.mono B1.out.size)); clear q3 b3 o3 s3 q2)
    | (refine Sh.wp_al plS rfl rfl ?_; intro w2 q2 b2 s2; have B2 := hid (B1.out.trans (b2.mono B1.out.size)); clear b2 s2)
    | (go_at_call 32; refine HT.out.mono ?_; rintro e w1 ⟨rfl, b1⟩; have B1 := hid b1; clear b1))
  go_ret
  exact ⟨rfl, B4.out⟩
end Go.Proofs.YtkfnkieljcipnaaGreatDoor
