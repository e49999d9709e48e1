/-
  The walk of PrintOnce: it is true; under: the tables hold what the program lays.
-/
import Derived.Test.YtkfnkieljcipnaaGreatDoorZWH
import Derived.Test.YtkfnkieljcipnaaGreatDoorZWI
import Derived.Test.YtkfnkieljcipnaaGreatDoorK8
import Derived.Deep.QuietTactic
import Derived.BigQuiet
namespace Go.Proofs.YtkfnkieljcipnaaGreatDoor
open Go Go.RowKit Go.Joins

theorem cut_is {l : List UInt8} {f : Fo} (h : parF l = .ok f) : l.length ≤ 65536 ∧ (cutL l false firstP).2 = none := by
  unfold parF at h
  split at h
  · cases h
  rename_i h1
  refine ⟨by omega, ?_⟩
  split at h
  · cases h
  · assumption
theorem may_cut (s : ByteArray) (w : World) (hL : LaidW w) {f : Fo} (h : parF s.data.toList = .ok f) : Calls Tryz.prog 35 #[.string s] w fun e w' => Below w.heap.size w w' ∧ ∃ n A c A2 c2, n ≤ 65536 ∧ (toksF s.data.toList).length = n ∧ e = .returned (.tuple #[.slice A n c, .slice A2 n c2, plV ⟨0, 0⟩, .int .i64 0]) ∧ tkS.Ow w' w.heap.size A n c (toksF s.data.toList) := by
  obtain ⟨h1, h2⟩ := cut_is h
  have hs : s.size ≤ 65536 := h1
  refine (lcut_any s w hL (by omega)).mono ?_
  rintro e w' ⟨hb, ⟨h3, _⟩ | ⟨_, p, f, h3, _⟩ | ⟨_, _, n, A, c, A2, c2, hn, hn2, rfl, ht, _⟩⟩
  · omega
  · rw [h2] at h3; cases h3
  · exact ⟨hb, n, A, c, A2, c2, by omega, by rw [toksF, List.length_map]; exact hn, rfl, ht⟩
/-! ### What is wrong has a number -/
def ErrP : Res → Prop
  | .ok _ _ _ => True
  | .bad e _ => e ≠ 0
theorem blk_err {L : Nat → Nat → List Tk → Res} (hL : ∀ d m ts, ErrP (L d m ts)) (d m : Nat) (ts : List Tk) : ErrP (blkF L d m ts) := by
  unfold blkF
  have := hL d m ts
  generalize L d m ts = X at *
  match X with
  | .bad e r => exact this
  | .ok f m r =>
    match r with
    | [] => exact (by decide : (3 : Nat) ≠ 0)
    | c :: r3 =>
      simp only
      split
      · trivial
      · exact (by decide : (4 : Nat) ≠ 0)
theorem end_err {L : Nat → Nat → List Tk → Res} (hL : ∀ d m ts, ErrP (L d m ts)) (wd : List UInt8) (ns : List (Int × Bool)) (d m : Nat) (ts : List Tk) : ErrP (endF L wd ns d m ts) := by
  unfold endF
  match ts with
  | [] => exact (by decide : (3 : Nat) ≠ 0)
  | s :: r2 =>
    simp only
    split
    · exact (by decide : (4 : Nat) ≠ 0)
    split
    · trivial
    split
    · split
      · exact (by decide : (6 : Nat) ≠ 0)
      · have hb := blk_err hL (d + 1) m r2
        generalize blkF L (d + 1) m r2 = X at *
        match X with
        | .bad e r => exact hb
        | .ok f m r => trivial
    · exact (by decide : (4 : Nat) ≠ 0)
theorem lst_err : ∀ (n d m : Nat) (ts : List Tk), ErrP (lstF n d m ts)
  | 0, _, _, _ => trivial
  | n + 1, d, m, [] => trivial
  | n + 1, d, m, t :: r => by
    by_cases h1 : t.kind = 1
    · rw [lst_word n d m t r h1]
      have hs : ErrP (stmX (lstF n) d m t r) := by
        unfold stmX
        split
        · exact (by decide : (7 : Nat) ≠ 0)
        · unfold stmF
          split
          · exact end_err (lst_err n) _ _ _ _ _
          · exact (by decide : (7 : Nat) ≠ 0)
      generalize stmX (lstF n) d m t r = X at *
      match X with
      | .bad e r => exact hs
      | .ok x m2 r2 =>
        simp only
        have := lst_err n d m2 r2
        generalize lstF n d m2 r2 = Y at *
        match Y with
        | .bad e r => exact this
        | .ok f m r => trivial
    · rw [lstF, if_neg h1]; trivial
theorem par_err {l : List UInt8} {p : Pl} {e : Nat} (h : parF l = .bad p e) : e ≠ 0 := by
  unfold parF at h
  split at h
  · cases h; decide
  split at h
  · rename_i q f hq
    cases h
    have := ((cutK _ _ false firstP (Nat.le_refl _)).1 p e hq).1
    omega
  · cases ha : allF (toksF l) with
    | ok f m r => rw [ha] at h; cases h
    | bad er r =>
      rw [ha] at h
      cases h
      have h2 := lst_err (toksF l).length 1 0 (toksF l)
      unfold allF at ha
      generalize lstF (toksF l).length 1 0 (toksF l) = X at *
      match X with
      | .bad e r2 => cases ha; exact h2
      | .ok f m [] => cases ha
      | .ok f m (c :: r2) => cases ha; decide
theorem td_bad {l : List UInt8} (h : (tdF l).e ≠ 0) : (tdF l).s = [] := by
  unfold tdF at h ⊢
  split
  · rfl
  · rename_i f hf
    rw [hf] at h
    simp only at h ⊢
    split
    · rfl
    · rename_i hl; rw [if_neg hl] at h; exact absurd rfl h
theorem td_ok {l : List UInt8} (h : (tdF l).e = 0) : ∃ f, parF l = .ok f ∧ (f.text []).length ≤ 65536 ∧ tdF l = ⟨f.text [], ⟨0, 0⟩, 0⟩ := by
  cases hp : parF l with
  | bad p e =>
    have h2 : tdF l = ⟨[], p, e⟩ := by unfold tdF; rw [hp]
    rw [h2] at h
    exact absurd h (par_err hp)
  | ok f =>
    by_cases hl : 65536 < (f.text []).length
    · have h2 : tdF l = ⟨[], firstP, 6⟩ := by unfold tdF; rw [hp]; simp only; rw [if_pos hl]
      rw [h2] at h
      cases h
    · exact ⟨f, rfl, by omega, by unfold tdF; rw [hp]; simp only; rw [if_neg hl]⟩
theorem text_tidy {f : Fo} (h : f.okA 6) (hc : f.count ≤ 2000) (hl : (f.text []).length ≤ 65536) : tdF (f.text []) = ⟨f.text [], ⟨0, 0⟩, 0⟩ := by
  unfold tdF
  rw [text_par h hc hl]
  simp only
  rw [if_neg (by omega)]
theorem text_inj {f g : Fo} (h : f.okA 6) (hc : f.count ≤ 2000) (hl : (f.text []).length ≤ 65536) (h2 : g.okA 6) (hc2 : g.count ≤ 2000) (hl2 : (g.text []).length ≤ 65536) : decide (f.text [] = g.text []) = decide (f = g) := by
  rw [Bool.eq_iff_iff, decide_eq_true_eq, decide_eq_true_eq]
  refine ⟨fun e => ?_, fun e => by rw [e]⟩
  have h3 := text_par h hc hl
  rw [e, text_par h2 hc2 hl2] at h3
  injection h3 with h3
  exact h3.symm
theorem bareN_eq {x y : Tk} (h : bareN x = bareN y) : (x.kind = 2 → y = ⟨2, y.s, x.n, x.time⟩) ∧ (¬ x.kind = 2 → x = y) := by
  unfold bareN at h
  obtain ⟨k, s, n, t⟩ := x
  obtain ⟨k2, s2, n2, t2⟩ := y
  simp only at h ⊢
  by_cases h1 : k = 2 <;> by_cases h2 : k2 = 2
  · rw [if_pos h1, if_pos h2] at h
    injection h with _ _ e1 e2
    subst h1 h2 e1 e2
    exact ⟨fun _ => rfl, fun h => absurd rfl h⟩
  · rw [if_pos h1, if_neg h2] at h
    injection h with e1
    exact absurd e1.symm h2
  · rw [if_neg h1, if_pos h2] at h
    injection h with e1
    exact absurd e1 h1
  · rw [if_neg h1, if_neg h2] at h
    exact ⟨fun e => absurd e h1, fun _ => h⟩
set_option maxHeartbeats 4000000 in
set_option maxRecDepth 100000 in
theorem once_bad (s t : ByteArray) (w : World) (hL : LaidW w) (hs : s.size ≤ 9223372036854775807) (ht : t.size ≤ 9223372036854775807) (he : (tdF s.data.toList).e ≠ 0) :
    Calls Tryz.prog 9 #[.string s, .string t] w fun e w' => e = .returned (.bool true) ∧ Below w.heap.size w w' := by
  have HV := hid (live16_any w hL)
  have HF := hid (fun z w => few16_any z w)
  have HS := hid (fun w1 (hb : Below w.heap.size w w1) => tidy_any s w1 (hL.below hb) hs)
  have HT := hid (fun w1 (hb : Below w.heap.size w w1) => tidy_any t w1 (hL.below hb) ht)
  have hbd := td_bad he
  clear hL hs ht
  generalize tdF s.data.toList = D at *
  generalize tdF t.data.toList = D2 at *
  obtain ⟨q, p, er⟩ := D
  obtain ⟨q2, p2, er2⟩ := D2
  simp only [tdV] at HS HT he hbd
  subst hbd
  have hx : bA [] = ⟨#[]⟩ := rfl
  rw [hx] at HS
  have hne : ((er : Int) != 0) = true := by simp; omega
  have hn0 : ¬ er = 0 := he
  clear he hx
  go_enter Tryz.func9, Tryz.ntmps9
  go_wp2_with (go_at_call 26; refine HV.out.mono ?_; rintro e w1 ⟨rfl, g1⟩; have B1 := hid g1; clear g1)
  go_at_call 31
  refine (HF.out s w1).mono ?_
  rintro e w2 ⟨⟨b, rfl⟩, g2⟩
  have B2 := hid (B1.out.trans (g2.mono B1.out.size))
  clear g2
  cases b
  · go_wp2_with fail
    go_ret
    exact ⟨rfl, B2.out⟩
  go_wp2_with fail
  go_at_call 31
  refine (HF.out t w2).mono ?_
  rintro e w3 ⟨⟨b, rfl⟩, g3⟩
  have B3 := hid (B2.out.trans (g3.mono B2.out.size))
  clear g3
  cases b
  · go_wp2_with fail
    go_ret
    exact ⟨rfl, B3.out⟩
  go_wp2_with (first
    | (refine Sh.wp_sv plS (x := p2) rfl (.tmp 10) (.tmp 50) rfl rfl (by rfl) q8 ?_; intro w9 q b o s; have B9 := hid (B8.out.trans (b.mono B7.out.size)); clear q b o s q8)
    | (refine Sh.wp_al plS rfl rfl ?_; intro w8 q8 b s; have B8 := hid (B7.out.trans (b.mono B7.out.size)); clear b s)
    | (go_at_call 32; refine (HT.out w6 B6.out).mono ?_; rintro e w7 ⟨rfl, b⟩; have B7 := hid (B6.out.trans (b.mono B6.out.size)); clear b)
    | (refine Sh.wp_sv plS (x := p) rfl (.tmp 7) (.tmp 44) rfl rfl (by rfl) q5 ?_; intro w6 q b o s; have B6 := hid (B5.out.trans (b.mono B4.out.size)); clear q b o s q5)
    | (refine Sh.wp_al plS rfl rfl ?_; intro w5 q5 b s; have B5 := hid (B4.out.trans (b.mono B4.out.size)); clear b s)
    | (go_at_call 32; refine (HS.out w3 B3.out).mono ?_; rintro e w4 ⟨rfl, b⟩; have B4 := hid (B3.out.trans (b.mono B3.out.size)); clear b))
  go_ret
  exact ⟨rfl, B9.out⟩
end Go.Proofs.YtkfnkieljcipnaaGreatDoor
