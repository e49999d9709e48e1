/-
  The contract of the reader's block, given what its list tells, at every reader of at most a million tokens.
-/
import Derived.Test.YtinjhnflnfpoeaaGreatDoorPO
namespace Go.Proofs.YtinjhnflnfpoeaaGreatDoor
open Go Go.RowKit Go.Joins

/-- The reader has gone on from rest to r. -/
def Went (w' : World) (g b c : Nat) (pre rest : List Tk) (m : Nat) (r : List Tk) : Prop := ∃ p, rest = p ++ r ∧ Rd w' g b c (pre ++ p) r m
theorem Went.below {w w' : World} {g b c m : Nat} {pre rest r : List Tk} (h : Went w g b c pre rest m r) (hb : Below w.heap.size w w') : Went w' g b c pre rest m r := by
  obtain ⟨p, e, h⟩ := h; exact ⟨p, e, h.below hb⟩
theorem Went.more {w : World} {g b c m : Nat} {pre rest r q : List Tk} (h : Went w g b c (pre ++ q) rest m r) : Went w g b c pre (q ++ rest) m r := by
  obtain ⟨p, e, h⟩ := h; exact ⟨q ++ p, by rw [e, List.append_assoc], by rwa [← List.append_assoc]⟩
theorem Went.here {w : World} {g b c m : Nat} {pre rest : List Tk} (h : Rd w g b c pre rest m) : Went w g b c pre rest m rest := ⟨[], rfl, by rwa [List.append_nil]⟩
def SlPost (x : Res) (w : World) (g b c : Nat) (pre rest : List Tk) (e : Ending) (w' : World) : Prop :=
  Mov g w w' ∧ match x with
  | .ok f m r => Went w' g b c pre rest m r ∧ ∃ A k c', e = .returned (.tuple #[.slice A k c', .int .i64 0]) ∧ TrS w' (fun k => w.heap.size ≤ k ∧ k < w'.heap.size) A k f
  | .bad er r => (∃ m, Went w' g b c pre rest m r) ∧ (0 < er ∧ er ≤ 7) ∧ e = .returned (.tuple #[.slice none 0 0, .int .i64 (er : Nat)])
def smZ : Sm := ⟨[], none, 0, 0, false, none, 0, 0⟩
def SmPost (x : Res) (w : World) (g b c : Nat) (pre rest : List Tk) (e : Ending) (w' : World) : Prop :=
  Mov g w w' ∧ match x with
  | .ok f m r => Went w' g b c pre rest m r ∧ ∃ y : Sm, e = .returned (.tuple #[smV y, .int .i64 0]) ∧ Tr w' (fun k => w.heap.size ≤ k ∧ k < w'.heap.size) f [y]
  | .bad er r => (∃ m, Went w' g b c pre rest m r) ∧ (0 < er ∧ er ≤ 7) ∧ e = .returned (.tuple #[smV smZ, .int .i64 (er : Nat)])
/-- What list tells, with so much fuel. -/
def ListOk (n : Nat) : Prop := ∀ (deep : Nat) (w : World) (g b c many : Nat) (pre rest : List Tk), deep ≤ 6 → rest.length ≤ n → Rd w g b c pre rest many →
  Calls Tryz.prog 39 #[.pointer (some ⟨g, 0, none⟩), .int .i64 (deep : Nat)] w (SlPost (lstF n deep many rest) w g b c pre rest)
theorem sg_is (l m : List UInt8) : ((strB l).toList == m) = decide (l = m) := by
  rw [ByteArray.toList_eq, Bool.eq_iff_iff, beq_iff_eq, decide_eq_true_eq]
  exact Iff.rfl
theorem sg_ne {l m : List UInt8} (h : ¬ l = m) : ((strB l).toList == m) = false := (sg_is l m).trans (decide_eq_false h)
theorem sg_eq {l m : List UInt8} (h : l = m) : ((strB l).toList == m) = true := (sg_is l m).trans (decide_eq_true h)
def blkX (L : Nat → Nat → List Tk → Res) (d many : Nat) (s : Tk) (r : List Tk) : Res := if 6 < d then .bad 6 (s :: r) else blkF L d many r

set_option maxRecDepth 100000 in
theorem block_any {n : Nat} (hl : ListOk n) {d : Nat} {w : World} {g b c many : Nat} {pre r : List Tk} {s : Tk} (hd : d ≤ 1000) (hr : r.length ≤ n) (h : Rd w g b c pre (s :: r) many) :
    Calls Tryz.prog 72 #[.pointer (some ⟨g, 0, none⟩), .int .i64 (d : Nat)] w (SlPost (blkX (lstF n) d many s r) w g b c pre (s :: r)) := by
  have HG := hid (Nat.le_of_lt h.lt)
  have HR := hid h
  unfold blkX
  by_cases h6 : 6 < d
  · rw [if_pos h6]
    have h6' : (6 : Int) < d := by omega
    clear h
    go_enter Tryz.func72, Tryz.ntmps72
    go_wp2_with fail
    go_ret2
    exact ⟨Mov.refl _ _, ⟨many, .here HR.out⟩, ⟨by omega, by omega⟩, rfl⟩
  · rw [if_neg h6]
    have h6' : ¬ (6 : Int) < d := by omega
    have HL := hid (fun w1 h => hl d w1 g b c many (pre ++ [s]) r (by omega) hr h)
    unfold blkF
    have HS := hid (lst_short n d many r)
    generalize lstF n d many r = x at *
    have c1 := h.c1
    have f1 := h.free (j := 1) (by omega)
    have HGL := hid h.lt
    have HKD := hid (fun (t : Tk) (ht : t ∈ r) => h.kd t (by simp [ht]))
    have hkl : (pre.length : Int) ≤ 1000000 := by have := h.le; omega
    have hk0 : 0 ≤ (pre.length : Int) := by omega
    have HK := hid (show ∀ z : Int, z = (pre.length : Int) + 1 → _ from fun z hz => h.at1 (z := z) hz)
    clear h hl hd
    generalize (pre.length : Int) = q at *
    match x with
    | .bad er r2 =>
      show Calls _ _ _ w (SlPost (.bad er r2) w g b c pre (s :: r))
      go_enter Tryz.func72, Tryz.ntmps72
      go_upto_region 4 with fail
      obtain ⟨R1, M1⟩ := HK.out (q + 1) rfl
      have HL1 := hid (HL.out _ R1)
      have M1 := hid M1
      clear HL HK R1 c1 f1
      generalize w.setCell ⟨g, 1, none⟩ (.int .i64 (q + 1)) = w1 at *
      have HL2 : Hid (Calls Tryz.prog 39 #[.pointer (some ⟨g, 0, none⟩), .int .i64 (d : Nat)] w1 fun e w2 => Mov g w w2 ∧ (∃ m, Went w2 g b c pre (s :: r) m r2) ∧ (0 < er ∧ er ≤ 7) ∧ e = .returned (.tuple #[.slice none 0 0, .int .i64 (er : Nat)])) := hid (HL1.out.mono fun e w2 ⟨h1, ⟨m, h2⟩, h3, h4⟩ => ⟨M1.out.trans h1, ⟨m, h2.more⟩, h3, h4⟩)
      clear HL1 M1
      go_wp2_with (first
        | (go_at_call 39; refine HL2.out.mono ?_; rintro e w2 ⟨m2, h2, h3, rfl⟩; have X2 := hid (And.intro m2 h2); have X3 := hid h3; have hne : ((er : Int) == 0) = false := beq_eq_false_iff_ne.2 (by omega); clear m2 h2 h3))
      go_ret2
      exact ⟨X2.out.1, X2.out.2, X3.out, rfl⟩
    | .ok f m [] =>
      show Calls _ _ _ w (SlPost (.bad 3 ([])) w g b c pre (s :: r))
      go_enter Tryz.func72, Tryz.ntmps72
      go_upto_region 4 with fail
      obtain ⟨R1, M1⟩ := HK.out (q + 1) rfl
      have HL1 := hid (HL.out _ R1)
      have M1 := hid M1
      clear HL HK R1 c1 f1
      generalize w.setCell ⟨g, 1, none⟩ (.int .i64 (q + 1)) = w1 at *
      have HL2 : Hid (Calls Tryz.prog 39 #[.pointer (some ⟨g, 0, none⟩), .int .i64 (d : Nat)] w1 fun e w2 => ∃ A k c', e = .returned (.tuple #[.slice A k c', .int .i64 0]) ∧ Mov g w w2 ∧ Went w2 g b c pre (s :: r) m ([]) ∧ TrS w2 (fun k => w.heap.size ≤ k ∧ k < w2.heap.size) A k f) := hid (HL1.out.mono fun e w2 ⟨h1, h2, A, k, c', h3, h4⟩ => ⟨A, k, c', h3, M1.out.trans h1, h2.more, h4.mono fun _ h _ => ⟨Nat.le_trans M1.out.size h.1, h.2⟩⟩)
      clear HL1 M1
      go_upto_region 7 with (first
        | (go_at_call 39; refine HL2.out.mono ?_; rintro e w2 ⟨A, k, c', rfl, m2, h2, h3⟩; have M2 := hid m2; have hw := h2; have T2 := hid h3; clear m2 h2 h3))
      obtain ⟨p, hp, hrd⟩ := hw
      have hw : Went w2 g b c pre (s :: r) m ([]) := ⟨p, hp, hrd⟩
      have HW := hid hw
      have HN := hid (now_is hrd (v := .iface 74 (.agg #[])) rfl)
      have HX := hid (fun w' h => wrong_any (hrd.below (w' := w') h))
      have ha := as_es (.agg #[])
      clear hrd hw
      go_wp2_with (first
        | (go_at_call 71; refine (HX.out _ B3.out).mono ?_; rintro e w4 ⟨rfl, b4⟩; have B4 := hid (B3.out.trans (b4.mono B3.out.size)); clear b4)
        | (go_at_call 40; refine HN.out.mono ?_; rintro e w3 ⟨rfl, b3⟩; have B3 := hid b3; clear b3))
      go_ret2
      exact ⟨M2.out.then B4.out HG.out, ⟨m, HW.out.below B4.out⟩, ⟨by decide, by decide⟩, rfl⟩
    | .ok f m (t :: r3) =>
      rcases kinds t r3 with ⟨h1, hv⟩ | ⟨h2, hv⟩ | ⟨h1, h2, hv⟩
      · have e1 : (if t.kind = 3 ∧ t.s = [125] then Res.ok f m r3 else .bad 4 (t :: r3)) = .bad 4 (t :: r3) := if_neg (by omega)
        simp only [e1]
        show Calls _ _ _ w (SlPost (.bad 4 (t :: r3)) w g b c pre (s :: r))
        go_enter Tryz.func72, Tryz.ntmps72
        go_upto_region 4 with fail
        obtain ⟨R1, M1⟩ := HK.out (q + 1) rfl
        have HL1 := hid (HL.out _ R1)
        have M1 := hid M1
        clear HL HK R1 c1 f1
        generalize w.setCell ⟨g, 1, none⟩ (.int .i64 (q + 1)) = w1 at *
        have HL2 : Hid (Calls Tryz.prog 39 #[.pointer (some ⟨g, 0, none⟩), .int .i64 (d : Nat)] w1 fun e w2 => ∃ A k c', e = .returned (.tuple #[.slice A k c', .int .i64 0]) ∧ Mov g w w2 ∧ Went w2 g b c pre (s :: r) m (t :: r3) ∧ TrS w2 (fun k => w.heap.size ≤ k ∧ k < w2.heap.size) A k f) := hid (HL1.out.mono fun e w2 ⟨h1, h2, A, k, c', h3, h4⟩ => ⟨A, k, c', h3, M1.out.trans h1, h2.more, h4.mono fun _ h _ => ⟨Nat.le_trans M1.out.size h.1, h.2⟩⟩)
        clear HL1 M1
        go_upto_region 7 with (first
          | (go_at_call 39; refine HL2.out.mono ?_; rintro e w2 ⟨A, k, c', rfl, m2, h2, h3⟩; have M2 := hid m2; have hw := h2; have T2 := hid h3; clear m2 h2 h3))
        obtain ⟨p, hp, hrd⟩ := hw
        have hw : Went w2 g b c pre (s :: r) m (t :: r3) := ⟨p, hp, hrd⟩
        have HW := hid hw
        have HN := hid (now_is hrd hv)
        have HX := hid (fun w' h => wrong_any (hrd.below (w' := w') h))
        have ha := as_ws (.string (strB t.s))
        clear hrd hw
        go_wp2_with (first
          | (go_at_call 71; refine (HX.out _ B3.out).mono ?_; rintro e w4 ⟨rfl, b4⟩; have B4 := hid (B3.out.trans (b4.mono B3.out.size)); clear b4)
          | (go_at_call 40; refine HN.out.mono ?_; rintro e w3 ⟨rfl, b3⟩; have B3 := hid b3; clear b3))
        go_ret2
        exact ⟨M2.out.then B4.out HG.out, ⟨m, HW.out.below B4.out⟩, ⟨by decide, by decide⟩, rfl⟩
      · have e1 : (if t.kind = 3 ∧ t.s = [125] then Res.ok f m r3 else .bad 4 (t :: r3)) = .bad 4 (t :: r3) := if_neg (by omega)
        simp only [e1]
        show Calls _ _ _ w (SlPost (.bad 4 (t :: r3)) w g b c pre (s :: r))
        go_enter Tryz.func72, Tryz.ntmps72
        go_upto_region 4 with fail
        obtain ⟨R1, M1⟩ := HK.out (q + 1) rfl
        have HL1 := hid (HL.out _ R1)
        have M1 := hid M1
        clear HL HK R1 c1 f1
        generalize w.setCell ⟨g, 1, none⟩ (.int .i64 (q + 1)) = w1 at *
        have HL2 : Hid (Calls Tryz.prog 39 #[.pointer (some ⟨g, 0, none⟩), .int .i64 (d : Nat)] w1 fun e w2 => ∃ A k c', e = .returned (.tuple #[.slice A k c', .int .i64 0]) ∧ Mov g w w2 ∧ Went w2 g b c pre (s :: r) m (t :: r3) ∧ TrS w2 (fun k => w.heap.size ≤ k ∧ k < w2.heap.size) A k f) := hid (HL1.out.mono fun e w2 ⟨h1, h2, A, k, c', h3, h4⟩ => ⟨A, k, c', h3, M1.out.trans h1, h2.more, h4.mono fun _ h _ => ⟨Nat.le_trans M1.out.size h.1, h.2⟩⟩)
        clear HL1 M1
        go_upto_region 7 with (first
          | (go_at_call 39; refine HL2.out.mono ?_; rintro e w2 ⟨A, k, c', rfl, m2, h2, h3⟩; have M2 := hid m2; have hw := h2; have T2 := hid h3; clear m2 h2 h3))
        obtain ⟨p, hp, hrd⟩ := hw
        have hw : Went w2 g b c pre (s :: r) m (t :: r3) := ⟨p, hp, hrd⟩
        have HW := hid hw
        have HN := hid (now_is hrd hv)
        have HX := hid (fun w' h => wrong_any (hrd.below (w' := w') h))
        have ha := as_ns (.agg #[.int .i64 t.n, .bool t.time])
        clear hrd hw
        go_wp2_with (first
          | (go_at_call 71; refine (HX.out _ B3.out).mono ?_; rintro e w4 ⟨rfl, b4⟩; have B4 := hid (B3.out.trans (b4.mono B3.out.size)); clear b4)
          | (go_at_call 40; refine HN.out.mono ?_; rintro e w3 ⟨rfl, b3⟩; have B3 := hid b3; clear b3))
        go_ret2
        exact ⟨M2.out.then B4.out HG.out, ⟨m, HW.out.below B4.out⟩, ⟨by decide, by decide⟩, rfl⟩
      · by_cases hs : t.s = [125]
        · have e1 : (if t.kind = 3 ∧ t.s = [125] then Res.ok f m r3 else .bad 4 (t :: r3)) = (if t.kind = 3 then Res.ok f m r3 else .bad 4 (t :: r3)) := by simp only [hs, and_true]
          by_cases hk3 : t.kind = 3
          · rw [if_pos hk3] at e1
            simp only [e1]
            show Calls _ _ _ w (SlPost (.ok f m r3) w g b c pre (s :: r))
            go_enter Tryz.func72, Tryz.ntmps72
            go_upto_region 4 with fail
            obtain ⟨R1, M1⟩ := HK.out (q + 1) rfl
            have HL1 := hid (HL.out _ R1)
            have M1 := hid M1
            clear HL HK R1 c1 f1
            generalize w.setCell ⟨g, 1, none⟩ (.int .i64 (q + 1)) = w1 at *
            have HL2 : Hid (Calls Tryz.prog 39 #[.pointer (some ⟨g, 0, none⟩), .int .i64 (d : Nat)] w1 fun e w2 => ∃ A k c', e = .returned (.tuple #[.slice A k c', .int .i64 0]) ∧ Mov g w w2 ∧ Went w2 g b c pre (s :: r) m (t :: r3) ∧ TrS w2 (fun k => w.heap.size ≤ k ∧ k < w2.heap.size) A k f) := hid (HL1.out.mono fun e w2 ⟨h1, h2, A, k, c', h3, h4⟩ => ⟨A, k, c', h3, M1.out.trans h1, h2.more, h4.mono fun _ h _ => ⟨Nat.le_trans M1.out.size h.1, h.2⟩⟩)
            clear HL1 M1
            go_upto_region 7 with (first
              | (go_at_call 39; refine HL2.out.mono ?_; rintro e w2 ⟨A, k, c', rfl, m2, h2, h3⟩; have M2 := hid m2; have hw := h2; have T2 := hid h3; clear m2 h2 h3))
            obtain ⟨p, hp, hrd⟩ := hw
            have hw : Went w2 g b c pre (s :: r) m (t :: r3) := ⟨p, hp, hrd⟩
            have HN := hid (now_is hrd hv)
            have ha := as_ss (.string (strB t.s))
            have hsx := sg_eq hs
            clear hs e1
            have HB := hid (show ∀ w3, Below w2.heap.size w2 w3 → Rd w3 g b c (pre ++ p) (t :: r3) m from fun w3 h => hrd.below h)
            clear hrd hw
            go_upto_region 10 with (first
              | (go_at_call 40; refine HN.out.mono ?_; rintro e w3 ⟨rfl, b3⟩; have B3 := hid b3; clear b3))
            have R3 := HB.out _ B3.out
            have c1 := R3.c1
            have f1 := R3.free (j := 1) (by omega)
            have hkl : ((pre ++ p).length : Int) ≤ 1000000 := by have := R3.le; omega
            have HK := hid (show ∀ z : Int, z = ((pre ++ p).length : Int) + 1 → _ from fun z hz => R3.at1 (z := z) hz)
            clear R3 HB
            obtain ⟨q2, hq⟩ : ∃ q, (pre ++ p).length = q := ⟨_, rfl⟩
            rw [hq] at c1 hkl
            have HQ := hid hq
            clear hq
            go_wp2_with fail
            have R7 := HK.out ((q2 : Int) + 1) (by rw [HQ.out])
            go_ret2
            exact ⟨(M2.out.then B3.out HG.out).trans R7.2, ⟨p ++ [t], by rw [hp]; simp, by rw [← List.append_assoc]; exact R7.1⟩, A, k, c', rfl, ((T2.out.keep fun b hb hs => B3.out.block b hs).mov (R7.2) (fun b hb => Nat.lt_of_lt_of_le HGL.out hb.1)).mono fun b hb h => ⟨hb.1, h⟩⟩
          · exfalso
            obtain ⟨q, hq⟩ := HS.out
            rcases HKD.out t (by rw [hq]; simp) with h3 | h3 | h3
            · exact h1 h3
            · exact h2 h3
            · exact hk3 h3

        · have e1 : (if t.kind = 3 ∧ t.s = [125] then Res.ok f m r3 else .bad 4 (t :: r3)) = .bad 4 (t :: r3) := if_neg (fun h => hs h.2)
          simp only [e1]
          show Calls _ _ _ w (SlPost (.bad 4 (t :: r3)) w g b c pre (s :: r))
          go_enter Tryz.func72, Tryz.ntmps72
          go_upto_region 4 with fail
          obtain ⟨R1, M1⟩ := HK.out (q + 1) rfl
          have HL1 := hid (HL.out _ R1)
          have M1 := hid M1
          clear HL HK R1 c1 f1
          generalize w.setCell ⟨g, 1, none⟩ (.int .i64 (q + 1)) = w1 at *
          have HL2 : Hid (Calls Tryz.prog 39 #[.pointer (some ⟨g, 0, none⟩), .int .i64 (d : Nat)] w1 fun e w2 => ∃ A k c', e = .returned (.tuple #[.slice A k c', .int .i64 0]) ∧ Mov g w w2 ∧ Went w2 g b c pre (s :: r) m (t :: r3) ∧ TrS w2 (fun k => w.heap.size ≤ k ∧ k < w2.heap.size) A k f) := hid (HL1.out.mono fun e w2 ⟨h1, h2, A, k, c', h3, h4⟩ => ⟨A, k, c', h3, M1.out.trans h1, h2.more, h4.mono fun _ h _ => ⟨Nat.le_trans M1.out.size h.1, h.2⟩⟩)
          clear HL1 M1
          go_upto_region 7 with (first
            | (go_at_call 39; refine HL2.out.mono ?_; rintro e w2 ⟨A, k, c', rfl, m2, h2, h3⟩; have M2 := hid m2; have hw := h2; have T2 := hid h3; clear m2 h2 h3))
          obtain ⟨p, hp, hrd⟩ := hw
          have hw : Went w2 g b c pre (s :: r) m (t :: r3) := ⟨p, hp, hrd⟩
          have HW := hid hw
          have HN := hid (now_is hrd hv)
          have HX := hid (fun w' h => wrong_any (hrd.below (w' := w') h))
          have ha := as_ss (.string (strB t.s))
          have hsx := sg_ne hs
          clear hrd hw
          go_wp2_with (first
            | (go_at_call 71; refine (HX.out _ B3.out).mono ?_; rintro e w4 ⟨rfl, b4⟩; have B4 := hid (B3.out.trans (b4.mono B3.out.size)); clear b4)
            | (go_at_call 40; refine HN.out.mono ?_; rintro e w3 ⟨rfl, b3⟩; have B3 := hid b3; clear b3))
          go_ret2
          exact ⟨M2.out.then B4.out HG.out, ⟨m, HW.out.below B4.out⟩, ⟨by decide, by decide⟩, rfl⟩
end Go.Proofs.YtinjhnflnfpoeaaGreatDoor
