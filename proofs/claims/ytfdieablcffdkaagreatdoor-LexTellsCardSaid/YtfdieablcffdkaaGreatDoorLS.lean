/-
  The contract of the law functions' bare: tokens without the text of a number; for a slice that reads as a list of at most 65536.
-/
import Derived.Test.YtfdieablcffdkaaGreatDoorLK
import Derived.Deep.RegionHeld3
import Derived.Deep.RegionWith
namespace Go.Proofs.YtfdieablcffdkaaGreatDoor
open Go Go.RowKit Go.Joins

def bareT (t : Tk) : Tk := if t.kind = 2 then ⟨t.kind, [], t.n, t.time⟩ else t
theorem tk_bare {w : World} {g : Nat} {t : Tk} (h : tkS.Var w g t) : tkS.Var (w.setCell ⟨g, 1, none⟩ (.string ⟨#[]⟩)) g ⟨t.kind, [], t.n, t.time⟩ ∧ Below g w (w.setCell ⟨g, 1, none⟩ (.string ⟨#[]⟩)) := by
  show tkS.Var (w.setCells g 1 [.string ⟨#[]⟩]) g _ ∧ Below g w (w.setCells g 1 [.string ⟨#[]⟩])
  have h0 : w.rangeAt g 0 [.int .i64 t.kind] := fun j v hj => by
    obtain rfl : j = 0 := by have := (List.getElem?_eq_some_iff.1 hj).1; simp at this; exact this
    exact h.1 0 v hj
  have h2 : w.rangeAt g 2 [.int .i64 t.n, .bool t.time] := fun j v hj => by
    have := h.1 (j + 2) v hj
    rwa [show 0 + (j + 2) = 2 + j by omega] at this
  have a0 := World.rangeAt_setCells_apart h0 g 1 [.string ⟨#[]⟩] (.inr (.inl (by simp)))
  have a2 := World.rangeAt_setCells_apart h2 g 1 [.string ⟨#[]⟩] (.inr (.inr (by simp)))
  have a1 := World.rangeAt_setCells_same w g 1 [.string ⟨#[]⟩] (fun j hj => by
    obtain rfl : j = 0 := by simp at hj; exact hj
    exact h.2 1 (by show 1 < 4; omega))
  refine ⟨⟨fun j v hj => ?_, World.there_setCells h.2 g 1 _⟩, (setCells_oth g _ _ _).1⟩
  match j, hj with
  | 0, hj => exact a0 0 v hj
  | 1, hj => exact a1 0 v hj
  | 2, hj => exact a2 0 v hj
  | 3, hj => exact a2 1 v hj

set_option maxHeartbeats 1000000 in
set_option maxRecDepth 100000 in
theorem bare_any (A : Option Addr) (n c B : Nat) (ts : List Tk) (w : World) (hr : tkS.Rw w B A n ts) (hB : B ≤ w.heap.size) (hn : n ≤ 65536) :
    Calls Tryz.prog 17 #[.slice A n c] w fun e w' => ∃ A' c', e = .returned (.slice A' n c') ∧ tkS.Ow w' w.heap.size A' n c' (ts.map bareT) ∧ Below w.heap.size w w' := by
  have HR := hid hr
  have HLN := hid hr.1
  clear hr
  go_enter Tryz.func17, Tryz.ntmps17
  go_wp2
  go_loopw [3, 8] (fun v3 v8 wr => ∃ (k : Nat) (A' : Option Addr) (c' : Nat), v3 = .slice A' k c' ∧ v8 = .int .i64 (k : Nat) ∧ k ≤ n ∧ tkS.Ow wr w.heap.size A' k c' ((ts.take k).map bareT) ∧ Below w.heap.size w wr) (fun _ v8 _ => n - (intOf v8).toNat)
  case atStart => exact ⟨0, none, 0, rfl, rfl, Nat.zero_le _, Sh.Ow.nil _ _, Below.refl _ _⟩
  case round =>
    obtain ⟨k, A', c', rfl, rfl, hk, how, hbel⟩ := hrel
    have BW := hid hbel
    have OW := hid how
    by_cases hlt : k < n
    · obtain ⟨b, o, rfl, hb, hc⟩ := (HR.out.below (hbel.mono hB)).at_ hlt
      have hg : ts[k]? = some (tkS.nth ts k) := Sh.nth_get tkS (by rw [HLN.out]; exact hlt)
      have HT : Hid (ts.take (k + 1) = ts.take k ++ [tkS.nth ts k]) := hid (by rw [List.take_add_one, hg]; rfl)
      generalize tkS.nth ts k = t at *
      have r1 : wr.rangeAt b (o + k * 4) (tkS.enc t) := hc
      clear hc hbel how hg
      by_cases h2 : t.kind = 2
      · have hbt : bareT t = ⟨t.kind, [], t.n, t.time⟩ := if_pos h2
        have hk2 : (t.kind == 2) = true := beq_iff_eq.2 h2
        go_upto_region 7 with (first
          | (refine Sh.wp_sv tkS (x := t) rfl (.tmp 5) (.tmp 11) rfl rfl (by rfl) q2 ?_; intro w3 q3 b3 o3 _; have c0 : w3.cell? ⟨wr.heap.size, 0, none⟩ = some (.int .i64 t.kind) := q3.cell (j := 0) rfl; have c1 : w3.cell? ⟨wr.heap.size, 1, none⟩ = some (.string (strB t.s)) := q3.cell (j := 1) rfl; have f1 : w3.frozen? ⟨wr.heap.size, 1, none⟩ = false := q3.free (j := 1) (by show 1 < 4; omega); have Q3 := hid q3; have B3 := hid (b2.trans (b3.mono (Nat.le_refl _))); clear q2 b2 b3 o3)
          | (refine Sh.wp_al tkS rfl rfl ?_; intro w2 q2 b2 s2; clear s2)
          | (refine Sh.wp_ld tkS rfl (.tmp 10) rfl rfl r1 ?_))
        have V5 := (tk_bare Q3.out).1
        rw [← hbt] at V5
        have V5 := hid V5
        have BV := hid (B3.out.trans (tk_bare Q3.out).2)
        have B5 := hid (BW.out.trans (BV.out.mono BW.out.size))
        clear Q3 hbt c0 c1 f1 B3
        generalize w3.setCell ⟨wr.heap.size, 1, none⟩ (.string ⟨#[]⟩) = w5 at *
        have hle : w.heap.size ≤ w5.heap.size := Nat.le_trans BW.out.size BV.out.size
        have O5 := hid (OW.out.below BV.out)
        have hn6 : k ≤ 1000000 := by omega
        obtain ⟨⟨tk, tss, tn, tt⟩, ht'⟩ : ∃ t', t' = bareT t := ⟨_, rfl⟩
        have HBT := hid ht'.symm
        rw [← ht'] at V5
        clear ht'
        have hb5 : w.heap.size ≤ w5.heap.size := hle
        go_wp2_with (first
          | (refine Sh.wp_push tkS (A := A') (c := c') (l := (ts.take k).map bareT) (base := w.heap.size) (x := ⟨tk, tss, tn, tt⟩) rfl (.tmp 16) (.tmp 18) rfl rfl (O5.out.alloc _) rfl (range_new w5 _ _) hn6 (Nat.le_trans hb5 (by simp)) ?_; intro A6 c6 w6 own6 gr6; have B6 := hid (B5.out.trans (((Below.refl _ _).alloc hb5 _).trans (Sh.grown_below tkS (O5.out.alloc _) (Nat.le_trans hb5 (by simp)) gr6))); have O6 := hid own6; clear own6 gr6)
          | (refine Sh.wp_bs tkS (x := ⟨tk, tss, tn, tt⟩) rfl (.tmp 17) rfl rfl ?_)
          | (refine Sh.wp_ld tkS rfl (.tmp 5) rfl rfl V5.out.1 ?_))
        go_roundw
        case rel => exact ⟨k + 1, A6, c6, rfl, by go_num, by omega, by rw [HT.out, List.map_append, List.map_singleton, HBT.out]; exact O6.out, B6.out⟩
        case measure => simp [intOf]; omega
      · have hbt : bareT t = t := if_neg h2
        have hk2 : (t.kind == 2) = false := beq_eq_false_iff_ne.2 h2
        go_upto_region 7 with (first
          | (refine Sh.wp_sv tkS (x := t) rfl (.tmp 5) (.tmp 11) rfl rfl (by rfl) q2 ?_; intro w3 q3 b3 o3 _; have c0 : w3.cell? ⟨wr.heap.size, 0, none⟩ = some (.int .i64 t.kind) := q3.cell (j := 0) rfl; have B3 := hid (b2.trans (b3.mono (Nat.le_refl _))); clear q2 b2 b3 o3)
          | (refine Sh.wp_al tkS rfl rfl ?_; intro w2 q2 b2 s2; clear s2)
          | (refine Sh.wp_ld tkS rfl (.tmp 10) rfl rfl r1 ?_))
        have V5 := q3
        rw [← hbt] at V5
        have V5 := hid V5
        have BV := hid B3.out
        have B5 := hid (BW.out.trans (BV.out.mono BW.out.size))
        clear q3 hbt c0
        generalize w3 = w5 at *
        have hle : w.heap.size ≤ w5.heap.size := Nat.le_trans BW.out.size BV.out.size
        have O5 := hid (OW.out.below BV.out)
        have hn6 : k ≤ 1000000 := by omega
        obtain ⟨⟨tk, tss, tn, tt⟩, ht'⟩ : ∃ t', t' = bareT t := ⟨_, rfl⟩
        have HBT := hid ht'.symm
        rw [← ht'] at V5
        clear ht'
        have hb5 : w.heap.size ≤ w5.heap.size := hle
        go_wp2_with (first
          | (refine Sh.wp_push tkS (A := A') (c := c') (l := (ts.take k).map bareT) (base := w.heap.size) (x := ⟨tk, tss, tn, tt⟩) rfl (.tmp 16) (.tmp 18) rfl rfl (O5.out.alloc _) rfl (range_new w5 _ _) hn6 (Nat.le_trans hb5 (by simp)) ?_; intro A6 c6 w6 own6 gr6; have B6 := hid (B5.out.trans (((Below.refl _ _).alloc hb5 _).trans (Sh.grown_below tkS (O5.out.alloc _) (Nat.le_trans hb5 (by simp)) gr6))); have O6 := hid own6; clear own6 gr6)
          | (refine Sh.wp_bs tkS (x := ⟨tk, tss, tn, tt⟩) rfl (.tmp 17) rfl rfl ?_)
          | (refine Sh.wp_ld tkS rfl (.tmp 5) rfl rfl V5.out.1 ?_))
        go_roundw
        case rel => exact ⟨k + 1, A6, c6, rfl, by go_num, by omega, by rw [HT.out, List.map_append, List.map_singleton, HBT.out]; exact O6.out, B6.out⟩
        case measure => simp [intOf]; omega
    · obtain rfl : k = n := by omega
      rw [List.take_of_length_le (by rw [HLN.out]; omega)] at how
      have OX := hid how
      clear how hbel OW
      go_wp2
      go_ret
      exact ⟨A', c', rfl, OX.out, BW.out⟩
end Go.Proofs.YtfdieablcffdkaaGreatDoor
