/-
  Contracts of the document's own Line and of print.Line; under: the tables hold what the program lays; forests of at most 209,715 statements.
-/
import Derived.Test.YtkfnkieljcipnaaGreatDoorZXC
import Derived.Test.YtkfnkieljcipnaaGreatDoorZWF
namespace Go.Proofs.YtkfnkieljcipnaaGreatDoor
open Go Go.RowKit Go.Joins

/-- A statement's own forest, in a slice made of it. -/
theorem one_tree {w : World} {K : Nat → Prop} {x : Sm} {ns : List (Int × Bool)} {y : Fo} (hns : RwP nmS w K x.nA x.nn ns) (hy : TrS w K x.bA x.bn y) (hK : ∀ k, K k → k < w.heap.size) :
    TrS (w.alloc (.cells (smS.enc x).toArray smS.T)) (fun k => k < (w.alloc (.cells (smS.enc x).toArray smS.T)).heap.size) (some ⟨w.heap.size, 0, none⟩) 1 (.cons x.word ns x.block y .nil) := by
  have hb : Below w.heap.size w (w.alloc (.cells (smS.enc x).toArray smS.T)) := (Below.refl _ _).alloc (Nat.le_refl _) _
  have hs : (w.alloc (.cells (smS.enc x).toArray smS.T)).heap.size = w.heap.size + 1 := by simp
  refine ⟨[x], ⟨rfl, fun _ => ⟨w.heap.size, 0, rfl, by omega, fun j u hu => ?_⟩⟩, x, [], rfl, rfl, rfl, (hns.below hb).mono fun k hk _ => by have := hK k hk; omega, ?_, rfl⟩
  · rw [Nat.zero_add]
    have hu : (smS.enc x)[j]? = some u := by simpa [Sh.flat] using hu
    have := range_new w (smS.enc x) smS.T j u hu
    rwa [Nat.zero_add] at this
  · obtain ⟨ys, h1, h2⟩ := (hy.below hb).mono (P' := fun k => k < (w.alloc (.cells (smS.enc x).toArray smS.T)).heap.size) fun k hk _ => by have := hK k hk; omega
    exact ⟨ys, h1, h2⟩
def oneF (x : Sm) (ns : List (Int × Bool)) (y : Fo) : Fo := .cons x.word ns x.block y .nil
/-- What Line tells: the text and the error. -/
def liT (x : Sm) (ns : List (Int × Bool)) (y : Fo) : List UInt8 := if chkE (oneF x ns y) = 0 then lineF x.word ns x.block else []
theorem li_ok {x : Sm} {ns : List (Int × Bool)} {y : Fo} (h : chkE (oneF x ns y) = 0) : fitB x.word ns x.block y.len = true ∧ liT x ns y = lineF x.word ns x.block := by
  obtain ⟨h1, _⟩ := chk_ok h
  exact ⟨h1.1, by unfold liT; rw [if_pos h]⟩
theorem li_no {x : Sm} {ns : List (Int × Bool)} {y : Fo} (h : chkE (oneF x ns y) = 1) : liT x ns y = [] := by unfold liT; rw [if_neg (by omega)]
def OneAt (g : Nat) (x : Sm) (ns : List (Int × Bool)) (y : Fo) : Prop := ∀ (w : World) (A : Option Addr) (c : Nat), TrS w (fun k => k < w.heap.size) A 1 (oneF x ns y) → Calls Tryz.prog g #[.slice A 1 c] w fun e w' => e = .returned (.int .i64 (chkE (oneF x ns y) : Nat)) ∧ Below w.heap.size w w'

set_option maxHeartbeats 2000000 in
set_option maxRecDepth 100000 in
theorem pline_any (x : Sm) (ns : List (Int × Bool)) (y : Fo) (w : World) (K : Nat → Prop) (hL : LaidW w) (hns : RwP nmS w K x.nA x.nn ns) (hy : TrS w K x.bA x.bn y) (hK : ∀ k, K k → k < w.heap.size) (hc : OneAt 20 x ns y) :
    Calls Tryz.prog 29 #[smV x] w fun e w' => e = .returned (.tuple #[.string (bA (liT x ns y)), .int .i64 (chkE (oneF x ns y) : Nat)]) ∧ Below w.heap.size w w' := by
  have HC := hid hc
  have HL := hid hL
  have HK := hid hK
  have HNS := hid (fun w1 (hb : Below w.heap.size w w1) => hns.below hb)
  have HY := hid (fun w1 (hb : Below w.heap.size w w1) => hy.below hb)
  clear hc hL hK hns hy
  rcases chk_01 (oneF x ns y) with h0 | h1
  · obtain ⟨hfit, hT⟩ := li_ok h0
    rw [hT, h0]
    have HC := hid (fun w A c t => by have := HC.out w A c t; rwa [h0] at this)
    have hll := line_len hfit
    obtain ⟨_, hn8, hfar, _⟩ := fit_of hfit
    have HF := hid (And.intro hll (And.intro hn8 hfar))
    clear hT h0 hfit hll hn8 hfar
    obtain ⟨xw, xA, xn, xc, xb, xB, xm, xk⟩ := x
    simp only at HNS HY
    go_enter Tryz.func29, Tryz.ntmps29
    go_upto_region 1 with (first
      | (refine Sh.wp_box smS (x := ⟨xw, xA, xn, xc, xb, xB, xm, xk⟩) rfl (.tmp 0) rfl rfl ?_; intro w1 v1 b1 s1; have V1 := hid v1; have B1 := hid b1; clear v1 b1 s1))
    have HO := hid (one_tree (x := ⟨xw, xA, xn, xc, xb, xB, xm, xk⟩) (HNS.out w1 B1.out) (HY.out w1 B1.out) (fun k hk => Nat.lt_of_lt_of_le (HK.out k hk) B1.out.size))
    have BA := hid (show Below w.heap.size w (w1.alloc (.cells (smS.enc ⟨xw, xA, xn, xc, xb, xB, xm, xk⟩).toArray smS.T)) from B1.out.alloc B1.out.size _)
    have VA := hid (show smS.Var (w1.alloc (.cells (smS.enc ⟨xw, xA, xn, xc, xb, xB, xm, xk⟩).toArray smS.T)) w.heap.size ⟨xw, xA, xn, xc, xb, xB, xm, xk⟩ from V1.out.keep ((Below.refl _ _).alloc (Nat.le_refl _) _))
    go_upto_region 4 with (first
      | (go_at_call 20; refine (HC.out _ _ _ HO.out).mono ?_; rintro e w2 ⟨rfl, b⟩; have B2 := hid (BA.out.trans (b.mono BA.out.size)); have V2 := hid (VA.out.keep b); clear b)
      | (refine Sh.wp_bs smS rfl (.tmp 6) (x := ⟨xw, xA, xn, xc, xb, xB, xm, xk⟩) rfl rfl ?_)
      | (refine Sh.wp_ld smS rfl (.tmp 1) rfl rfl V1.out.1 ?_))
    have r2 := V2.out.1
    go_upto_region 6 with (first
      | (go_at_call 53; refine (line_any ⟨xw, xA, xn, xc, xb, xB, xm, xk⟩ ns w3 w2.heap.size w2.heap.size [] K P3.out (fun wx hx => HL.out.below (B2.out.trans ((B3.out.trans hx).mono B2.out.size))) (HNS.out w3 (B2.out.trans (B3.out.mono B2.out.size))) (fun k hk => Nat.lt_of_lt_of_le (HK.out k hk) B2.out.size) (far_of HF.out.2.2) (by have := HF.out.2.1; omega) (by have := HF.out.1; simp only [List.length_nil]; omega)).mono ?_; rintro e w4 ⟨rfl, p4, m4⟩; have P4 := hid p4; have B4 := hid (B2.out.trans ((B3.out.trans m4.bel).mono B2.out.size)); clear p4 m4)
      | (refine Sh.wp_ld smS rfl (.tmp 1) rfl rfl (V2.out.keep B3.out).1 ?_)
      | (refine wp_alp rfl rfl ?_; intro w3 p3 b3 s3; have P3 := hid p3; have B3 := hid b3; clear p3 b3 s3))
    have P4 := hid (show PB w4 w2.heap.size w2.heap.size (lineF xw ns xb) from P4.out)
    go_wp2_with (go_at_call 51; refine (pstr_any P4.out).mono ?_; rintro e w5 ⟨rfl, b⟩; have B5 := hid (B4.out.trans (b.mono B2.out.size)); clear b)
    go_ret2
    exact ⟨rfl, B5.out⟩
  · rw [li_no h1, h1]
    have HC := hid (fun w A c t => by have := HC.out w A c t; rwa [h1] at this)
    clear h1
    obtain ⟨xw, xA, xn, xc, xb, xB, xm, xk⟩ := x
    simp only at HNS HY
    go_enter Tryz.func29, Tryz.ntmps29
    go_upto_region 1 with (first
      | (refine Sh.wp_box smS (x := ⟨xw, xA, xn, xc, xb, xB, xm, xk⟩) rfl (.tmp 0) rfl rfl ?_; intro w1 v1 b1 s1; have V1 := hid v1; have B1 := hid b1; clear v1 b1 s1))
    have HO := hid (one_tree (x := ⟨xw, xA, xn, xc, xb, xB, xm, xk⟩) (HNS.out w1 B1.out) (HY.out w1 B1.out) (fun k hk => Nat.lt_of_lt_of_le (HK.out k hk) B1.out.size))
    have BA := hid (show Below w.heap.size w (w1.alloc (.cells (smS.enc ⟨xw, xA, xn, xc, xb, xB, xm, xk⟩).toArray smS.T)) from B1.out.alloc B1.out.size _)
    go_upto_region 3 with (first
      | (go_at_call 20; refine (HC.out _ _ _ HO.out).mono ?_; rintro e w2 ⟨rfl, b⟩; have B2 := hid (BA.out.trans (b.mono BA.out.size)); clear b)
      | (refine Sh.wp_bs smS rfl (.tmp 6) (x := ⟨xw, xA, xn, xc, xb, xB, xm, xk⟩) rfl rfl ?_)
      | (refine Sh.wp_ld smS rfl (.tmp 1) rfl rfl V1.out.1 ?_))
    go_wp2_with fail
    go_ret2
    exact ⟨rfl, B2.out⟩
end Go.Proofs.YtkfnkieljcipnaaGreatDoor
