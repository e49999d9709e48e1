/-
  The contract of Parse where the text is cut: what its tokens are read as, or what is wrong, and where; under: the tables hold what the program lays (LaidW).
-/
import Derived.Test.YtinjhnflnfpoeaaGreatDoorPX
import Derived.Deep.RegionWith
import Derived.Deep.RegionLaw
namespace Go.Proofs.YtinjhnflnfpoeaaGreatDoor
open Go Go.RowKit Go.Joins

/-- A reader's three cells. -/
structure Rv where
  A : Option Addr
  n : Nat
  c : Nat
  at_ : Int
  many : Int
def rdS : Sv Tryz.prog Rv where
  enc x := [.slice x.A x.n x.c, .int .i64 x.at_, .int .i64 x.many]
  N := 3
  T := 49
  z := ⟨none, 0, 0, 0, 0⟩
  d := _
  len := fun _ => rfl
  pos := by omega
  one := by intro x u hu; simp at hu; rcases hu with rfl | rfl | rfl <;> rfl
  undT := Tryz.underlying49
  isRow := rfl
  size := by kernel_rfl
  zero := fun w => by kernel_rfl
theorem AnyOw.form {w : World} {base n c : Nat} {A : Option Addr} {vs : List Value} (h : AnyOw w base A (n + 1) c vs) : ∃ b, A = some ⟨b, 0, none⟩ ∧ base ≤ b ∧ b < w.heap.size ∧ w.rangeAt b 0 vs := by
  rcases h.2 with ⟨_, h0⟩ | ⟨g, cap, cur, hv, hb, hg, _⟩
  · omega
  · have hA : A = some ⟨g, 0, none⟩ := by injection hv
    subst hA
    refine ⟨g, rfl, hb, (Array.getElem?_eq_some_iff.1 hg).1, fun j u hu => ?_⟩
    have := World.ownsRow.cells h (g := g) rfl j u hu
    rwa [plain_add] at this
theorem Sh.Var.blk {P : Program} {α : Type} {σ : Sh P α} {w w' : World} {k : Nat} {x : α} (h : σ.Var w k x) (e : w'.heap[k]? = w.heap[k]?) : σ.Var w' k x :=
  ⟨fun j v hv => (World.cell?_of_block (a := ⟨k, 0 + j, none⟩) e).trans (h.1 j v hv), fun j hj => ⟨by rw [World.cell?_of_block (a := ⟨k, 0 + j, none⟩) e]; exact (h.2 j hj).1, by rw [World.frozen?_of_block (a := ⟨k, 0 + j, none⟩) e]; exact (h.2 j hj).2⟩⟩
/-- What stands where an append that follows some draws and new blocks has been. -/
theorem after_push {w1 wx w6 : World} {own : Option Nat} (gr : wx.grownBy w6 own) (bx : Below w1.heap.size w1 wx) : ∀ j, j < w1.heap.size → some j ≠ own → w6.heap[j]? = w1.heap[j]? :=
  fun j hj hn => (gr.block j (Nat.lt_of_lt_of_le hj bx.size) hn).trans (bx.block j hj)
theorem below_push {w1 wx w6 : World} {base n c : Nat} {A : Option Addr} {ys : List Pl} (h : plS.Ow w1 base A n c ys) (hb : base ≤ w1.heap.size) (gr : wx.grownBy w6 (Value.ownBlock (.slice A n c))) (bx : Below w1.heap.size w1 wx) : Below base w1 w6 ∧ ∀ j, j < w1.heap.size → some j ≠ Value.ownBlock (.slice A n c) → w6.heap[j]? = w1.heap[j]? :=
  ⟨(bx.mono hb).trans ((Below.refl _ _).grown gr (Nat.le_trans hb bx.size) (fun k hk => (World.ownsRow.lt h k hk).1)), after_push gr bx⟩
theorem one_stored0 {w8 w9 : World} {g : Nat} {hr : Pl} (v : plS.Var w8 g hr) (bp : Pl) (hW : w9 = (w8.setCell ⟨g, 0, none⟩ (.int .i64 bp.line)).setCell ⟨g, 1, none⟩ (.int .i64 bp.col)) :
    plS.Var w9 g bp ∧ ∀ B, B ≤ g → Below B w8 w9 := by
  have hW : w9 = w8.setCells g 0 (encP bp) := hW
  subst hW
  exact ⟨Sh.var_stored (σ := plS) v.2 bp, fun B h => (setCells_oth g (encP bp) 0 w8).1.mono h⟩
theorem where_end (s : ByteArray) (w : World) (hL : LaidW w) (hs : s.size ≤ 65536) : Calls Tryz.prog 25 #[.string s, .int .i64 s.size] w fun e w' => e = .returned (.tuple #[plV (plAt s.data.toList firstP s.data.toList.length), .int .i64 0]) ∧ Below w.heap.size w w' := by
  refine (where_any s s.size w hL (by omega)).mono ?_
  rintro e w' ⟨h1, h2⟩
  refine ⟨?_, h2⟩
  rw [h1]
  unfold whereR
  have hl : s.data.toList.length = s.size := rfl
  rw [if_neg (by omega)]
  rfl
/-- What Cut tells of a text that is cut. -/
def CutGood (s : ByteArray) (ts : List Tk) (ps : List Pl) (w : World) (e : Ending) (w' : World) : Prop := Below w.heap.size w w' ∧ ∃ n A c A2 c2, ts.length = n ∧ n ≤ s.size ∧ e = .returned (.tuple #[.slice A n c, .slice A2 n c2, plV ⟨0, 0⟩, .int .i64 0]) ∧ tkS.Ow w' w.heap.size A n c ts ∧ plS.Ow w' w.heap.size A2 n c2 ps

/-- A reader's first world. -/
theorem rd_first {w : World} {g b n c : Nat} {ts : List Tk} (h : rdS.Var w g ⟨some ⟨b, 0, none⟩, n + 1, c, 0, 0⟩) (ht : w.rangeAt b 0 (rowV ts)) (hb : b ≠ g) (hn : ts.length = n) (hle : n ≤ 1000000) (hk : ∀ t ∈ ts, t.kind = 1 ∨ t.kind = 2 ∨ t.kind = 3) : Rd w g b c [] ts 0 :=
  ⟨by rw [show ([] : List Tk).length + ts.length + 1 = n + 1 by simp [hn]]; exact h.1, h.2, ht, hb, by simpa [hn] using hle, by omega, by simpa using hk⟩

set_option maxHeartbeats 1000000 in
set_option maxRecDepth 100000 in
theorem parse_good (s : ByteArray) (w : World) (ts : List Tk) (ps : List Pl) (hs : s.size ≤ 65536) (hk : ∀ t ∈ ts, t.kind = 1 ∨ t.kind = 2 ∨ t.kind = 3) (hc : ∀ w1, Below w.heap.size w w1 → Calls Tryz.prog 22 #[.string s] w1 (CutGood s ts ps w1)) (f : Fo) (m : Nat) (r : List Tk) (hx : allF ts = .ok f m r) :
    Calls Tryz.prog 9 #[.string s] w (PPost (.ok f) w) := by
  have HC := hid hc
  have HT := hid (fun A n c w4 (hn : n ≤ 1000000) (h : tkS.Rw w4 w4.heap.size A n ts) => typed_any A n c w4.heap.size ts w4 h (Nat.le_refl _) hn)
  have HA := hid (fun w7 g b c (h : Rd w7 g b c [] ts 0) => by have := all_any h; rw [hx] at this; exact this)
  have HK := hid hk
  have HS := hid hs
  clear hc hx hk
  go_enter Tryz.func9, Tryz.ntmps9
  go_wp2_with (first
    | (refine Sh.wp_sv plS (x := ⟨0, 0⟩) rfl (.tmp 3) (.tmp 50) rfl rfl (by rfl) q8 ?_; intro w9 q9 b9 o9 s9; have B9 := hid (B8.out.trans (b9.mono (Nat.le_refl _))); have O9 := hid o9; clear b9 o9 s9 q8)
    | (go_at_call 24; refine (HA.out w7 _ bb cc (rd_first Q7.out T7.out (by have := T5.out.2.1; omega) HN.out.1 (by have := HN.out.2; have := HS.out; omega) HK.out)).mono ?_; rintro e w8 ⟨m8, h8, A8, n8, c8, rfl, t8⟩; have q8 := (V4.out.below B7.out N4.out).below m8.bl (Nat.lt_of_lt_of_le N4.out B5.out.size); have B8 := hid (B4.out.trans ((B7.out.trans (m8.bl.mono B5.out.size)).mono B4.out.size)); have T8 := hid t8; have L7 := hid (Nat.le_trans B4.out.size B7.out.size); clear m8 h8 t8)
    | (refine Sv.wp_sv rdS (x := ⟨some ⟨bb, 0, none⟩, n + 1, cc, 0, 0⟩) rfl (.tmp 9) (.tmp 26) rfl rfl (by rfl) q6 ?_; intro w7 q7 b7 o7 s7; have B7 := hid (B6.out.trans (b7.mono B5.out.size)); have Q7 := hid q7; have S6 := hid (And.intro b7 s7.out); have T7 := hid (range_keep T5.out.2.2 T5.out.2.1 (b6'.out.trans (b7.mono (Nat.le_refl _)))); clear q6 b7 o7 s7 q7)
    | (refine Sv.wp_al rdS rfl rfl ?_; intro w6 q6 b6 s6; have B6 := hid (B5.out.trans (b6.mono B5.out.size)); have b6' := hid b6; clear b6 s6)
    | (go_at_call 23; refine (HT.out A n c w4 (by have := HN.out.2; have := HS.out; omega) Q24.out).mono ?_; rintro e w5 ⟨A5, cc, rfl, t5, b5⟩; have B5 := hid b5; obtain ⟨bb, rfl, t51, t52, t53⟩ := t5.form; have T5 := hid (And.intro t51 (And.intro t52 t53)); clear t5 b5 t51 t52 t53)
    | (refine Sh.wp_sv plS (x := ⟨0, 0⟩) rfl (.tmp 7) (.tmp 18) rfl rfl (by rfl) q3 ?_; intro w4 q4 b4 o4 s4; have V4 := hid (V3.out.other o4 (by have := N3.out; omega)); have B4 := hid (B3.out.trans (b4.mono (Nat.le_of_lt N3.out))); have Q24 := hid ((Q2.out.1.below (B23.out.trans (b4.mono (Nat.le_refl _)))).row); have P4 := hid (Q2.out.2.below (B23.out.trans (b4.mono (Nat.le_refl _)))); have S4 := hid s4.out; have N4 := hid (Nat.lt_of_lt_of_le N3.out (B23.out.trans (b4.mono (Nat.le_refl _))).size); clear q3 b4 o4 s4 q4)
    | (refine Sh.wp_al plS rfl rfl ?_; intro w3 q3 b3 s3; have V3 := hid (V2.out.keep b3); have N3 := hid (V2.out.lt); have B23 := hid b3; have B3 := hid (B2.out.trans (b3.mono B2.out.size)); clear b3 s3)
    | (go_at_call 22; refine (HC.out w1 B1.out).mono ?_; rintro e w2 ⟨b2, n, A, c, A2, c2, hn, hns, rfl, ot, op⟩; have V2 := hid (V1.out.keep b2); have B2 := hid (B1.out.trans (b2.mono B1.out.size)); have Q2 := hid (And.intro ot op); have HN := hid (And.intro hn hns); have N1 := hid (Nat.lt_of_lt_of_le V1.out.lt (Nat.le_refl _)); have B12 := hid b2; clear b2 ot op hn hns)
    | (refine Sh.wp_al plS rfl rfl ?_; intro w1 v1 b1 s1; have V1 := hid v1; have B1 := hid b1; clear v1 b1 s1))
  exact bodyPost_ret (results_1p1 Tryz.results9 _ rfl q9) rfl ⟨B9.out, A8, n8, c8, rfl, (T8.out.keep (fun j hj _ => O9.out j (by have := hj.1; have := N4.out; have := B7.out.size; omega))).mono fun j hj hs => ⟨Nat.le_trans L7.out hj.1, hs⟩⟩

set_option maxHeartbeats 2000000 in
set_option maxRecDepth 100000 in
theorem parse_fail (s : ByteArray) (w : World) (ts : List Tk) (ps : List Pl) (hs : s.size ≤ 65536) (hk : ∀ t ∈ ts, t.kind = 1 ∨ t.kind = 2 ∨ t.kind = 3) (hc : ∀ w1, Below w.heap.size w w1 → Calls Tryz.prog 22 #[.string s] w1 (CutGood s ts ps w1)) (hL : LaidW w) (hpl : ps.length = ts.length) (er : Nat) (r : List Tk) (hx : allF ts = .bad er r) :
    Calls Tryz.prog 9 #[.string s] w (PPost (.bad (plS.nth (ps ++ [plAt s.data.toList firstP s.data.toList.length]) (ts.length - r.length)) er) w) := by
  have HC := hid hc
  have HT := hid (fun A n c w4 (hn : n ≤ 1000000) (h : tkS.Rw w4 w4.heap.size A n ts) => typed_any A n c w4.heap.size ts w4 h (Nat.le_refl _) hn)
  have HA := hid (fun w7 g b c (h : Rd w7 g b c [] ts 0) => by have := all_any h; rw [hx] at this; exact this)
  have HW := hid (fun w8 (hb : Below w.heap.size w w8) => where_end s w8 (hL.below hb) hs)
  have HK := hid hk
  have HS := hid hs
  have HP := hid hpl
  clear hc hx hk hL hpl
  obtain ⟨pe, hpe⟩ : ∃ pe, plAt s.data.toList firstP s.data.toList.length = pe := ⟨_, rfl⟩
  rw [hpe] at HW ⊢
  clear hpe
  go_enter Tryz.func9, Tryz.ntmps9
  go_upto_region 8 with (first
    | (refine Sh.wp_sv plS (x := pe) rfl (.tmp 11) (.tmp 38) rfl rfl (by rfl) q10 ?_; intro w11 q11 b11 o11 s11; have Q11 := hid q11; have B911 := hid (B910.out.trans (b11.mono (Nat.le_refl _))); clear b11 o11 s11 q11 q10)
    | (have hk0 := B89.out; clear hk0; refine Sh.wp_al plS rfl rfl ?_; intro w10 q10 b10 s10; have B910 := hid b10; clear b10 s10)
    | (go_at_call 25; (with_reducible refine (HW.out w8 B8.out).mono ?_); rintro e w9 ⟨rfl, b9⟩; have B89 := hid b9; clear b9)
    | (go_at_call 24; refine (HA.out w7 _ bb cc (rd_first Q7.out T7.out (by have := T5.out.2.1; omega) HN.out.1 (by have := HN.out.2; have := HS.out; omega) HK.out)).mono ?_; rintro e w8 ⟨m8, ⟨mm, pp, hpp, r8⟩, h8, rfl⟩; have q8 := (V4.out.below B7.out N4.out).below m8.bl (Nat.lt_of_lt_of_le N4.out B5.out.size); have V8 := hid q8; have B48 := hid (B7.out.trans (m8.bl.mono B5.out.size)); have B8 := hid (B4.out.trans ((B7.out.trans (m8.bl.mono B5.out.size)).mono B4.out.size)); have R8 := hid r8; have H8 := hid h8; have HPP := hid hpp; have hne : ((er : Int) == 0) = false := beq_eq_false_iff_ne.2 (by omega); clear m8 h8 r8 q8 hpp)
    | (refine Sv.wp_sv rdS (x := ⟨some ⟨bb, 0, none⟩, n + 1, cc, 0, 0⟩) rfl (.tmp 9) (.tmp 26) rfl rfl (by rfl) q6 ?_; intro w7 q7 b7 o7 s7; have B7 := hid (B6.out.trans (b7.mono B5.out.size)); have Q7 := hid q7; have S6 := hid (And.intro b7 s7.out); have T7 := hid (range_keep T5.out.2.2 T5.out.2.1 (b6'.out.trans (b7.mono (Nat.le_refl _)))); clear q6 b7 o7 s7 q7)
    | (refine Sv.wp_al rdS rfl rfl ?_; intro w6 q6 b6 s6; have B6 := hid (B5.out.trans (b6.mono B5.out.size)); have b6' := hid b6; clear b6 s6)
    | (go_at_call 23; refine (HT.out A n c w4 (by have := HN.out.2; have := HS.out; omega) Q24.out).mono ?_; rintro e w5 ⟨A5, cc, rfl, t5, b5⟩; have B5 := hid b5; obtain ⟨bb, rfl, t51, t52, t53⟩ := t5.form; have T5 := hid (And.intro t51 (And.intro t52 t53)); clear t5 b5 t51 t52 t53)
    | (refine Sh.wp_sv plS (x := ⟨0, 0⟩) rfl (.tmp 7) (.tmp 18) rfl rfl (by rfl) q3 ?_; intro w4 q4 b4 o4 s4; have V4 := hid (V3.out.other o4 (by have := N3.out; omega)); have B4 := hid (B3.out.trans (b4.mono (Nat.le_of_lt N3.out))); have Q24 := hid ((Q2.out.1.below (B23.out.trans (b4.mono (Nat.le_refl _)))).row); have P4 := hid (Q2.out.2.below (B23.out.trans (b4.mono (Nat.le_refl _)))); have S4 := hid s4.out; have N4 := hid (Nat.lt_of_lt_of_le N3.out (B23.out.trans (b4.mono (Nat.le_refl _))).size); clear q3 b4 o4 s4 q4)
    | (refine Sh.wp_al plS rfl rfl ?_; intro w3 q3 b3 s3; have V3 := hid (V2.out.keep b3); have N3 := hid (V2.out.lt); have B23 := hid b3; have B3 := hid (B2.out.trans (b3.mono B2.out.size)); clear b3 s3)
    | (go_at_call 22; refine (HC.out w1 B1.out).mono ?_; rintro e w2 ⟨b2, n, A, c, A2, c2, hn, hns, rfl, ot, op⟩; have V2 := hid (V1.out.keep b2); have B2 := hid (B1.out.trans (b2.mono B1.out.size)); have Q2 := hid (And.intro ot op); have HN := hid (And.intro hn hns); have N1 := hid (Nat.lt_of_lt_of_le V1.out.lt (Nat.le_refl _)); have B12 := hid b2; clear b2 ot op hn hns)
    | (refine Sh.wp_al plS rfl rfl ?_; intro w1 v1 b1 s1; have V1 := hid v1; have B1 := hid b1; clear v1 b1 s1))
  have B811 := hid (B89.out.trans (B911.out.mono B89.out.size))
  have H89 := hid B89.out.size
  have h35 : w5.heap.size < w8.heap.size := R8.out.lt
  have hgr := hid h35
  have R11 := R8.out.below B811.out
  have P11 := hid ((P4.out.below B48.out).below B811.out)
  have V11 := hid (V8.out.below B811.out (Nat.lt_of_lt_of_le N4.out B48.out.size))
  have hk : pp.length < n + 1 := by
    have h1 := congrArg List.length HPP.out
    rw [HN.out.1, List.length_append] at h1
    omega
  have hkn := hid (show ts.length - r.length = pp.length by
    have h1 := congrArg List.length HPP.out
    rw [List.length_append] at h1
    omega)
  have c0 : w11.cell? ⟨w9.heap.size, 0, none⟩ = some (.int .i64 pe.line) := Q11.out.cell (j := 0) rfl
  have c1 : w11.cell? ⟨w9.heap.size, 1, none⟩ = some (.int .i64 pe.col) := Q11.out.cell (j := 1) rfl
  have a1 : w11.cell? ⟨w5.heap.size, 1, none⟩ = some (.int .i64 pp.length) := R11.c1
  have d0 : w11.cell? ⟨w.heap.size, 0, none⟩ = some (.int .i64 0) := V11.out.cell (j := 0) rfl
  have d1 : w11.cell? ⟨w.heap.size, 1, none⟩ = some (.int .i64 0) := V11.out.cell (j := 1) rfl
  have e0 : w11.frozen? ⟨w.heap.size, 0, none⟩ = false := V11.out.free (j := 0) (by decide)
  have e1 : w11.frozen? ⟨w.heap.size, 1, none⟩ = false := V11.out.free (j := 1) (by decide)
  have hn6 : n ≤ 1000000 := by have := HN.out.2; have := HS.out; omega
  have OWN := hid (fun (j : Nat) (e : Value.ownBlock (.slice A2 n c2) = some j) => World.ownsRow.lt P4.out j e)
  have hb11 := hid (show w1.heap.size ≤ w11.heap.size from Nat.le_trans (Nat.le_trans B12.out.size (Nat.le_trans B23.out.size (Nat.le_of_eq S4.out.symm))) (Nat.le_trans B48.out.size B811.out.size))
  have hnl : ps.length = n := by rw [HP.out, HN.out.1]
  obtain ⟨pk, hpk⟩ : ∃ pk, plS.nth (ps ++ [pe]) pp.length = pk := ⟨_, rfl⟩
  have hpk := hid hpk
  obtain ⟨k, hkk⟩ : ∃ k, pp.length = k := ⟨_, rfl⟩
  have HKK := hid hkk
  rw [hkk] at a1 hk hpk
  have z45 := hid (show w4.heap.size ≤ w5.heap.size from B5.out.size)
  have zz := hid (And.intro R11.lt Q11.out.lt)
  have H89 := hid H89.out
  clear R11 h35 hkk hnl hs HPP
  have a1' : ∀ o : Obj, (w11.alloc o).cell? ⟨w5.heap.size, 1, none⟩ = some (.int .i64 k) := fun o => (((Below.refl w11.heap.size w11).alloc (Nat.le_refl _) o).cell (p := ⟨w5.heap.size, 1, none⟩) zz.out.1).trans a1
  have hki : (k : Int) ≤ n := by omega
  have hki2 : (k : Int) < (n : Int) + 1 := by omega
  have hki0 : (0 : Int) ≤ k := by omega
  have hki3 : k ≤ n := by omega
  go_region_law (first
      | (refine Sh.step_push plS (A := A2) (c := c2) (l := ps) (base := w1.heap.size) (x := pe) rfl (.tmp 40) (.tmp 42) (by rfl) (by rfl) ?_ (by rfl) ?_ hn6 ?_ ?_; (focus exact (by (repeat (first | with_reducible exact P11.out | with_reducible refine Sh.Ow.alloc ?_ _ | with_reducible refine Sh.Ow.drew ?_)); done)); (focus show World.rangeAt _ _ _ [.int .i64 pe.line, .int .i64 pe.col]; exact (by (repeat (first | with_reducible exact range_new' _ _ _ _ (by simp; done) | with_reducible refine World.rangeAt_alloc ?_ _ | with_reducible refine (World.rangeAt_drew _ _ _ _).2 ?_)); done)); (focus have := hb11.out; (first | (simp; done) | (simp; omega) | omega)); intro A6 c6 w6 own6 gr6; have bx := below_push (w1 := w11) P11.out hb11.out gr6 (by (repeat (first | with_reducible exact Below.refl _ _ | with_reducible refine Below.drew ?_ | (with_reducible refine Below.alloc ?_ (by simp) _))); done)); have FX := hid bx.2; have bx := bx.1; obtain ⟨bA, oA, rfl, _, hA⟩ := own6.row.at_ hk; rw [hpk.out] at hA; have y0 : w6.cell? ⟨bA, oA + k * 2, none⟩ = some (.int .i64 pk.line) := hA 0 _ rfl; have y1 : w6.cell? ⟨bA, oA + k * 2 + 1, none⟩ = some (.int .i64 pk.col) := hA 1 _ rfl; have V6 := hid (V11.out.blk (FX.out w.heap.size (by have := zz.out.1; have := N4.out; have := z45.out; omega) (fun e => by have := (OWN.out _ e.symm).1; have := N1.out; omega))); have d0 : w6.cell? ⟨w.heap.size, 0, none⟩ = some (.int .i64 0) := V6.out.cell (j := 0) rfl; have d1 : w6.cell? ⟨w.heap.size, 1, none⟩ = some (.int .i64 0) := V6.out.cell (j := 1) rfl; have e0 : w6.frozen? ⟨w.heap.size, 0, none⟩ = false := V6.out.free (j := 0) (by decide); have e1 : w6.frozen? ⟨w.heap.size, 1, none⟩ = false := V6.out.free (j := 1) (by decide); have f9 := FX.out w9.heap.size zz.out.2 (fun e => by have := (OWN.out _ e.symm).2; have := B48.out.size; have := H89.out; omega); have f5 := FX.out w5.heap.size zz.out.1 (fun e => by have := (OWN.out _ e.symm).2; have := z45.out; omega); have c0 : w6.cell? ⟨w9.heap.size, 0, none⟩ = some (.int .i64 pe.line) := (World.cell?_of_block (a := ⟨w9.heap.size, 0, none⟩) f9).trans c0; have c1 : w6.cell? ⟨w9.heap.size, 1, none⟩ = some (.int .i64 pe.col) := (World.cell?_of_block (a := ⟨w9.heap.size, 1, none⟩) f9).trans c1; have a1 : w6.cell? ⟨w5.heap.size, 1, none⟩ = some (.int .i64 k) := (World.cell?_of_block (a := ⟨w5.heap.size, 1, none⟩) f5).trans a1; have BX := hid bx; clear f9 f5 own6 gr6 hA; dsimp only)
  all_goals
    obtain ⟨w12, hW⟩ : ∃ w12, w12 = (w6.setCell ⟨w.heap.size, 0, none⟩ (.int .i64 pk.line)).setCell ⟨w.heap.size, 1, none⟩ (.int .i64 pk.col) := ⟨_, rfl⟩
    obtain ⟨z6, z7⟩ := one_stored0 V6.out pk hW
    rw [← hW]
    clear hW c0 c1 d0 d1 e0 e1 a1 a1' y0 y1
    (try simp only [Act.put, List.getElem_toArray, List.getElem_cons_succ, List.getElem_cons_zero, List.setIfInBounds_toArray, List.set_cons_zero, List.set_cons_succ])
    go_wp2_with fail
    exact bodyPost_ret (results_1p1 Tryz.results9 _ rfl z6) rfl ⟨((B8.out.trans (B811.out.mono B8.out.size)).trans (BX.out.mono B1.out.size)).trans (z7 _ (Nat.le_refl _)), H8.out, by rw [hkn.out, HKK.out, hpk.out]; rfl⟩
end Go.Proofs.YtinjhnflnfpoeaaGreatDoor
