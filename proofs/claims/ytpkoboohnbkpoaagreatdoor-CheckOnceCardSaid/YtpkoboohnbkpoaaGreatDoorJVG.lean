/-
  Walk of palletlaw17.CheckOnce behind its early ways. Under: the tables hold what the program lays (LaidW, LaidC).
-/
import Derived.Test.YtpkoboohnbkpoaaGreatDoorJVF
import Derived.Deep.RegionHeld3
import Derived.Deep.RegionWith
namespace Go.Proofs.YtpkoboohnbkpoaaGreatDoor
open Go Go.RowKit Go.Maps Go.Joins

theorem range_below {W w' : World} {b off B : Nat} {cs : List Value} (hb : Below B W w') (hlt : b < B) (r : W.rangeAt b off cs) : w'.rangeAt b off cs := fun j v hv => (hb.cell (p := ⟨b, off + j, none⟩) hlt).trans (r j v hv)
theorem row_then3 {w w' : World} {b : Nat} {cs : List Value} {v : Value} {G : Prop} (gr : w.grownBy w' none) (r : w.rangeAt b 0 cs) (hv : cs[0]? = some v) (h : w'.rangeAt b 0 cs → G) : G := by
  have hb := World.block_lt_of_cell? w _ (r 0 v hv)
  exact h (range_below ((Below.refl w.heap.size w).grown gr (Nat.le_refl _) (fun k hk => by cases hk)) hb r)
theorem idx_ok (k : Int) (n : Nat) (hn : 0 < n) (hl : n ≤ 1000000) : ∃ j : Nat, j < n ∧ (wrap64 (k.tmod (n : Int) + (n : Int))).tmod (n : Int) = (j : Int) := by
  have h1 : k.tmod (n : Int) < n := Int.tmod_lt_of_pos k (by omega)
  have h2 : -(n : Int) < k.tmod (n : Int) := Int.lt_tmod_of_pos k (by omega)
  rw [IntWalk.wrap64_in _ (by omega), Int.tmod_eq_emod_of_nonneg (by omega)]
  refine ⟨((k.tmod (n : Int) + (n : Int)) % (n : Int)).toNat, ?_, ?_⟩
  · have := Int.emod_lt_of_pos (k.tmod (n : Int) + (n : Int)) (b := (n : Int)) (by omega)
    have := Int.emod_nonneg (k.tmod (n : Int) + (n : Int)) (b := (n : Int)) (by omega)
    omega
  · have := Int.emod_nonneg (k.tmod (n : Int) + (n : Int)) (b := (n : Int)) (by omega)
    omega
theorem rw_one {w : World} {P : Nat → Prop} {b : Nat} {x : Sm} (r : w.rangeAt b 0 (smS.enc x)) (hP : P b) : RwP smS w P (some ⟨b, 0, none⟩) 1 [x] := ⟨rfl, fun _ => ⟨b, 0, rfl, hP, fun j u hu => r j u (by simpa [Sh.flat] using hu)⟩⟩
theorem rw_nums {w : World} {P : Nat → Prop} {b : Nat} (r : w.rangeAt b 0 (nmS.flat [(1, false), (0, true)])) (hP : P b) : RwP nmS w P (some ⟨b, 0, none⟩) 2 [(1, false), (0, true)] := ⟨rfl, fun _ => ⟨b, 0, rfl, hP, fun j u hu => r j u hu⟩⟩
theorem rep_tr {w : World} {P : Nat → Prop} {b1 b2 : Nat} {xm : Sm} {x : St} {y : Fo} (NR : w.rangeAt b1 0 (nmS.flat [(1, false), (0, true)])) (XR : w.rangeAt b2 0 (smS.enc xm)) (h1 : P b1) (h2 : P b2) (hx : Tr w P (oneFo x y) [xm]) :
    Tr w P (oneFo repSt (oneFo x y)) [⟨wRepeat, some ⟨b1, 0, none⟩, 2, 2, true, some ⟨b2, 0, none⟩, 1, 1⟩] := tr_one rfl rfl (rw_nums NR h1) ⟨[xm], rw_one XR h2, hx⟩
theorem nm_run (w : World) : (Instr.buildSlice 34 2 #[(0, nmS.val (1, false)), (1, nmS.val (0, true))]).run Tryz.prog w = .ok (.slice (some ⟨w.heap.size, 0, none⟩) 2 2) (w.alloc (.cells (nmS.flat [(1, false), (0, true)]).toArray 57)) := by kernel_rfl
theorem nm_step {w : World} {ops : Array Oper} {rest : List Oper} {o : Oper} {a : Act} {Q : Exit → Act → World → Prop} (e0 e1 : Operand) (hg : o.guard = none) (ho : o.op = .buildSlice 34 2 #[(0, e0), (1, e1)]) (h0 : a.eval e0 = nmS.val (1, false)) (h1 : a.eval e1 = nmS.val (0, true))
    (h : ∀ w', w'.rangeAt w.heap.size 0 (nmS.flat [(1, false), (0, true)]) → Below w.heap.size w w' → Hid (w'.heap.size = w.heap.size + 1) → wpList Tryz.prog ops Q rest (a.put o.dst (.slice (some ⟨w.heap.size, 0, none⟩) 2 2)) w') : wpList Tryz.prog ops Q (o :: rest) a w := by
  refine wpList_plain hg fun K hK => ?_
  unfold Oper.wp execOp
  simp only [ho, Sem.run_bind, List.map_toArray, List.map_cons, List.map_nil, h0, h1, nm_run, Sem.run_pure, Result.andThen_ok]
  exact hK _ _ (h _ (range_new w _ _) ((Below.refl _ _).alloc (Nat.le_refl _) _) (hid (by simp)))
theorem bs_sm {w : World} {ops : Array Oper} {rest : List Oper} {o : Oper} {a : Act} {Q : Exit → Act → World → Prop} {x : Sm} (hw : Region.wanted o (yielded ops a.tmps) = true) (e : Operand) (ho : o.op = .buildSlice smS.S 1 #[(0, e)]) (hx : a.eval e = smS.val x)
    (h : ∀ w', w'.rangeAt w.heap.size 0 (smS.enc x) → Below w.heap.size w w' → Hid (w'.heap.size = w.heap.size + 1) → wpList Tryz.prog ops Q rest (a.put o.dst (.slice (some ⟨w.heap.size, 0, none⟩) 1 1)) w') : wpList Tryz.prog ops Q (o :: rest) a w :=
  Sh.wp_bs smS hw e ho hx (h _ (range_new w _ _) ((Below.refl _ _).alloc (Nat.le_refl _) _) (hid (by simp)))
set_option maxRecDepth 100000 in
set_option maxHeartbeats 2000000 in
theorem once_w (f : Fo) (w : World) (K : Nat → Prop) (n c : Nat) (b o j : Nat) (ys : List Sm) (k : Int) (a cc y : Fo) (xw : List UInt8) (ns : List (Int × Bool)) (xb : Bool) (xA xB : Option Addr) (xn xc xm xk : Nat) (ks : List (Ky × Nat))
    (hL : LaidW w) (hC : LaidC w) (hx : RwP smS w K (some ⟨b, o, none⟩) n ys) (htr : Tr w K f ys) (hK : ∀ k, K k → k < w.heap.size) (hfw : fw17 f = true) (hn : 0 < n) (hks : Fine17 f ks) (hc4 : f.count ≤ 400) (hj : j < n) (hjv : (wrap64 (k.tmod (n : Int) + (n : Int))).tmod (n : Int) = (j : Int))
    (hfe : f = a.app ((oneFo ⟨xw, ns, xb⟩ y).app cc)) (hcell : w.rangeAt b (o + j * 4) (smS.enc ⟨xw, xA, xn, xc, xb, xB, xm, xk⟩)) (hns : RwP nmS w K xA xn ns) (hby : TrS w K xB xm y) (hwd : St.world ⟨xw, [], false⟩ = true) (hdp : (oneFo repSt (oneFo ⟨xw, ns, xb⟩ y)).depth ≤ 6) : OnceSaid w (some ⟨b, o, none⟩) n c k := by
  unfold OnceSaid
  have ht : TrS w K (some ⟨b, o, none⟩) n f := ⟨ys, hx, htr⟩
  have hb : b < w.heap.size := by obtain ⟨b2, o2, e, h, _⟩ := hx.2 hn; cases e; exact hK _ h
  have HV := hid (live17_any w hL hC)
  have HF := hid (fun w1 (hb : Below w.heap.size w w1) => few17_any f w1 K _ n c (ht.below hb))
  have HC := hid (fun w1 (hb : Below w.heap.size w w1) => chkc_any f w1 K _ n c (hC.below hb) (ht.below hb) (fun k hk => Nat.lt_of_lt_of_le (hK k hk) hb.size) (fw17_chk hfw (ht.below hb)))
  rw [hfw] at HF
  rw [fine_chkF hks] at HC
  have hnl : n ≤ 400 := by rw [ht.len]; have := f.len_le; omega
  have hn6 : n ≤ 1000000 := by omega
  have HCT := hid (fun w1 (hb : Below w.heap.size w w1) => count_any f w1 K _ n c (ht.below hb) (by omega))
  have HW := hid (fun w1 => world17_any xw w1)
  rw [hwd] at HW
  have hone : St.world ⟨xw, ns, xb⟩ = true := hwd
  obtain ⟨hk1, hk2, hk3⟩ := chk_once hfe hks.chk hc4
  have HQ1 := hid (once_again hfe hks hk1 hone)
  have HC1 := hid (fun (w1 : World) (hb : Below w.heap.size w w1) A m c1 (t : TrS w1 (fun k => k < w1.heap.size) A m (f.app (oneFo ⟨xw, ns, xb⟩ y))) => (show Calls Tryz.prog 25 #[.slice A m c1] w1 fun e w' => e = .returned (.tuple #[.int .i64 (f.count : Int), .int .i64 7]) ∧ Below w1.heap.size w1 w' from by
    have := chkc_any _ w1 _ A m c1 (hC.below hb) t (fun k hk => hk) (chkAt_of t hk2 (by omega)); rw [HQ1.out] at this; exact this))
  obtain ⟨hr1, hr2, hr3⟩ := chk_rep hfe hks.chk hc4 hdp
  have HQ2 := hid (rep_again hfe hks hr1 hone)
  have HC2 := hid (fun (w1 : World) (hb : Below w.heap.size w w1) A m c1 (t : TrS w1 (fun k => k < w1.heap.size) A m (f.app (oneFo repSt (oneFo ⟨xw, ns, xb⟩ y)))) => (show Calls Tryz.prog 25 #[.slice A m c1] w1 fun e w' => e = .returned (.tuple #[.int .i64 ((f.count : Int) + 1), .int .i64 4]) ∧ Below w1.heap.size w1 w' from by
    have := chkc_any _ w1 _ A m c1 (hC.below hb) t (fun k hk => hk) (chkAt_of t hr2 (by omega)); rw [HQ2.out] at this; exact this))
  have HD := hid (fun (w1 : World) K1 A m c1 (t : TrS w1 K1 A m (oneFo repSt (oneFo ⟨xw, ns, xb⟩ y))) => depth_any (oneFo repSt (oneFo ⟨xw, ns, xb⟩ y)) w1 K1 A m c1 t (by
    have h1 : f.count = a.count + ((oneFo ⟨xw, ns, xb⟩ y).count + cc.count) := by rw [hfe, Fo.count_app, Fo.count_app]
    have h2 : (oneFo repSt (oneFo ⟨xw, ns, xb⟩ y)).count = 1 + (oneFo ⟨xw, ns, xb⟩ y).count := rfl
    omega))
  have hdv2 : (6 < ((oneFo repSt (oneFo ⟨xw, ns, xb⟩ y)).depth : Int)) = False := by simp; omega
  generalize (oneFo repSt (oneFo ⟨xw, ns, xb⟩ y)).depth = D at *
  have HT := hid (And.intro hx (And.intro htr (And.intro hns hby)))
  have HK := hid hK
  have HR := hid (And.intro hb hcell)
  have hn1 : ((n : Int) = 0) = False := by simp; omega
  have hfc : wrap64 ((f.count : Int) + 1) = (f.count : Int) + 1 := IntWalk.wrap64_in _ (by omega)
  clear hL hC ht hK hfw hks hx htr hns hby hcell hb hk1 hk2 hk3 hfe hwd hone HQ1 hr1 hr2 hr3 HQ2 hdp hc4
  go_enter Tryz.func9, Tryz.ntmps9
  go_upto_region 8 with (first
    | (go_at_call 25; refine (HC.out w2 B2.out).mono ?_; rintro e w3 ⟨rfl, g3⟩; have B3 := hid (B2.out.trans (g3.mono B2.out.size)); clear g3)
    | (go_at_call 22; refine (HF.out w1 B1.out).mono ?_; rintro e w2 ⟨rfl, g2⟩; have B2 := hid (B1.out.trans (g2.mono B1.out.size)); clear g2)
    | (go_at_call 21; refine HV.out.mono ?_; rintro e w1 ⟨rfl, g1⟩; have B1 := hid g1; clear g1))
  have r1 := range_below B3.out HR.out.1 HR.out.2
  clear HV HF HC
  go_upto_region 10 with (first
    | (go_at_call 38; refine (HCT.out w5 B5.out).mono ?_; rintro e w6 ⟨rfl, g6⟩; have V6 := hid (V5.out.keep g6); have B6 := hid (B5.out.trans (g6.mono B5.out.size)); clear g6)
    | (refine Sh.wp_sv smS (x := ⟨xw, xA, xn, xc, xb, xB, xm, xk⟩) rfl (.tmp 8) (.tmp 46) rfl rfl (by rfl) q4 ?_; intro w5 q5 b5 o5 s5; have B35 := hid (B34.out.trans (b5.mono (Nat.le_refl _))); have V5 := hid q5; have B5 := hid (B3.out.trans (B35.out.mono B3.out.size)); clear q4 q5 b5 o5 s5)
    | (refine Sh.wp_al smS rfl rfl ?_; intro w4 q4 b4 s4; have B34 := hid b4; clear b4 s4)
    | (refine Sh.wp_ld smS rfl (.tmp 45) rfl rfl r1 ?_))
  clear r1
  have Pw6 := hid (show PR w6.heap.size w6 w6 w3.heap.size ⟨xw, xA, xn, xc, xb, xB, xm, xk⟩ from ⟨V6.out, Below.refl _ _, Nat.le_refl _, V6.out.lt⟩)
  have XSw6 := hid (fun w' (hb : Below w6.heap.size w6 w') => ((HT.out.1.keep (fun k hk _ => B6.out.block k (HK.out k hk))).keep (fun k hk _ => hb.block k (Nat.lt_of_lt_of_le (HK.out k hk) B6.out.size))).size)
  have TFw6 := hid (HT.out.2.1.keep (fun k hk _ => B6.out.block k (HK.out k hk)))
  have HKw6 := hid (fun k (hk : K k) => Nat.lt_of_lt_of_le (HK.out k hk) B6.out.size)
  have w3c0 : w6.cell? ⟨w3.heap.size, 0, none⟩ = some (.string (strB xw)) := V6.out.cell (j := 0) rfl
  have w3c1 : w6.cell? ⟨w3.heap.size, 1, none⟩ = some (.slice xA xn xc) := V6.out.cell (j := 1) rfl
  have w3c2 : w6.cell? ⟨w3.heap.size, 2, none⟩ = some (.bool xb) := V6.out.cell (j := 2) rfl
  have w3c3 : w6.cell? ⟨w3.heap.size, 3, none⟩ = some (.slice xB xm xk) := V6.out.cell (j := 3) rfl
  have TG := hid (show Tr w6 K (oneFo ⟨xw, ns, xb⟩ y) [⟨xw, xA, xn, xc, xb, xB, xm, xk⟩] from tr_one rfl rfl (HT.out.2.2.1.keep (fun k hk _ => B6.out.block k (HK.out k hk))) (HT.out.2.2.2.keep (fun k hk _ => B6.out.block k (HK.out k hk))))
  have XT := hid (fun w' (hb : Below w.heap.size w w') => (show Tr w' (fun _ => True) (oneFo ⟨xw, ns, xb⟩ y) [⟨xw, xA, xn, xc, xb, xB, xm, xk⟩] from tr_one rfl rfl ((HT.out.2.2.1.keep (fun k hk _ => hb.block k (HK.out k hk))).mono fun _ _ _ => trivial) ((HT.out.2.2.2.keep (fun k hk _ => hb.block k (HK.out k hk))).mono fun _ _ _ => trivial)))
  go_region_held3 (fun w' => w'.cell? ⟨w3.heap.size, 0, none⟩ = some (.string (strB xw)) ∧ w'.cell? ⟨w3.heap.size, 1, none⟩ = some (.slice xA xn xc) ∧ w'.cell? ⟨w3.heap.size, 2, none⟩ = some (.bool xb) ∧ w'.cell? ⟨w3.heap.size, 3, none⟩ = some (.slice xB xm xk)) (first | with_reducible exact ⟨w3c0, w3c1, w3c2, w3c3⟩ | go_keep) (first
    | (go_at_call 25; have hh1 := B6.out.trans (Pw8.out.pr.bl.mono B6.out.size); have hh2 := Pw8.out.trs TFw6.out TG.out HKw6.out HKw6.out; refine (HC1.out w8 hh1 _ _ _ hh2).mono ?_; clear hh1 hh2; rintro e w9 ⟨rfl, bl⟩; have V9 := hid (Pw8.out.pr.var.keep bl); have B9 := hid ((B6.out.trans (Pw8.out.pr.bl.mono B6.out.size)).trans (bl.mono (B6.out.trans (Pw8.out.pr.bl.mono B6.out.size)).size)); have w3c0 : w9.cell? ⟨w3.heap.size, 0, none⟩ = some (.string (strB xw)) := V9.out.cell (j := 0) rfl;  have w3c1 : w9.cell? ⟨w3.heap.size, 1, none⟩ = some (.slice xA xn xc) := V9.out.cell (j := 1) rfl;  have w3c2 : w9.cell? ⟨w3.heap.size, 2, none⟩ = some (.bool xb) := V9.out.cell (j := 2) rfl;  have w3c3 : w9.cell? ⟨w3.heap.size, 3, none⟩ = some (.slice xB xm xk) := V9.out.cell (j := 3) rfl; clear bl; dsimp only)
    | (refine Sh.step_copy3 smS (A2 := some ⟨b, o, none⟩) (m := n) (c2 := c) (ys := ys) (base := w6.heap.size) rfl (.tmp 50) rfl rfl ?_ hn6 ?_ ?_; (focus exact XSw6.out _ (PR.bl (show PR w6.heap.size w6 _ w3.heap.size ⟨xw, xA, xn, xc, xb, xB, xm, xk⟩ from (by (repeat (first | with_reducible exact Pw6.out | with_reducible refine PR.alloc ?_ _ | with_reducible refine PR.drew ?_)); done)))); (focus exact PR.sz (show PR w6.heap.size w6 _ w3.heap.size ⟨xw, xA, xn, xc, xb, xB, xm, xk⟩ from (by (repeat (first | with_reducible exact Pw6.out | with_reducible refine PR.alloc ?_ _ | with_reducible refine PR.drew ?_)); done))); intro Aw7 cw7 w7 own gr; have Pw7 := hid (PR.copy (show PR w6.heap.size w6 _ w3.heap.size ⟨xw, xA, xn, xc, xb, xB, xm, xk⟩ from (by (repeat (first | with_reducible exact Pw6.out | with_reducible refine PR.alloc ?_ _ | with_reducible refine PR.drew ?_)); done)) own gr); (first | (refine row_then3 (b := w6.heap.size) (cs := [.string (strB xw), .slice xA xn xc, .bool xb, .slice xB xm xk]) gr ?_ rfl ?_; (focus ((repeat (first | with_reducible refine range_new' _ _ _ _ (by simp; done) | with_reducible refine World.rangeAt_alloc ?_ _ | with_reducible refine (World.rangeAt_drew _ _ _ _).2 ?_)); done)); intro rp) | skip); have w3c0 : w7.cell? ⟨w3.heap.size, 0, none⟩ = some (.string (strB xw)) := Pw7.out.pr.var.cell (j := 0) rfl; have w3c1 : w7.cell? ⟨w3.heap.size, 1, none⟩ = some (.slice xA xn xc) := Pw7.out.pr.var.cell (j := 1) rfl; have w3c2 : w7.cell? ⟨w3.heap.size, 2, none⟩ = some (.bool xb) := Pw7.out.pr.var.cell (j := 2) rfl; have w3c3 : w7.cell? ⟨w3.heap.size, 3, none⟩ = some (.slice xB xm xk) := Pw7.out.pr.var.cell (j := 3) rfl; clear own gr; dsimp only)
    | (refine Sh.step_push2 smS (A := Aw7) (c := cw7) (l := ys) (base := w6.heap.size) (x := ⟨xw, xA, xn, xc, xb, xB, xm, xk⟩) rfl (.tmp 51) (.tmp 53) rfl rfl ?_ rfl ?_ hn6 ?_ ?_; (focus exact CP.ow (show CP w6.heap.size w6 _ w3.heap.size ⟨xw, xA, xn, xc, xb, xB, xm, xk⟩ Aw7 n cw7 ys from (by (repeat (first | with_reducible exact Pw7.out | with_reducible refine CP.alloc ?_ _ | with_reducible refine CP.drew ?_)); done))); (focus show World.rangeAt _ _ _ [.string (strB xw), .slice xA xn xc, .bool xb, .slice xB xm xk]; exact (by (repeat (first | with_reducible exact rp | with_reducible exact range_new' _ _ _ _ (by simp; done) | with_reducible refine World.rangeAt_alloc ?_ _ | with_reducible refine (World.rangeAt_drew _ _ _ _).2 ?_)); done)); (focus exact PR.sz (CP.pr (show CP w6.heap.size w6 _ w3.heap.size ⟨xw, xA, xn, xc, xb, xB, xm, xk⟩ Aw7 n cw7 ys from (by (repeat (first | with_reducible exact Pw7.out | with_reducible refine CP.alloc ?_ _ | with_reducible refine CP.drew ?_)); done)))); intro Aw8 cw8 w8 own gr li; have Pw8 := hid (CP.push (show CP w6.heap.size w6 _ w3.heap.size ⟨xw, xA, xn, xc, xb, xB, xm, xk⟩ Aw7 n cw7 ys from (by (repeat (first | with_reducible exact Pw7.out | with_reducible refine CP.alloc ?_ _ | with_reducible refine CP.drew ?_)); done)) own gr); have w3c0 : w8.cell? ⟨w3.heap.size, 0, none⟩ = some (.string (strB xw)) := Pw8.out.pr.var.cell (j := 0) rfl; have w3c1 : w8.cell? ⟨w3.heap.size, 1, none⟩ = some (.slice xA xn xc) := Pw8.out.pr.var.cell (j := 1) rfl; have w3c2 : w8.cell? ⟨w3.heap.size, 2, none⟩ = some (.bool xb) := Pw8.out.pr.var.cell (j := 2) rfl; have w3c3 : w8.cell? ⟨w3.heap.size, 3, none⟩ = some (.slice xB xm xk) := Pw8.out.pr.var.cell (j := 3) rfl; clear own gr li; dsimp only))
  all_goals
    go_upto_region 13 with (first
      | (go_at_call 37; refine (HW.out w10).mono ?_; rintro e w11 ⟨rfl, g11⟩; have V11 := hid (V10.out.keep g11); have B11 := hid (B10.out.trans (g11.mono B10.out.size)); clear g11; have w3c0 : w11.cell? ⟨w3.heap.size, 0, none⟩ = some (.string (strB xw)) := V11.out.cell (j := 0) rfl)
      | (go_at_call 37; refine (HW.out w9).mono ?_; rintro e w10 ⟨rfl, g10⟩; have V10 := hid (V9.out.keep g10); have B10 := hid (B9.out.trans (g10.mono B9.out.size)); clear g10; have w3c0 : w10.cell? ⟨w3.heap.size, 0, none⟩ = some (.string (strB xw)) := V10.out.cell (j := 0) rfl))
    go_upto_region 16 with (first
      | (go_at_call 39; refine (HD.out w16 (fun _ => True) (some ⟨w15.heap.size, 0, none⟩) 1 1 ⟨[⟨wRepeat, some ⟨w11.heap.size, 0, none⟩, 2, 2, true, some ⟨w12.heap.size, 0, none⟩, 1, 1⟩], rw_one RR16.out trivial, rep_tr NR16.out XR16.out trivial trivial (XT.out w16 B16.out)⟩).mono ?_; rintro e w17 ⟨rfl, b17⟩; have V17 := hid (V16.out.keep b17); have Q17 := hid (Q16.out.keep b17); have NR17 := hid (range_below b17 (by have := S12.out; have := S13.out; have := S14.out; have := S15.out; have := S16.out; omega) NR16.out); have XR17 := hid (range_below b17 (by have := S12.out; have := S13.out; have := S14.out; have := S15.out; have := S16.out; omega) XR16.out); have LT17 := hid (show w11.heap.size < w17.heap.size ∧ w12.heap.size < w17.heap.size from by have := S12.out; have := S13.out; have := S14.out; have := S15.out; have := S16.out; have := b17.size; omega); have B17 := hid (B16.out.trans (b17.mono B16.out.size)); clear b17)
      | (refine bs_sm rfl (.tmp 90) rfl rfl ?_; intro w16 r16 b16 s16; have S16 := s16; have RR16 := hid r16; have V16 := hid (V15.out.keep b16); have Q16 := hid (Q15.out.keep b16); have NR16 := hid (range_below b16 (by have := S12.out; have := S13.out; have := S14.out; have := S15.out; omega) NR15.out); have XR16 := hid (range_below b16 (by have := S12.out; have := S13.out; have := S14.out; have := S15.out; omega) XR15.out); have B16 := hid (B15.out.trans (b16.mono B15.out.size)); clear r16 b16 s16)
      | (refine Sh.wp_ld smS rfl (.tmp 12) rfl rfl Q15.out.1 ?_)
      | (refine Sh.wp_sv smS (x := ⟨wRepeat, some ⟨w11.heap.size, 0, none⟩, 2, 2, true, some ⟨w12.heap.size, 0, none⟩, 1, 1⟩) rfl (.tmp 12) (.tmp 89) rfl rfl (by rfl) q14 ?_; intro w15 q15 b15 o15 s15; have S15 := s15; have Q15 := hid q15; have V15 := hid (V14.out.below b15 V13.out.lt); have NR15 := hid (range_below b15 (by have := S12.out; have := S13.out; omega) NR14.out); have XR15 := hid (range_below b15 (by have := S12.out; have := S13.out; omega) XR14.out); have B15 := hid (B13.out.trans ((B1314.out.trans b15).mono B13.out.size)); clear q14 q15 b15 o15 s15)
      | (have tk := XR13; clear tk; refine Sh.wp_al smS rfl rfl ?_; intro w14 q14 b14 s14; have S14 := s14; have B1314 := hid b14; have V14 := hid (V13.out.keep b14); have NR14 := hid (range_below b14 (by have := S12.out; have := S13.out; omega) NR13.out); have XR14 := hid (range_below b14 (by have := S12.out; have := S13.out; omega) XR13.out); clear b14 s14)
      | (refine bs_sm rfl (.tmp 87) rfl rfl ?_; intro w13 r13 b13 s13; have S13 := s13; have XR13 := hid r13; have V13 := hid (V12.out.keep b13); have NR13 := hid (range_below b13 (by have := S12.out; omega) NR12.out); have B13 := hid (B12.out.trans (b13.mono B12.out.size)); clear r13 b13 s13)
      | (refine Sh.wp_ld smS rfl (.tmp 8) rfl rfl V12.out.1 ?_)
      | (refine nm_step (.tmp 84) (.tmp 85) rfl rfl rfl rfl ?_; intro w12 r12 b12 s12; have S12 := s12; have NR12 := hid r12; have V12 := hid (V11.out.keep b12); have B12 := hid (B11.out.trans (b12.mono B11.out.size)); clear r12 b12 s12))
    have Pw17 := hid (show PR w17.heap.size w17 w17 w13.heap.size ⟨wRepeat, some ⟨w11.heap.size, 0, none⟩, 2, 2, true, some ⟨w12.heap.size, 0, none⟩, 1, 1⟩ from ⟨Q17.out, Below.refl _ _, Nat.le_refl _, Q17.out.lt⟩)
    have XSw17 := hid (fun w' (hb : Below w17.heap.size w17 w') => ((HT.out.1.keep (fun k hk _ => B17.out.block k (HK.out k hk))).keep (fun k hk _ => hb.block k (Nat.lt_of_lt_of_le (HK.out k hk) B17.out.size))).size)
    have TFw17 := hid (HT.out.2.1.keep (fun k hk _ => B17.out.block k (HK.out k hk)))
    have HKw17 := hid (fun k (hk : K k) => Nat.lt_of_lt_of_le (HK.out k hk) B17.out.size)
    have w13c0 : w17.cell? ⟨w13.heap.size, 0, none⟩ = some (.string (strB wRepeat)) := Q17.out.cell (j := 0) rfl
    have w13c1 : w17.cell? ⟨w13.heap.size, 1, none⟩ = some (.slice (some ⟨w11.heap.size, 0, none⟩) 2 2) := Q17.out.cell (j := 1) rfl
    have w13c2 : w17.cell? ⟨w13.heap.size, 2, none⟩ = some (.bool true) := Q17.out.cell (j := 2) rfl
    have w13c3 : w17.cell? ⟨w13.heap.size, 3, none⟩ = some (.slice (some ⟨w12.heap.size, 0, none⟩) 1 1) := Q17.out.cell (j := 3) rfl
    have TG2 := hid (show Tr w17 (fun k => k < w17.heap.size) (oneFo repSt (oneFo ⟨xw, ns, xb⟩ y)) [⟨wRepeat, some ⟨w11.heap.size, 0, none⟩, 2, 2, true, some ⟨w12.heap.size, 0, none⟩, 1, 1⟩] from rep_tr NR17.out XR17.out LT17.out.1 LT17.out.2 ((XT.out w17 B17.out).mono fun _ _ h => h))
    go_region_held3 (fun w' => w'.cell? ⟨w13.heap.size, 0, none⟩ = some (.string (strB wRepeat)) ∧ w'.cell? ⟨w13.heap.size, 1, none⟩ = some (.slice (some ⟨w11.heap.size, 0, none⟩) 2 2) ∧ w'.cell? ⟨w13.heap.size, 2, none⟩ = some (.bool true) ∧ w'.cell? ⟨w13.heap.size, 3, none⟩ = some (.slice (some ⟨w12.heap.size, 0, none⟩) 1 1)) (first | with_reducible exact ⟨w13c0, w13c1, w13c2, w13c3⟩ | go_keep) (first
      | (go_at_call 25; have hh1 := B17.out.trans (Pw19.out.pr.bl.mono B17.out.size); have hh2 := Pw19.out.trs TFw17.out TG2.out HKw17.out fun k h => h; refine (HC2.out w19 hh1 _ _ _ hh2).mono ?_; clear hh1 hh2; rintro e w20 ⟨rfl, bl⟩; have V20 := hid ((V17.out.below Pw19.out.pr.bl V17.out.lt).keep bl); have Q20 := hid (Pw19.out.pr.var.keep bl); have B20 := hid ((B17.out.trans (Pw19.out.pr.bl.mono B17.out.size)).trans (bl.mono (B17.out.trans (Pw19.out.pr.bl.mono B17.out.size)).size)); have w3c0 : w20.cell? ⟨w3.heap.size, 0, none⟩ = some (.string (strB xw)) := V20.out.cell (j := 0) rfl; have w13c0 : w20.cell? ⟨w13.heap.size, 0, none⟩ = some (.string (strB wRepeat)) := Q20.out.cell (j := 0) rfl;  have w13c1 : w20.cell? ⟨w13.heap.size, 1, none⟩ = some (.slice (some ⟨w11.heap.size, 0, none⟩) 2 2) := Q20.out.cell (j := 1) rfl;  have w13c2 : w20.cell? ⟨w13.heap.size, 2, none⟩ = some (.bool true) := Q20.out.cell (j := 2) rfl;  have w13c3 : w20.cell? ⟨w13.heap.size, 3, none⟩ = some (.slice (some ⟨w12.heap.size, 0, none⟩) 1 1) := Q20.out.cell (j := 3) rfl; clear bl; dsimp only)
      | (refine Sh.step_copy3 smS (A2 := some ⟨b, o, none⟩) (m := n) (c2 := c) (ys := ys) (base := w17.heap.size) rfl (.tmp 96) rfl rfl ?_ hn6 ?_ ?_; (focus exact XSw17.out _ (PR.bl (show PR w17.heap.size w17 _ w13.heap.size ⟨wRepeat, some ⟨w11.heap.size, 0, none⟩, 2, 2, true, some ⟨w12.heap.size, 0, none⟩, 1, 1⟩ from (by (repeat (first | with_reducible exact Pw17.out | with_reducible refine PR.alloc ?_ _ | with_reducible refine PR.drew ?_)); done)))); (focus exact PR.sz (show PR w17.heap.size w17 _ w13.heap.size ⟨wRepeat, some ⟨w11.heap.size, 0, none⟩, 2, 2, true, some ⟨w12.heap.size, 0, none⟩, 1, 1⟩ from (by (repeat (first | with_reducible exact Pw17.out | with_reducible refine PR.alloc ?_ _ | with_reducible refine PR.drew ?_)); done))); intro Aw18 cw18 w18 own gr; have Pw18 := hid (PR.copy (show PR w17.heap.size w17 _ w13.heap.size ⟨wRepeat, some ⟨w11.heap.size, 0, none⟩, 2, 2, true, some ⟨w12.heap.size, 0, none⟩, 1, 1⟩ from (by (repeat (first | with_reducible exact Pw17.out | with_reducible refine PR.alloc ?_ _ | with_reducible refine PR.drew ?_)); done)) own gr); (first | (refine row_then3 (b := w17.heap.size) (cs := [.string (strB wRepeat), .slice (some ⟨w11.heap.size, 0, none⟩) 2 2, .bool true, .slice (some ⟨w12.heap.size, 0, none⟩) 1 1]) gr ?_ rfl ?_; (focus ((repeat (first | with_reducible refine range_new' _ _ _ _ (by simp; done) | with_reducible refine World.rangeAt_alloc ?_ _ | with_reducible refine (World.rangeAt_drew _ _ _ _).2 ?_)); done)); intro rp) | skip); have w13c0 : w18.cell? ⟨w13.heap.size, 0, none⟩ = some (.string (strB wRepeat)) := Pw18.out.pr.var.cell (j := 0) rfl; have w13c1 : w18.cell? ⟨w13.heap.size, 1, none⟩ = some (.slice (some ⟨w11.heap.size, 0, none⟩) 2 2) := Pw18.out.pr.var.cell (j := 1) rfl; have w13c2 : w18.cell? ⟨w13.heap.size, 2, none⟩ = some (.bool true) := Pw18.out.pr.var.cell (j := 2) rfl; have w13c3 : w18.cell? ⟨w13.heap.size, 3, none⟩ = some (.slice (some ⟨w12.heap.size, 0, none⟩) 1 1) := Pw18.out.pr.var.cell (j := 3) rfl; clear own gr; dsimp only)
      | (refine Sh.step_push2 smS (A := Aw18) (c := cw18) (l := ys) (base := w17.heap.size) (x := ⟨wRepeat, some ⟨w11.heap.size, 0, none⟩, 2, 2, true, some ⟨w12.heap.size, 0, none⟩, 1, 1⟩) rfl (.tmp 97) (.tmp 99) rfl rfl ?_ rfl ?_ hn6 ?_ ?_; (focus exact CP.ow (show CP w17.heap.size w17 _ w13.heap.size ⟨wRepeat, some ⟨w11.heap.size, 0, none⟩, 2, 2, true, some ⟨w12.heap.size, 0, none⟩, 1, 1⟩ Aw18 n cw18 ys from (by (repeat (first | with_reducible exact Pw18.out | with_reducible refine CP.alloc ?_ _ | with_reducible refine CP.drew ?_)); done))); (focus show World.rangeAt _ _ _ [.string (strB wRepeat), .slice (some ⟨w11.heap.size, 0, none⟩) 2 2, .bool true, .slice (some ⟨w12.heap.size, 0, none⟩) 1 1]; exact (by (repeat (first | with_reducible exact rp | with_reducible exact range_new' _ _ _ _ (by simp; done) | with_reducible refine World.rangeAt_alloc ?_ _ | with_reducible refine (World.rangeAt_drew _ _ _ _).2 ?_)); done)); (focus exact PR.sz (CP.pr (show CP w17.heap.size w17 _ w13.heap.size ⟨wRepeat, some ⟨w11.heap.size, 0, none⟩, 2, 2, true, some ⟨w12.heap.size, 0, none⟩, 1, 1⟩ Aw18 n cw18 ys from (by (repeat (first | with_reducible exact Pw18.out | with_reducible refine CP.alloc ?_ _ | with_reducible refine CP.drew ?_)); done)))); intro Aw19 cw19 w19 own gr li; have Pw19 := hid (CP.push (show CP w17.heap.size w17 _ w13.heap.size ⟨wRepeat, some ⟨w11.heap.size, 0, none⟩, 2, 2, true, some ⟨w12.heap.size, 0, none⟩, 1, 1⟩ Aw18 n cw18 ys from (by (repeat (first | with_reducible exact Pw18.out | with_reducible refine CP.alloc ?_ _ | with_reducible refine CP.drew ?_)); done)) own gr); have w13c0 : w19.cell? ⟨w13.heap.size, 0, none⟩ = some (.string (strB wRepeat)) := Pw19.out.pr.var.cell (j := 0) rfl; have w13c1 : w19.cell? ⟨w13.heap.size, 1, none⟩ = some (.slice (some ⟨w11.heap.size, 0, none⟩) 2 2) := Pw19.out.pr.var.cell (j := 1) rfl; have w13c2 : w19.cell? ⟨w13.heap.size, 2, none⟩ = some (.bool true) := Pw19.out.pr.var.cell (j := 2) rfl; have w13c3 : w19.cell? ⟨w13.heap.size, 3, none⟩ = some (.slice (some ⟨w12.heap.size, 0, none⟩) 1 1) := Pw19.out.pr.var.cell (j := 3) rfl; clear own gr li; dsimp only))
    all_goals
      go_wp2_with (first
        | (go_at_call 37; refine (HW.out w20).mono ?_; rintro e w21 ⟨rfl, g21⟩; have B21 := hid (B20.out.trans (g21.mono B20.out.size)); clear g21))
      go_ret
      exact ⟨rfl, B21.out⟩
set_option maxRecDepth 100000 in
set_option maxHeartbeats 2000000 in
theorem once_o (f : Fo) (w : World) (K : Nat → Prop) (n c : Nat) (b o j : Nat) (ys : List Sm) (k : Int) (a cc y : Fo) (xw : List UInt8) (ns : List (Int × Bool)) (xb : Bool) (xA xB : Option Addr) (xn xc xm xk : Nat) (ks : List (Ky × Nat))
    (hL : LaidW w) (hC : LaidC w) (hx : RwP smS w K (some ⟨b, o, none⟩) n ys) (htr : Tr w K f ys) (hK : ∀ k, K k → k < w.heap.size) (hfw : fw17 f = true) (hn : 0 < n) (hks : Fine17 f ks) (hc4 : f.count ≤ 400) (hj : j < n) (hjv : (wrap64 (k.tmod (n : Int) + (n : Int))).tmod (n : Int) = (j : Int))
    (hfe : f = a.app ((oneFo ⟨xw, ns, xb⟩ y).app cc)) (hcell : w.rangeAt b (o + j * 4) (smS.enc ⟨xw, xA, xn, xc, xb, xB, xm, xk⟩)) (hns : RwP nmS w K xA xn ns) (hby : TrS w K xB xm y) (hwd : St.world ⟨xw, [], false⟩ = false) (hdp : (oneFo repSt (oneFo ⟨xw, ns, xb⟩ y)).depth ≤ 6) : OnceSaid w (some ⟨b, o, none⟩) n c k := by
  unfold OnceSaid
  have ht : TrS w K (some ⟨b, o, none⟩) n f := ⟨ys, hx, htr⟩
  have hb : b < w.heap.size := by obtain ⟨b2, o2, e, h, _⟩ := hx.2 hn; cases e; exact hK _ h
  have HV := hid (live17_any w hL hC)
  have HF := hid (fun w1 (hb : Below w.heap.size w w1) => few17_any f w1 K _ n c (ht.below hb))
  have HC := hid (fun w1 (hb : Below w.heap.size w w1) => chkc_any f w1 K _ n c (hC.below hb) (ht.below hb) (fun k hk => Nat.lt_of_lt_of_le (hK k hk) hb.size) (fw17_chk hfw (ht.below hb)))
  rw [hfw] at HF
  rw [fine_chkF hks] at HC
  have hnl : n ≤ 400 := by rw [ht.len]; have := f.len_le; omega
  have hn6 : n ≤ 1000000 := by omega
  have HCT := hid (fun w1 (hb : Below w.heap.size w w1) => count_any f w1 K _ n c (ht.below hb) (by omega))
  have HW := hid (fun w1 => world17_any xw w1)
  rw [hwd] at HW
  have hone : St.world ⟨xw, ns, xb⟩ = false := hwd
  obtain ⟨hk1, hk2, hk3⟩ := chk_once hfe hks.chk hc4
  have HQ1 := hid (once_other hfe hks hk1 hone)
  have HC1 := hid (fun (w1 : World) (hb : Below w.heap.size w w1) A m c1 (t : TrS w1 (fun k => k < w1.heap.size) A m (f.app (oneFo ⟨xw, ns, xb⟩ y))) => (show Calls Tryz.prog 25 #[.slice A m c1] w1 fun e w' => e = .returned (.tuple #[.int .i64 0, .int .i64 0]) ∧ Below w1.heap.size w1 w' from by
    have := chkc_any _ w1 _ A m c1 (hC.below hb) t (fun k hk => hk) (chkAt_of t hk2 (by omega)); rw [HQ1.out] at this; exact this))
  obtain ⟨hr1, hr2, hr3⟩ := chk_rep hfe hks.chk hc4 hdp
  have HQ2 := hid (rep_other hfe hks hr1 hone)
  have HC2 := hid (fun (w1 : World) (hb : Below w.heap.size w w1) A m c1 (t : TrS w1 (fun k => k < w1.heap.size) A m (f.app (oneFo repSt (oneFo ⟨xw, ns, xb⟩ y)))) => (show Calls Tryz.prog 25 #[.slice A m c1] w1 fun e w' => e = .returned (.tuple #[.int .i64 0, .int .i64 0]) ∧ Below w1.heap.size w1 w' from by
    have := chkc_any _ w1 _ A m c1 (hC.below hb) t (fun k hk => hk) (chkAt_of t hr2 (by omega)); rw [HQ2.out] at this; exact this))
  have HD := hid (fun (w1 : World) K1 A m c1 (t : TrS w1 K1 A m (oneFo repSt (oneFo ⟨xw, ns, xb⟩ y))) => depth_any (oneFo repSt (oneFo ⟨xw, ns, xb⟩ y)) w1 K1 A m c1 t (by
    have h1 : f.count = a.count + ((oneFo ⟨xw, ns, xb⟩ y).count + cc.count) := by rw [hfe, Fo.count_app, Fo.count_app]
    have h2 : (oneFo repSt (oneFo ⟨xw, ns, xb⟩ y)).count = 1 + (oneFo ⟨xw, ns, xb⟩ y).count := rfl
    omega))
  have hdv2 : (6 < ((oneFo repSt (oneFo ⟨xw, ns, xb⟩ y)).depth : Int)) = False := by simp; omega
  generalize (oneFo repSt (oneFo ⟨xw, ns, xb⟩ y)).depth = D at *
  have HT := hid (And.intro hx (And.intro htr (And.intro hns hby)))
  have HK := hid hK
  have HR := hid (And.intro hb hcell)
  have hn1 : ((n : Int) = 0) = False := by simp; omega
  have hfc : wrap64 ((f.count : Int) + 1) = (f.count : Int) + 1 := IntWalk.wrap64_in _ (by omega)
  clear hL hC ht hK hfw hks hx htr hns hby hcell hb hk1 hk2 hk3 hfe hwd hone HQ1 hr1 hr2 hr3 HQ2 hdp hc4
  go_enter Tryz.func9, Tryz.ntmps9
  go_upto_region 8 with (first
    | (go_at_call 25; refine (HC.out w2 B2.out).mono ?_; rintro e w3 ⟨rfl, g3⟩; have B3 := hid (B2.out.trans (g3.mono B2.out.size)); clear g3)
    | (go_at_call 22; refine (HF.out w1 B1.out).mono ?_; rintro e w2 ⟨rfl, g2⟩; have B2 := hid (B1.out.trans (g2.mono B1.out.size)); clear g2)
    | (go_at_call 21; refine HV.out.mono ?_; rintro e w1 ⟨rfl, g1⟩; have B1 := hid g1; clear g1))
  have r1 := range_below B3.out HR.out.1 HR.out.2
  clear HV HF HC
  go_upto_region 10 with (first
    | (go_at_call 38; refine (HCT.out w5 B5.out).mono ?_; rintro e w6 ⟨rfl, g6⟩; have V6 := hid (V5.out.keep g6); have B6 := hid (B5.out.trans (g6.mono B5.out.size)); clear g6)
    | (refine Sh.wp_sv smS (x := ⟨xw, xA, xn, xc, xb, xB, xm, xk⟩) rfl (.tmp 8) (.tmp 46) rfl rfl (by rfl) q4 ?_; intro w5 q5 b5 o5 s5; have B35 := hid (B34.out.trans (b5.mono (Nat.le_refl _))); have V5 := hid q5; have B5 := hid (B3.out.trans (B35.out.mono B3.out.size)); clear q4 q5 b5 o5 s5)
    | (refine Sh.wp_al smS rfl rfl ?_; intro w4 q4 b4 s4; have B34 := hid b4; clear b4 s4)
    | (refine Sh.wp_ld smS rfl (.tmp 45) rfl rfl r1 ?_))
  clear r1
  have Pw6 := hid (show PR w6.heap.size w6 w6 w3.heap.size ⟨xw, xA, xn, xc, xb, xB, xm, xk⟩ from ⟨V6.out, Below.refl _ _, Nat.le_refl _, V6.out.lt⟩)
  have XSw6 := hid (fun w' (hb : Below w6.heap.size w6 w') => ((HT.out.1.keep (fun k hk _ => B6.out.block k (HK.out k hk))).keep (fun k hk _ => hb.block k (Nat.lt_of_lt_of_le (HK.out k hk) B6.out.size))).size)
  have TFw6 := hid (HT.out.2.1.keep (fun k hk _ => B6.out.block k (HK.out k hk)))
  have HKw6 := hid (fun k (hk : K k) => Nat.lt_of_lt_of_le (HK.out k hk) B6.out.size)
  have w3c0 : w6.cell? ⟨w3.heap.size, 0, none⟩ = some (.string (strB xw)) := V6.out.cell (j := 0) rfl
  have w3c1 : w6.cell? ⟨w3.heap.size, 1, none⟩ = some (.slice xA xn xc) := V6.out.cell (j := 1) rfl
  have w3c2 : w6.cell? ⟨w3.heap.size, 2, none⟩ = some (.bool xb) := V6.out.cell (j := 2) rfl
  have w3c3 : w6.cell? ⟨w3.heap.size, 3, none⟩ = some (.slice xB xm xk) := V6.out.cell (j := 3) rfl
  have TG := hid (show Tr w6 K (oneFo ⟨xw, ns, xb⟩ y) [⟨xw, xA, xn, xc, xb, xB, xm, xk⟩] from tr_one rfl rfl (HT.out.2.2.1.keep (fun k hk _ => B6.out.block k (HK.out k hk))) (HT.out.2.2.2.keep (fun k hk _ => B6.out.block k (HK.out k hk))))
  have XT := hid (fun w' (hb : Below w.heap.size w w') => (show Tr w' (fun _ => True) (oneFo ⟨xw, ns, xb⟩ y) [⟨xw, xA, xn, xc, xb, xB, xm, xk⟩] from tr_one rfl rfl ((HT.out.2.2.1.keep (fun k hk _ => hb.block k (HK.out k hk))).mono fun _ _ _ => trivial) ((HT.out.2.2.2.keep (fun k hk _ => hb.block k (HK.out k hk))).mono fun _ _ _ => trivial)))
  go_region_held3 (fun w' => w'.cell? ⟨w3.heap.size, 0, none⟩ = some (.string (strB xw)) ∧ w'.cell? ⟨w3.heap.size, 1, none⟩ = some (.slice xA xn xc) ∧ w'.cell? ⟨w3.heap.size, 2, none⟩ = some (.bool xb) ∧ w'.cell? ⟨w3.heap.size, 3, none⟩ = some (.slice xB xm xk)) (first | with_reducible exact ⟨w3c0, w3c1, w3c2, w3c3⟩ | go_keep) (first
    | (go_at_call 25; have hh1 := B6.out.trans (Pw8.out.pr.bl.mono B6.out.size); have hh2 := Pw8.out.trs TFw6.out TG.out HKw6.out HKw6.out; refine (HC1.out w8 hh1 _ _ _ hh2).mono ?_; clear hh1 hh2; rintro e w9 ⟨rfl, bl⟩; have V9 := hid (Pw8.out.pr.var.keep bl); have B9 := hid ((B6.out.trans (Pw8.out.pr.bl.mono B6.out.size)).trans (bl.mono (B6.out.trans (Pw8.out.pr.bl.mono B6.out.size)).size)); have w3c0 : w9.cell? ⟨w3.heap.size, 0, none⟩ = some (.string (strB xw)) := V9.out.cell (j := 0) rfl;  have w3c1 : w9.cell? ⟨w3.heap.size, 1, none⟩ = some (.slice xA xn xc) := V9.out.cell (j := 1) rfl;  have w3c2 : w9.cell? ⟨w3.heap.size, 2, none⟩ = some (.bool xb) := V9.out.cell (j := 2) rfl;  have w3c3 : w9.cell? ⟨w3.heap.size, 3, none⟩ = some (.slice xB xm xk) := V9.out.cell (j := 3) rfl; clear bl; dsimp only)
    | (refine Sh.step_copy3 smS (A2 := some ⟨b, o, none⟩) (m := n) (c2 := c) (ys := ys) (base := w6.heap.size) rfl (.tmp 50) rfl rfl ?_ hn6 ?_ ?_; (focus exact XSw6.out _ (PR.bl (show PR w6.heap.size w6 _ w3.heap.size ⟨xw, xA, xn, xc, xb, xB, xm, xk⟩ from (by (repeat (first | with_reducible exact Pw6.out | with_reducible refine PR.alloc ?_ _ | with_reducible refine PR.drew ?_)); done)))); (focus exact PR.sz (show PR w6.heap.size w6 _ w3.heap.size ⟨xw, xA, xn, xc, xb, xB, xm, xk⟩ from (by (repeat (first | with_reducible exact Pw6.out | with_reducible refine PR.alloc ?_ _ | with_reducible refine PR.drew ?_)); done))); intro Aw7 cw7 w7 own gr; have Pw7 := hid (PR.copy (show PR w6.heap.size w6 _ w3.heap.size ⟨xw, xA, xn, xc, xb, xB, xm, xk⟩ from (by (repeat (first | with_reducible exact Pw6.out | with_reducible refine PR.alloc ?_ _ | with_reducible refine PR.drew ?_)); done)) own gr); (first | (refine row_then3 (b := w6.heap.size) (cs := [.string (strB xw), .slice xA xn xc, .bool xb, .slice xB xm xk]) gr ?_ rfl ?_; (focus ((repeat (first | with_reducible refine range_new' _ _ _ _ (by simp; done) | with_reducible refine World.rangeAt_alloc ?_ _ | with_reducible refine (World.rangeAt_drew _ _ _ _).2 ?_)); done)); intro rp) | skip); have w3c0 : w7.cell? ⟨w3.heap.size, 0, none⟩ = some (.string (strB xw)) := Pw7.out.pr.var.cell (j := 0) rfl; have w3c1 : w7.cell? ⟨w3.heap.size, 1, none⟩ = some (.slice xA xn xc) := Pw7.out.pr.var.cell (j := 1) rfl; have w3c2 : w7.cell? ⟨w3.heap.size, 2, none⟩ = some (.bool xb) := Pw7.out.pr.var.cell (j := 2) rfl; have w3c3 : w7.cell? ⟨w3.heap.size, 3, none⟩ = some (.slice xB xm xk) := Pw7.out.pr.var.cell (j := 3) rfl; clear own gr; dsimp only)
    | (refine Sh.step_push2 smS (A := Aw7) (c := cw7) (l := ys) (base := w6.heap.size) (x := ⟨xw, xA, xn, xc, xb, xB, xm, xk⟩) rfl (.tmp 51) (.tmp 53) rfl rfl ?_ rfl ?_ hn6 ?_ ?_; (focus exact CP.ow (show CP w6.heap.size w6 _ w3.heap.size ⟨xw, xA, xn, xc, xb, xB, xm, xk⟩ Aw7 n cw7 ys from (by (repeat (first | with_reducible exact Pw7.out | with_reducible refine CP.alloc ?_ _ | with_reducible refine CP.drew ?_)); done))); (focus show World.rangeAt _ _ _ [.string (strB xw), .slice xA xn xc, .bool xb, .slice xB xm xk]; exact (by (repeat (first | with_reducible exact rp | with_reducible exact range_new' _ _ _ _ (by simp; done) | with_reducible refine World.rangeAt_alloc ?_ _ | with_reducible refine (World.rangeAt_drew _ _ _ _).2 ?_)); done)); (focus exact PR.sz (CP.pr (show CP w6.heap.size w6 _ w3.heap.size ⟨xw, xA, xn, xc, xb, xB, xm, xk⟩ Aw7 n cw7 ys from (by (repeat (first | with_reducible exact Pw7.out | with_reducible refine CP.alloc ?_ _ | with_reducible refine CP.drew ?_)); done)))); intro Aw8 cw8 w8 own gr li; have Pw8 := hid (CP.push (show CP w6.heap.size w6 _ w3.heap.size ⟨xw, xA, xn, xc, xb, xB, xm, xk⟩ Aw7 n cw7 ys from (by (repeat (first | with_reducible exact Pw7.out | with_reducible refine CP.alloc ?_ _ | with_reducible refine CP.drew ?_)); done)) own gr); have w3c0 : w8.cell? ⟨w3.heap.size, 0, none⟩ = some (.string (strB xw)) := Pw8.out.pr.var.cell (j := 0) rfl; have w3c1 : w8.cell? ⟨w3.heap.size, 1, none⟩ = some (.slice xA xn xc) := Pw8.out.pr.var.cell (j := 1) rfl; have w3c2 : w8.cell? ⟨w3.heap.size, 2, none⟩ = some (.bool xb) := Pw8.out.pr.var.cell (j := 2) rfl; have w3c3 : w8.cell? ⟨w3.heap.size, 3, none⟩ = some (.slice xB xm xk) := Pw8.out.pr.var.cell (j := 3) rfl; clear own gr li; dsimp only))
  all_goals
    go_upto_region 13 with (first
      | (go_at_call 37; refine (HW.out w10).mono ?_; rintro e w11 ⟨rfl, g11⟩; have V11 := hid (V10.out.keep g11); have B11 := hid (B10.out.trans (g11.mono B10.out.size)); clear g11; have w3c0 : w11.cell? ⟨w3.heap.size, 0, none⟩ = some (.string (strB xw)) := V11.out.cell (j := 0) rfl)
      | (go_at_call 37; refine (HW.out w9).mono ?_; rintro e w10 ⟨rfl, g10⟩; have V10 := hid (V9.out.keep g10); have B10 := hid (B9.out.trans (g10.mono B9.out.size)); clear g10; have w3c0 : w10.cell? ⟨w3.heap.size, 0, none⟩ = some (.string (strB xw)) := V10.out.cell (j := 0) rfl))
    go_upto_region 16 with (first
      | (go_at_call 39; refine (HD.out w16 (fun _ => True) (some ⟨w15.heap.size, 0, none⟩) 1 1 ⟨[⟨wRepeat, some ⟨w11.heap.size, 0, none⟩, 2, 2, true, some ⟨w12.heap.size, 0, none⟩, 1, 1⟩], rw_one RR16.out trivial, rep_tr NR16.out XR16.out trivial trivial (XT.out w16 B16.out)⟩).mono ?_; rintro e w17 ⟨rfl, b17⟩; have V17 := hid (V16.out.keep b17); have Q17 := hid (Q16.out.keep b17); have NR17 := hid (range_below b17 (by have := S12.out; have := S13.out; have := S14.out; have := S15.out; have := S16.out; omega) NR16.out); have XR17 := hid (range_below b17 (by have := S12.out; have := S13.out; have := S14.out; have := S15.out; have := S16.out; omega) XR16.out); have LT17 := hid (show w11.heap.size < w17.heap.size ∧ w12.heap.size < w17.heap.size from by have := S12.out; have := S13.out; have := S14.out; have := S15.out; have := S16.out; have := b17.size; omega); have B17 := hid (B16.out.trans (b17.mono B16.out.size)); clear b17)
      | (refine bs_sm rfl (.tmp 90) rfl rfl ?_; intro w16 r16 b16 s16; have S16 := s16; have RR16 := hid r16; have V16 := hid (V15.out.keep b16); have Q16 := hid (Q15.out.keep b16); have NR16 := hid (range_below b16 (by have := S12.out; have := S13.out; have := S14.out; have := S15.out; omega) NR15.out); have XR16 := hid (range_below b16 (by have := S12.out; have := S13.out; have := S14.out; have := S15.out; omega) XR15.out); have B16 := hid (B15.out.trans (b16.mono B15.out.size)); clear r16 b16 s16)
      | (refine Sh.wp_ld smS rfl (.tmp 12) rfl rfl Q15.out.1 ?_)
      | (refine Sh.wp_sv smS (x := ⟨wRepeat, some ⟨w11.heap.size, 0, none⟩, 2, 2, true, some ⟨w12.heap.size, 0, none⟩, 1, 1⟩) rfl (.tmp 12) (.tmp 89) rfl rfl (by rfl) q14 ?_; intro w15 q15 b15 o15 s15; have S15 := s15; have Q15 := hid q15; have V15 := hid (V14.out.below b15 V13.out.lt); have NR15 := hid (range_below b15 (by have := S12.out; have := S13.out; omega) NR14.out); have XR15 := hid (range_below b15 (by have := S12.out; have := S13.out; omega) XR14.out); have B15 := hid (B13.out.trans ((B1314.out.trans b15).mono B13.out.size)); clear q14 q15 b15 o15 s15)
      | (have tk := XR13; clear tk; refine Sh.wp_al smS rfl rfl ?_; intro w14 q14 b14 s14; have S14 := s14; have B1314 := hid b14; have V14 := hid (V13.out.keep b14); have NR14 := hid (range_below b14 (by have := S12.out; have := S13.out; omega) NR13.out); have XR14 := hid (range_below b14 (by have := S12.out; have := S13.out; omega) XR13.out); clear b14 s14)
      | (refine bs_sm rfl (.tmp 87) rfl rfl ?_; intro w13 r13 b13 s13; have S13 := s13; have XR13 := hid r13; have V13 := hid (V12.out.keep b13); have NR13 := hid (range_below b13 (by have := S12.out; omega) NR12.out); have B13 := hid (B12.out.trans (b13.mono B12.out.size)); clear r13 b13 s13)
      | (refine Sh.wp_ld smS rfl (.tmp 8) rfl rfl V12.out.1 ?_)
      | (refine nm_step (.tmp 84) (.tmp 85) rfl rfl rfl rfl ?_; intro w12 r12 b12 s12; have S12 := s12; have NR12 := hid r12; have V12 := hid (V11.out.keep b12); have B12 := hid (B11.out.trans (b12.mono B11.out.size)); clear r12 b12 s12))
    have Pw17 := hid (show PR w17.heap.size w17 w17 w13.heap.size ⟨wRepeat, some ⟨w11.heap.size, 0, none⟩, 2, 2, true, some ⟨w12.heap.size, 0, none⟩, 1, 1⟩ from ⟨Q17.out, Below.refl _ _, Nat.le_refl _, Q17.out.lt⟩)
    have XSw17 := hid (fun w' (hb : Below w17.heap.size w17 w') => ((HT.out.1.keep (fun k hk _ => B17.out.block k (HK.out k hk))).keep (fun k hk _ => hb.block k (Nat.lt_of_lt_of_le (HK.out k hk) B17.out.size))).size)
    have TFw17 := hid (HT.out.2.1.keep (fun k hk _ => B17.out.block k (HK.out k hk)))
    have HKw17 := hid (fun k (hk : K k) => Nat.lt_of_lt_of_le (HK.out k hk) B17.out.size)
    have w13c0 : w17.cell? ⟨w13.heap.size, 0, none⟩ = some (.string (strB wRepeat)) := Q17.out.cell (j := 0) rfl
    have w13c1 : w17.cell? ⟨w13.heap.size, 1, none⟩ = some (.slice (some ⟨w11.heap.size, 0, none⟩) 2 2) := Q17.out.cell (j := 1) rfl
    have w13c2 : w17.cell? ⟨w13.heap.size, 2, none⟩ = some (.bool true) := Q17.out.cell (j := 2) rfl
    have w13c3 : w17.cell? ⟨w13.heap.size, 3, none⟩ = some (.slice (some ⟨w12.heap.size, 0, none⟩) 1 1) := Q17.out.cell (j := 3) rfl
    have TG2 := hid (show Tr w17 (fun k => k < w17.heap.size) (oneFo repSt (oneFo ⟨xw, ns, xb⟩ y)) [⟨wRepeat, some ⟨w11.heap.size, 0, none⟩, 2, 2, true, some ⟨w12.heap.size, 0, none⟩, 1, 1⟩] from rep_tr NR17.out XR17.out LT17.out.1 LT17.out.2 ((XT.out w17 B17.out).mono fun _ _ h => h))
    go_region_held3 (fun w' => w'.cell? ⟨w13.heap.size, 0, none⟩ = some (.string (strB wRepeat)) ∧ w'.cell? ⟨w13.heap.size, 1, none⟩ = some (.slice (some ⟨w11.heap.size, 0, none⟩) 2 2) ∧ w'.cell? ⟨w13.heap.size, 2, none⟩ = some (.bool true) ∧ w'.cell? ⟨w13.heap.size, 3, none⟩ = some (.slice (some ⟨w12.heap.size, 0, none⟩) 1 1)) (first | with_reducible exact ⟨w13c0, w13c1, w13c2, w13c3⟩ | go_keep) (first
      | (go_at_call 25; have hh1 := B17.out.trans (Pw19.out.pr.bl.mono B17.out.size); have hh2 := Pw19.out.trs TFw17.out TG2.out HKw17.out fun k h => h; refine (HC2.out w19 hh1 _ _ _ hh2).mono ?_; clear hh1 hh2; rintro e w20 ⟨rfl, bl⟩; have V20 := hid ((V17.out.below Pw19.out.pr.bl V17.out.lt).keep bl); have Q20 := hid (Pw19.out.pr.var.keep bl); have B20 := hid ((B17.out.trans (Pw19.out.pr.bl.mono B17.out.size)).trans (bl.mono (B17.out.trans (Pw19.out.pr.bl.mono B17.out.size)).size)); have w3c0 : w20.cell? ⟨w3.heap.size, 0, none⟩ = some (.string (strB xw)) := V20.out.cell (j := 0) rfl; have w13c0 : w20.cell? ⟨w13.heap.size, 0, none⟩ = some (.string (strB wRepeat)) := Q20.out.cell (j := 0) rfl;  have w13c1 : w20.cell? ⟨w13.heap.size, 1, none⟩ = some (.slice (some ⟨w11.heap.size, 0, none⟩) 2 2) := Q20.out.cell (j := 1) rfl;  have w13c2 : w20.cell? ⟨w13.heap.size, 2, none⟩ = some (.bool true) := Q20.out.cell (j := 2) rfl;  have w13c3 : w20.cell? ⟨w13.heap.size, 3, none⟩ = some (.slice (some ⟨w12.heap.size, 0, none⟩) 1 1) := Q20.out.cell (j := 3) rfl; clear bl; dsimp only)
      | (refine Sh.step_copy3 smS (A2 := some ⟨b, o, none⟩) (m := n) (c2 := c) (ys := ys) (base := w17.heap.size) rfl (.tmp 96) rfl rfl ?_ hn6 ?_ ?_; (focus exact XSw17.out _ (PR.bl (show PR w17.heap.size w17 _ w13.heap.size ⟨wRepeat, some ⟨w11.heap.size, 0, none⟩, 2, 2, true, some ⟨w12.heap.size, 0, none⟩, 1, 1⟩ from (by (repeat (first | with_reducible exact Pw17.out | with_reducible refine PR.alloc ?_ _ | with_reducible refine PR.drew ?_)); done)))); (focus exact PR.sz (show PR w17.heap.size w17 _ w13.heap.size ⟨wRepeat, some ⟨w11.heap.size, 0, none⟩, 2, 2, true, some ⟨w12.heap.size, 0, none⟩, 1, 1⟩ from (by (repeat (first | with_reducible exact Pw17.out | with_reducible refine PR.alloc ?_ _ | with_reducible refine PR.drew ?_)); done))); intro Aw18 cw18 w18 own gr; have Pw18 := hid (PR.copy (show PR w17.heap.size w17 _ w13.heap.size ⟨wRepeat, some ⟨w11.heap.size, 0, none⟩, 2, 2, true, some ⟨w12.heap.size, 0, none⟩, 1, 1⟩ from (by (repeat (first | with_reducible exact Pw17.out | with_reducible refine PR.alloc ?_ _ | with_reducible refine PR.drew ?_)); done)) own gr); (first | (refine row_then3 (b := w17.heap.size) (cs := [.string (strB wRepeat), .slice (some ⟨w11.heap.size, 0, none⟩) 2 2, .bool true, .slice (some ⟨w12.heap.size, 0, none⟩) 1 1]) gr ?_ rfl ?_; (focus ((repeat (first | with_reducible refine range_new' _ _ _ _ (by simp; done) | with_reducible refine World.rangeAt_alloc ?_ _ | with_reducible refine (World.rangeAt_drew _ _ _ _).2 ?_)); done)); intro rp) | skip); have w13c0 : w18.cell? ⟨w13.heap.size, 0, none⟩ = some (.string (strB wRepeat)) := Pw18.out.pr.var.cell (j := 0) rfl; have w13c1 : w18.cell? ⟨w13.heap.size, 1, none⟩ = some (.slice (some ⟨w11.heap.size, 0, none⟩) 2 2) := Pw18.out.pr.var.cell (j := 1) rfl; have w13c2 : w18.cell? ⟨w13.heap.size, 2, none⟩ = some (.bool true) := Pw18.out.pr.var.cell (j := 2) rfl; have w13c3 : w18.cell? ⟨w13.heap.size, 3, none⟩ = some (.slice (some ⟨w12.heap.size, 0, none⟩) 1 1) := Pw18.out.pr.var.cell (j := 3) rfl; clear own gr; dsimp only)
      | (refine Sh.step_push2 smS (A := Aw18) (c := cw18) (l := ys) (base := w17.heap.size) (x := ⟨wRepeat, some ⟨w11.heap.size, 0, none⟩, 2, 2, true, some ⟨w12.heap.size, 0, none⟩, 1, 1⟩) rfl (.tmp 97) (.tmp 99) rfl rfl ?_ rfl ?_ hn6 ?_ ?_; (focus exact CP.ow (show CP w17.heap.size w17 _ w13.heap.size ⟨wRepeat, some ⟨w11.heap.size, 0, none⟩, 2, 2, true, some ⟨w12.heap.size, 0, none⟩, 1, 1⟩ Aw18 n cw18 ys from (by (repeat (first | with_reducible exact Pw18.out | with_reducible refine CP.alloc ?_ _ | with_reducible refine CP.drew ?_)); done))); (focus show World.rangeAt _ _ _ [.string (strB wRepeat), .slice (some ⟨w11.heap.size, 0, none⟩) 2 2, .bool true, .slice (some ⟨w12.heap.size, 0, none⟩) 1 1]; exact (by (repeat (first | with_reducible exact rp | with_reducible exact range_new' _ _ _ _ (by simp; done) | with_reducible refine World.rangeAt_alloc ?_ _ | with_reducible refine (World.rangeAt_drew _ _ _ _).2 ?_)); done)); (focus exact PR.sz (CP.pr (show CP w17.heap.size w17 _ w13.heap.size ⟨wRepeat, some ⟨w11.heap.size, 0, none⟩, 2, 2, true, some ⟨w12.heap.size, 0, none⟩, 1, 1⟩ Aw18 n cw18 ys from (by (repeat (first | with_reducible exact Pw18.out | with_reducible refine CP.alloc ?_ _ | with_reducible refine CP.drew ?_)); done)))); intro Aw19 cw19 w19 own gr li; have Pw19 := hid (CP.push (show CP w17.heap.size w17 _ w13.heap.size ⟨wRepeat, some ⟨w11.heap.size, 0, none⟩, 2, 2, true, some ⟨w12.heap.size, 0, none⟩, 1, 1⟩ Aw18 n cw18 ys from (by (repeat (first | with_reducible exact Pw18.out | with_reducible refine CP.alloc ?_ _ | with_reducible refine CP.drew ?_)); done)) own gr); have w13c0 : w19.cell? ⟨w13.heap.size, 0, none⟩ = some (.string (strB wRepeat)) := Pw19.out.pr.var.cell (j := 0) rfl; have w13c1 : w19.cell? ⟨w13.heap.size, 1, none⟩ = some (.slice (some ⟨w11.heap.size, 0, none⟩) 2 2) := Pw19.out.pr.var.cell (j := 1) rfl; have w13c2 : w19.cell? ⟨w13.heap.size, 2, none⟩ = some (.bool true) := Pw19.out.pr.var.cell (j := 2) rfl; have w13c3 : w19.cell? ⟨w13.heap.size, 3, none⟩ = some (.slice (some ⟨w12.heap.size, 0, none⟩) 1 1) := Pw19.out.pr.var.cell (j := 3) rfl; clear own gr li; dsimp only))
    all_goals
      go_wp2_with (first
        | (go_at_call 37; refine (HW.out w20).mono ?_; rintro e w21 ⟨rfl, g21⟩; have B21 := hid (B20.out.trans (g21.mono B20.out.size)); clear g21))
      go_ret
      exact ⟨rfl, B21.out⟩
set_option maxRecDepth 100000 in
set_option maxHeartbeats 2000000 in
theorem once_wd (f : Fo) (w : World) (K : Nat → Prop) (n c : Nat) (b o j : Nat) (ys : List Sm) (k : Int) (a cc y : Fo) (xw : List UInt8) (ns : List (Int × Bool)) (xb : Bool) (xA xB : Option Addr) (xn xc xm xk : Nat) (ks : List (Ky × Nat))
    (hL : LaidW w) (hC : LaidC w) (hx : RwP smS w K (some ⟨b, o, none⟩) n ys) (htr : Tr w K f ys) (hK : ∀ k, K k → k < w.heap.size) (hfw : fw17 f = true) (hn : 0 < n) (hks : Fine17 f ks) (hc4 : f.count ≤ 400) (hj : j < n) (hjv : (wrap64 (k.tmod (n : Int) + (n : Int))).tmod (n : Int) = (j : Int))
    (hfe : f = a.app ((oneFo ⟨xw, ns, xb⟩ y).app cc)) (hcell : w.rangeAt b (o + j * 4) (smS.enc ⟨xw, xA, xn, xc, xb, xB, xm, xk⟩)) (hns : RwP nmS w K xA xn ns) (hby : TrS w K xB xm y) (hwd : St.world ⟨xw, [], false⟩ = true) (hdp : 6 < (oneFo repSt (oneFo ⟨xw, ns, xb⟩ y)).depth) : OnceSaid w (some ⟨b, o, none⟩) n c k := by
  unfold OnceSaid
  have ht : TrS w K (some ⟨b, o, none⟩) n f := ⟨ys, hx, htr⟩
  have hb : b < w.heap.size := by obtain ⟨b2, o2, e, h, _⟩ := hx.2 hn; cases e; exact hK _ h
  have HV := hid (live17_any w hL hC)
  have HF := hid (fun w1 (hb : Below w.heap.size w w1) => few17_any f w1 K _ n c (ht.below hb))
  have HC := hid (fun w1 (hb : Below w.heap.size w w1) => chkc_any f w1 K _ n c (hC.below hb) (ht.below hb) (fun k hk => Nat.lt_of_lt_of_le (hK k hk) hb.size) (fw17_chk hfw (ht.below hb)))
  rw [hfw] at HF
  rw [fine_chkF hks] at HC
  have hnl : n ≤ 400 := by rw [ht.len]; have := f.len_le; omega
  have hn6 : n ≤ 1000000 := by omega
  have HCT := hid (fun w1 (hb : Below w.heap.size w w1) => count_any f w1 K _ n c (ht.below hb) (by omega))
  have HW := hid (fun w1 => world17_any xw w1)
  rw [hwd] at HW
  have hone : St.world ⟨xw, ns, xb⟩ = true := hwd
  obtain ⟨hk1, hk2, hk3⟩ := chk_once hfe hks.chk hc4
  have HQ1 := hid (once_again hfe hks hk1 hone)
  have HC1 := hid (fun (w1 : World) (hb : Below w.heap.size w w1) A m c1 (t : TrS w1 (fun k => k < w1.heap.size) A m (f.app (oneFo ⟨xw, ns, xb⟩ y))) => (show Calls Tryz.prog 25 #[.slice A m c1] w1 fun e w' => e = .returned (.tuple #[.int .i64 (f.count : Int), .int .i64 7]) ∧ Below w1.heap.size w1 w' from by
    have := chkc_any _ w1 _ A m c1 (hC.below hb) t (fun k hk => hk) (chkAt_of t hk2 (by omega)); rw [HQ1.out] at this; exact this))
  have HD := hid (fun (w1 : World) K1 A m c1 (t : TrS w1 K1 A m (oneFo repSt (oneFo ⟨xw, ns, xb⟩ y))) => depth_any (oneFo repSt (oneFo ⟨xw, ns, xb⟩ y)) w1 K1 A m c1 t (by
    have h1 : f.count = a.count + ((oneFo ⟨xw, ns, xb⟩ y).count + cc.count) := by rw [hfe, Fo.count_app, Fo.count_app]
    have h2 : (oneFo repSt (oneFo ⟨xw, ns, xb⟩ y)).count = 1 + (oneFo ⟨xw, ns, xb⟩ y).count := rfl
    omega))
  have hdv : (((oneFo repSt (oneFo ⟨xw, ns, xb⟩ y)).depth : Int) ≤ 6) = False := by simp; omega
  have hdv2 : (6 < ((oneFo repSt (oneFo ⟨xw, ns, xb⟩ y)).depth : Int)) = True := by simp; omega
  generalize (oneFo repSt (oneFo ⟨xw, ns, xb⟩ y)).depth = D at *
  have HT := hid (And.intro hx (And.intro htr (And.intro hns hby)))
  have HK := hid hK
  have HR := hid (And.intro hb hcell)
  have hn1 : ((n : Int) = 0) = False := by simp; omega
  have hfc : wrap64 ((f.count : Int) + 1) = (f.count : Int) + 1 := IntWalk.wrap64_in _ (by omega)
  clear hL hC ht hK hfw hks hx htr hns hby hcell hb hk1 hk2 hk3 hfe hwd hone HQ1 hdp hc4
  go_enter Tryz.func9, Tryz.ntmps9
  go_upto_region 8 with (first
    | (go_at_call 25; refine (HC.out w2 B2.out).mono ?_; rintro e w3 ⟨rfl, g3⟩; have B3 := hid (B2.out.trans (g3.mono B2.out.size)); clear g3)
    | (go_at_call 22; refine (HF.out w1 B1.out).mono ?_; rintro e w2 ⟨rfl, g2⟩; have B2 := hid (B1.out.trans (g2.mono B1.out.size)); clear g2)
    | (go_at_call 21; refine HV.out.mono ?_; rintro e w1 ⟨rfl, g1⟩; have B1 := hid g1; clear g1))
  have r1 := range_below B3.out HR.out.1 HR.out.2
  clear HV HF HC
  go_upto_region 10 with (first
    | (go_at_call 38; refine (HCT.out w5 B5.out).mono ?_; rintro e w6 ⟨rfl, g6⟩; have V6 := hid (V5.out.keep g6); have B6 := hid (B5.out.trans (g6.mono B5.out.size)); clear g6)
    | (refine Sh.wp_sv smS (x := ⟨xw, xA, xn, xc, xb, xB, xm, xk⟩) rfl (.tmp 8) (.tmp 46) rfl rfl (by rfl) q4 ?_; intro w5 q5 b5 o5 s5; have B35 := hid (B34.out.trans (b5.mono (Nat.le_refl _))); have V5 := hid q5; have B5 := hid (B3.out.trans (B35.out.mono B3.out.size)); clear q4 q5 b5 o5 s5)
    | (refine Sh.wp_al smS rfl rfl ?_; intro w4 q4 b4 s4; have B34 := hid b4; clear b4 s4)
    | (refine Sh.wp_ld smS rfl (.tmp 45) rfl rfl r1 ?_))
  clear r1
  have Pw6 := hid (show PR w6.heap.size w6 w6 w3.heap.size ⟨xw, xA, xn, xc, xb, xB, xm, xk⟩ from ⟨V6.out, Below.refl _ _, Nat.le_refl _, V6.out.lt⟩)
  have XSw6 := hid (fun w' (hb : Below w6.heap.size w6 w') => ((HT.out.1.keep (fun k hk _ => B6.out.block k (HK.out k hk))).keep (fun k hk _ => hb.block k (Nat.lt_of_lt_of_le (HK.out k hk) B6.out.size))).size)
  have TFw6 := hid (HT.out.2.1.keep (fun k hk _ => B6.out.block k (HK.out k hk)))
  have HKw6 := hid (fun k (hk : K k) => Nat.lt_of_lt_of_le (HK.out k hk) B6.out.size)
  have w3c0 : w6.cell? ⟨w3.heap.size, 0, none⟩ = some (.string (strB xw)) := V6.out.cell (j := 0) rfl
  have w3c1 : w6.cell? ⟨w3.heap.size, 1, none⟩ = some (.slice xA xn xc) := V6.out.cell (j := 1) rfl
  have w3c2 : w6.cell? ⟨w3.heap.size, 2, none⟩ = some (.bool xb) := V6.out.cell (j := 2) rfl
  have w3c3 : w6.cell? ⟨w3.heap.size, 3, none⟩ = some (.slice xB xm xk) := V6.out.cell (j := 3) rfl
  have TG := hid (show Tr w6 K (oneFo ⟨xw, ns, xb⟩ y) [⟨xw, xA, xn, xc, xb, xB, xm, xk⟩] from tr_one rfl rfl (HT.out.2.2.1.keep (fun k hk _ => B6.out.block k (HK.out k hk))) (HT.out.2.2.2.keep (fun k hk _ => B6.out.block k (HK.out k hk))))
  have XT := hid (fun w' (hb : Below w.heap.size w w') => (show Tr w' (fun _ => True) (oneFo ⟨xw, ns, xb⟩ y) [⟨xw, xA, xn, xc, xb, xB, xm, xk⟩] from tr_one rfl rfl ((HT.out.2.2.1.keep (fun k hk _ => hb.block k (HK.out k hk))).mono fun _ _ _ => trivial) ((HT.out.2.2.2.keep (fun k hk _ => hb.block k (HK.out k hk))).mono fun _ _ _ => trivial)))
  go_region_held3 (fun w' => w'.cell? ⟨w3.heap.size, 0, none⟩ = some (.string (strB xw)) ∧ w'.cell? ⟨w3.heap.size, 1, none⟩ = some (.slice xA xn xc) ∧ w'.cell? ⟨w3.heap.size, 2, none⟩ = some (.bool xb) ∧ w'.cell? ⟨w3.heap.size, 3, none⟩ = some (.slice xB xm xk)) (first | with_reducible exact ⟨w3c0, w3c1, w3c2, w3c3⟩ | go_keep) (first
    | (go_at_call 25; have hh1 := B6.out.trans (Pw8.out.pr.bl.mono B6.out.size); have hh2 := Pw8.out.trs TFw6.out TG.out HKw6.out HKw6.out; refine (HC1.out w8 hh1 _ _ _ hh2).mono ?_; clear hh1 hh2; rintro e w9 ⟨rfl, bl⟩; have V9 := hid (Pw8.out.pr.var.keep bl); have B9 := hid ((B6.out.trans (Pw8.out.pr.bl.mono B6.out.size)).trans (bl.mono (B6.out.trans (Pw8.out.pr.bl.mono B6.out.size)).size)); have w3c0 : w9.cell? ⟨w3.heap.size, 0, none⟩ = some (.string (strB xw)) := V9.out.cell (j := 0) rfl;  have w3c1 : w9.cell? ⟨w3.heap.size, 1, none⟩ = some (.slice xA xn xc) := V9.out.cell (j := 1) rfl;  have w3c2 : w9.cell? ⟨w3.heap.size, 2, none⟩ = some (.bool xb) := V9.out.cell (j := 2) rfl;  have w3c3 : w9.cell? ⟨w3.heap.size, 3, none⟩ = some (.slice xB xm xk) := V9.out.cell (j := 3) rfl; clear bl; dsimp only)
    | (refine Sh.step_copy3 smS (A2 := some ⟨b, o, none⟩) (m := n) (c2 := c) (ys := ys) (base := w6.heap.size) rfl (.tmp 50) rfl rfl ?_ hn6 ?_ ?_; (focus exact XSw6.out _ (PR.bl (show PR w6.heap.size w6 _ w3.heap.size ⟨xw, xA, xn, xc, xb, xB, xm, xk⟩ from (by (repeat (first | with_reducible exact Pw6.out | with_reducible refine PR.alloc ?_ _ | with_reducible refine PR.drew ?_)); done)))); (focus exact PR.sz (show PR w6.heap.size w6 _ w3.heap.size ⟨xw, xA, xn, xc, xb, xB, xm, xk⟩ from (by (repeat (first | with_reducible exact Pw6.out | with_reducible refine PR.alloc ?_ _ | with_reducible refine PR.drew ?_)); done))); intro Aw7 cw7 w7 own gr; have Pw7 := hid (PR.copy (show PR w6.heap.size w6 _ w3.heap.size ⟨xw, xA, xn, xc, xb, xB, xm, xk⟩ from (by (repeat (first | with_reducible exact Pw6.out | with_reducible refine PR.alloc ?_ _ | with_reducible refine PR.drew ?_)); done)) own gr); (first | (refine row_then3 (b := w6.heap.size) (cs := [.string (strB xw), .slice xA xn xc, .bool xb, .slice xB xm xk]) gr ?_ rfl ?_; (focus ((repeat (first | with_reducible refine range_new' _ _ _ _ (by simp; done) | with_reducible refine World.rangeAt_alloc ?_ _ | with_reducible refine (World.rangeAt_drew _ _ _ _).2 ?_)); done)); intro rp) | skip); have w3c0 : w7.cell? ⟨w3.heap.size, 0, none⟩ = some (.string (strB xw)) := Pw7.out.pr.var.cell (j := 0) rfl; have w3c1 : w7.cell? ⟨w3.heap.size, 1, none⟩ = some (.slice xA xn xc) := Pw7.out.pr.var.cell (j := 1) rfl; have w3c2 : w7.cell? ⟨w3.heap.size, 2, none⟩ = some (.bool xb) := Pw7.out.pr.var.cell (j := 2) rfl; have w3c3 : w7.cell? ⟨w3.heap.size, 3, none⟩ = some (.slice xB xm xk) := Pw7.out.pr.var.cell (j := 3) rfl; clear own gr; dsimp only)
    | (refine Sh.step_push2 smS (A := Aw7) (c := cw7) (l := ys) (base := w6.heap.size) (x := ⟨xw, xA, xn, xc, xb, xB, xm, xk⟩) rfl (.tmp 51) (.tmp 53) rfl rfl ?_ rfl ?_ hn6 ?_ ?_; (focus exact CP.ow (show CP w6.heap.size w6 _ w3.heap.size ⟨xw, xA, xn, xc, xb, xB, xm, xk⟩ Aw7 n cw7 ys from (by (repeat (first | with_reducible exact Pw7.out | with_reducible refine CP.alloc ?_ _ | with_reducible refine CP.drew ?_)); done))); (focus show World.rangeAt _ _ _ [.string (strB xw), .slice xA xn xc, .bool xb, .slice xB xm xk]; exact (by (repeat (first | with_reducible exact rp | with_reducible exact range_new' _ _ _ _ (by simp; done) | with_reducible refine World.rangeAt_alloc ?_ _ | with_reducible refine (World.rangeAt_drew _ _ _ _).2 ?_)); done)); (focus exact PR.sz (CP.pr (show CP w6.heap.size w6 _ w3.heap.size ⟨xw, xA, xn, xc, xb, xB, xm, xk⟩ Aw7 n cw7 ys from (by (repeat (first | with_reducible exact Pw7.out | with_reducible refine CP.alloc ?_ _ | with_reducible refine CP.drew ?_)); done)))); intro Aw8 cw8 w8 own gr li; have Pw8 := hid (CP.push (show CP w6.heap.size w6 _ w3.heap.size ⟨xw, xA, xn, xc, xb, xB, xm, xk⟩ Aw7 n cw7 ys from (by (repeat (first | with_reducible exact Pw7.out | with_reducible refine CP.alloc ?_ _ | with_reducible refine CP.drew ?_)); done)) own gr); have w3c0 : w8.cell? ⟨w3.heap.size, 0, none⟩ = some (.string (strB xw)) := Pw8.out.pr.var.cell (j := 0) rfl; have w3c1 : w8.cell? ⟨w3.heap.size, 1, none⟩ = some (.slice xA xn xc) := Pw8.out.pr.var.cell (j := 1) rfl; have w3c2 : w8.cell? ⟨w3.heap.size, 2, none⟩ = some (.bool xb) := Pw8.out.pr.var.cell (j := 2) rfl; have w3c3 : w8.cell? ⟨w3.heap.size, 3, none⟩ = some (.slice xB xm xk) := Pw8.out.pr.var.cell (j := 3) rfl; clear own gr li; dsimp only))
  all_goals
    go_upto_region 13 with (first
      | (go_at_call 37; refine (HW.out w10).mono ?_; rintro e w11 ⟨rfl, g11⟩; have V11 := hid (V10.out.keep g11); have B11 := hid (B10.out.trans (g11.mono B10.out.size)); clear g11; have w3c0 : w11.cell? ⟨w3.heap.size, 0, none⟩ = some (.string (strB xw)) := V11.out.cell (j := 0) rfl)
      | (go_at_call 37; refine (HW.out w9).mono ?_; rintro e w10 ⟨rfl, g10⟩; have V10 := hid (V9.out.keep g10); have B10 := hid (B9.out.trans (g10.mono B9.out.size)); clear g10; have w3c0 : w10.cell? ⟨w3.heap.size, 0, none⟩ = some (.string (strB xw)) := V10.out.cell (j := 0) rfl))
    go_wp2_with (first
      | (go_at_call 39; refine (HD.out w16 (fun _ => True) (some ⟨w15.heap.size, 0, none⟩) 1 1 ⟨[⟨wRepeat, some ⟨w11.heap.size, 0, none⟩, 2, 2, true, some ⟨w12.heap.size, 0, none⟩, 1, 1⟩], rw_one RR16.out trivial, rep_tr NR16.out XR16.out trivial trivial (XT.out w16 B16.out)⟩).mono ?_; rintro e w17 ⟨rfl, b17⟩; have V17 := hid (V16.out.keep b17); have Q17 := hid (Q16.out.keep b17); have NR17 := hid (range_below b17 (by have := S12.out; have := S13.out; have := S14.out; have := S15.out; have := S16.out; omega) NR16.out); have XR17 := hid (range_below b17 (by have := S12.out; have := S13.out; have := S14.out; have := S15.out; have := S16.out; omega) XR16.out); have LT17 := hid (show w11.heap.size < w17.heap.size ∧ w12.heap.size < w17.heap.size from by have := S12.out; have := S13.out; have := S14.out; have := S15.out; have := S16.out; have := b17.size; omega); have B17 := hid (B16.out.trans (b17.mono B16.out.size)); clear b17)
      | (refine bs_sm rfl (.tmp 90) rfl rfl ?_; intro w16 r16 b16 s16; have S16 := s16; have RR16 := hid r16; have V16 := hid (V15.out.keep b16); have Q16 := hid (Q15.out.keep b16); have NR16 := hid (range_below b16 (by have := S12.out; have := S13.out; have := S14.out; have := S15.out; omega) NR15.out); have XR16 := hid (range_below b16 (by have := S12.out; have := S13.out; have := S14.out; have := S15.out; omega) XR15.out); have B16 := hid (B15.out.trans (b16.mono B15.out.size)); clear r16 b16 s16)
      | (refine Sh.wp_ld smS rfl (.tmp 12) rfl rfl Q15.out.1 ?_)
      | (refine Sh.wp_sv smS (x := ⟨wRepeat, some ⟨w11.heap.size, 0, none⟩, 2, 2, true, some ⟨w12.heap.size, 0, none⟩, 1, 1⟩) rfl (.tmp 12) (.tmp 89) rfl rfl (by rfl) q14 ?_; intro w15 q15 b15 o15 s15; have S15 := s15; have Q15 := hid q15; have V15 := hid (V14.out.below b15 V13.out.lt); have NR15 := hid (range_below b15 (by have := S12.out; have := S13.out; omega) NR14.out); have XR15 := hid (range_below b15 (by have := S12.out; have := S13.out; omega) XR14.out); have B15 := hid (B13.out.trans ((B1314.out.trans b15).mono B13.out.size)); clear q14 q15 b15 o15 s15)
      | (have tk := XR13; clear tk; refine Sh.wp_al smS rfl rfl ?_; intro w14 q14 b14 s14; have S14 := s14; have B1314 := hid b14; have V14 := hid (V13.out.keep b14); have NR14 := hid (range_below b14 (by have := S12.out; have := S13.out; omega) NR13.out); have XR14 := hid (range_below b14 (by have := S12.out; have := S13.out; omega) XR13.out); clear b14 s14)
      | (refine bs_sm rfl (.tmp 87) rfl rfl ?_; intro w13 r13 b13 s13; have S13 := s13; have XR13 := hid r13; have V13 := hid (V12.out.keep b13); have NR13 := hid (range_below b13 (by have := S12.out; omega) NR12.out); have B13 := hid (B12.out.trans (b13.mono B12.out.size)); clear r13 b13 s13)
      | (refine Sh.wp_ld smS rfl (.tmp 8) rfl rfl V12.out.1 ?_)
      | (refine nm_step (.tmp 84) (.tmp 85) rfl rfl rfl rfl ?_; intro w12 r12 b12 s12; have S12 := s12; have NR12 := hid r12; have V12 := hid (V11.out.keep b12); have B12 := hid (B11.out.trans (b12.mono B11.out.size)); clear r12 b12 s12))
    go_ret
    exact ⟨rfl, B17.out⟩
set_option maxRecDepth 100000 in
set_option maxHeartbeats 2000000 in
theorem once_od (f : Fo) (w : World) (K : Nat → Prop) (n c : Nat) (b o j : Nat) (ys : List Sm) (k : Int) (a cc y : Fo) (xw : List UInt8) (ns : List (Int × Bool)) (xb : Bool) (xA xB : Option Addr) (xn xc xm xk : Nat) (ks : List (Ky × Nat))
    (hL : LaidW w) (hC : LaidC w) (hx : RwP smS w K (some ⟨b, o, none⟩) n ys) (htr : Tr w K f ys) (hK : ∀ k, K k → k < w.heap.size) (hfw : fw17 f = true) (hn : 0 < n) (hks : Fine17 f ks) (hc4 : f.count ≤ 400) (hj : j < n) (hjv : (wrap64 (k.tmod (n : Int) + (n : Int))).tmod (n : Int) = (j : Int))
    (hfe : f = a.app ((oneFo ⟨xw, ns, xb⟩ y).app cc)) (hcell : w.rangeAt b (o + j * 4) (smS.enc ⟨xw, xA, xn, xc, xb, xB, xm, xk⟩)) (hns : RwP nmS w K xA xn ns) (hby : TrS w K xB xm y) (hwd : St.world ⟨xw, [], false⟩ = false) (hdp : 6 < (oneFo repSt (oneFo ⟨xw, ns, xb⟩ y)).depth) : OnceSaid w (some ⟨b, o, none⟩) n c k := by
  unfold OnceSaid
  have ht : TrS w K (some ⟨b, o, none⟩) n f := ⟨ys, hx, htr⟩
  have hb : b < w.heap.size := by obtain ⟨b2, o2, e, h, _⟩ := hx.2 hn; cases e; exact hK _ h
  have HV := hid (live17_any w hL hC)
  have HF := hid (fun w1 (hb : Below w.heap.size w w1) => few17_any f w1 K _ n c (ht.below hb))
  have HC := hid (fun w1 (hb : Below w.heap.size w w1) => chkc_any f w1 K _ n c (hC.below hb) (ht.below hb) (fun k hk => Nat.lt_of_lt_of_le (hK k hk) hb.size) (fw17_chk hfw (ht.below hb)))
  rw [hfw] at HF
  rw [fine_chkF hks] at HC
  have hnl : n ≤ 400 := by rw [ht.len]; have := f.len_le; omega
  have hn6 : n ≤ 1000000 := by omega
  have HCT := hid (fun w1 (hb : Below w.heap.size w w1) => count_any f w1 K _ n c (ht.below hb) (by omega))
  have HW := hid (fun w1 => world17_any xw w1)
  rw [hwd] at HW
  have hone : St.world ⟨xw, ns, xb⟩ = false := hwd
  obtain ⟨hk1, hk2, hk3⟩ := chk_once hfe hks.chk hc4
  have HQ1 := hid (once_other hfe hks hk1 hone)
  have HC1 := hid (fun (w1 : World) (hb : Below w.heap.size w w1) A m c1 (t : TrS w1 (fun k => k < w1.heap.size) A m (f.app (oneFo ⟨xw, ns, xb⟩ y))) => (show Calls Tryz.prog 25 #[.slice A m c1] w1 fun e w' => e = .returned (.tuple #[.int .i64 0, .int .i64 0]) ∧ Below w1.heap.size w1 w' from by
    have := chkc_any _ w1 _ A m c1 (hC.below hb) t (fun k hk => hk) (chkAt_of t hk2 (by omega)); rw [HQ1.out] at this; exact this))
  have HD := hid (fun (w1 : World) K1 A m c1 (t : TrS w1 K1 A m (oneFo repSt (oneFo ⟨xw, ns, xb⟩ y))) => depth_any (oneFo repSt (oneFo ⟨xw, ns, xb⟩ y)) w1 K1 A m c1 t (by
    have h1 : f.count = a.count + ((oneFo ⟨xw, ns, xb⟩ y).count + cc.count) := by rw [hfe, Fo.count_app, Fo.count_app]
    have h2 : (oneFo repSt (oneFo ⟨xw, ns, xb⟩ y)).count = 1 + (oneFo ⟨xw, ns, xb⟩ y).count := rfl
    omega))
  have hdv : (((oneFo repSt (oneFo ⟨xw, ns, xb⟩ y)).depth : Int) ≤ 6) = False := by simp; omega
  have hdv2 : (6 < ((oneFo repSt (oneFo ⟨xw, ns, xb⟩ y)).depth : Int)) = True := by simp; omega
  generalize (oneFo repSt (oneFo ⟨xw, ns, xb⟩ y)).depth = D at *
  have HT := hid (And.intro hx (And.intro htr (And.intro hns hby)))
  have HK := hid hK
  have HR := hid (And.intro hb hcell)
  have hn1 : ((n : Int) = 0) = False := by simp; omega
  have hfc : wrap64 ((f.count : Int) + 1) = (f.count : Int) + 1 := IntWalk.wrap64_in _ (by omega)
  clear hL hC ht hK hfw hks hx htr hns hby hcell hb hk1 hk2 hk3 hfe hwd hone HQ1 hdp hc4
  go_enter Tryz.func9, Tryz.ntmps9
  go_upto_region 8 with (first
    | (go_at_call 25; refine (HC.out w2 B2.out).mono ?_; rintro e w3 ⟨rfl, g3⟩; have B3 := hid (B2.out.trans (g3.mono B2.out.size)); clear g3)
    | (go_at_call 22; refine (HF.out w1 B1.out).mono ?_; rintro e w2 ⟨rfl, g2⟩; have B2 := hid (B1.out.trans (g2.mono B1.out.size)); clear g2)
    | (go_at_call 21; refine HV.out.mono ?_; rintro e w1 ⟨rfl, g1⟩; have B1 := hid g1; clear g1))
  have r1 := range_below B3.out HR.out.1 HR.out.2
  clear HV HF HC
  go_upto_region 10 with (first
    | (go_at_call 38; refine (HCT.out w5 B5.out).mono ?_; rintro e w6 ⟨rfl, g6⟩; have V6 := hid (V5.out.keep g6); have B6 := hid (B5.out.trans (g6.mono B5.out.size)); clear g6)
    | (refine Sh.wp_sv smS (x := ⟨xw, xA, xn, xc, xb, xB, xm, xk⟩) rfl (.tmp 8) (.tmp 46) rfl rfl (by rfl) q4 ?_; intro w5 q5 b5 o5 s5; have B35 := hid (B34.out.trans (b5.mono (Nat.le_refl _))); have V5 := hid q5; have B5 := hid (B3.out.trans (B35.out.mono B3.out.size)); clear q4 q5 b5 o5 s5)
    | (refine Sh.wp_al smS rfl rfl ?_; intro w4 q4 b4 s4; have B34 := hid b4; clear b4 s4)
    | (refine Sh.wp_ld smS rfl (.tmp 45) rfl rfl r1 ?_))
  clear r1
  have Pw6 := hid (show PR w6.heap.size w6 w6 w3.heap.size ⟨xw, xA, xn, xc, xb, xB, xm, xk⟩ from ⟨V6.out, Below.refl _ _, Nat.le_refl _, V6.out.lt⟩)
  have XSw6 := hid (fun w' (hb : Below w6.heap.size w6 w') => ((HT.out.1.keep (fun k hk _ => B6.out.block k (HK.out k hk))).keep (fun k hk _ => hb.block k (Nat.lt_of_lt_of_le (HK.out k hk) B6.out.size))).size)
  have TFw6 := hid (HT.out.2.1.keep (fun k hk _ => B6.out.block k (HK.out k hk)))
  have HKw6 := hid (fun k (hk : K k) => Nat.lt_of_lt_of_le (HK.out k hk) B6.out.size)
  have w3c0 : w6.cell? ⟨w3.heap.size, 0, none⟩ = some (.string (strB xw)) := V6.out.cell (j := 0) rfl
  have w3c1 : w6.cell? ⟨w3.heap.size, 1, none⟩ = some (.slice xA xn xc) := V6.out.cell (j := 1) rfl
  have w3c2 : w6.cell? ⟨w3.heap.size, 2, none⟩ = some (.bool xb) := V6.out.cell (j := 2) rfl
  have w3c3 : w6.cell? ⟨w3.heap.size, 3, none⟩ = some (.slice xB xm xk) := V6.out.cell (j := 3) rfl
  have TG := hid (show Tr w6 K (oneFo ⟨xw, ns, xb⟩ y) [⟨xw, xA, xn, xc, xb, xB, xm, xk⟩] from tr_one rfl rfl (HT.out.2.2.1.keep (fun k hk _ => B6.out.block k (HK.out k hk))) (HT.out.2.2.2.keep (fun k hk _ => B6.out.block k (HK.out k hk))))
  have XT := hid (fun w' (hb : Below w.heap.size w w') => (show Tr w' (fun _ => True) (oneFo ⟨xw, ns, xb⟩ y) [⟨xw, xA, xn, xc, xb, xB, xm, xk⟩] from tr_one rfl rfl ((HT.out.2.2.1.keep (fun k hk _ => hb.block k (HK.out k hk))).mono fun _ _ _ => trivial) ((HT.out.2.2.2.keep (fun k hk _ => hb.block k (HK.out k hk))).mono fun _ _ _ => trivial)))
  go_region_held3 (fun w' => w'.cell? ⟨w3.heap.size, 0, none⟩ = some (.string (strB xw)) ∧ w'.cell? ⟨w3.heap.size, 1, none⟩ = some (.slice xA xn xc) ∧ w'.cell? ⟨w3.heap.size, 2, none⟩ = some (.bool xb) ∧ w'.cell? ⟨w3.heap.size, 3, none⟩ = some (.slice xB xm xk)) (first | with_reducible exact ⟨w3c0, w3c1, w3c2, w3c3⟩ | go_keep) (first
    | (go_at_call 25; have hh1 := B6.out.trans (Pw8.out.pr.bl.mono B6.out.size); have hh2 := Pw8.out.trs TFw6.out TG.out HKw6.out HKw6.out; refine (HC1.out w8 hh1 _ _ _ hh2).mono ?_; clear hh1 hh2; rintro e w9 ⟨rfl, bl⟩; have V9 := hid (Pw8.out.pr.var.keep bl); have B9 := hid ((B6.out.trans (Pw8.out.pr.bl.mono B6.out.size)).trans (bl.mono (B6.out.trans (Pw8.out.pr.bl.mono B6.out.size)).size)); have w3c0 : w9.cell? ⟨w3.heap.size, 0, none⟩ = some (.string (strB xw)) := V9.out.cell (j := 0) rfl;  have w3c1 : w9.cell? ⟨w3.heap.size, 1, none⟩ = some (.slice xA xn xc) := V9.out.cell (j := 1) rfl;  have w3c2 : w9.cell? ⟨w3.heap.size, 2, none⟩ = some (.bool xb) := V9.out.cell (j := 2) rfl;  have w3c3 : w9.cell? ⟨w3.heap.size, 3, none⟩ = some (.slice xB xm xk) := V9.out.cell (j := 3) rfl; clear bl; dsimp only)
    | (refine Sh.step_copy3 smS (A2 := some ⟨b, o, none⟩) (m := n) (c2 := c) (ys := ys) (base := w6.heap.size) rfl (.tmp 50) rfl rfl ?_ hn6 ?_ ?_; (focus exact XSw6.out _ (PR.bl (show PR w6.heap.size w6 _ w3.heap.size ⟨xw, xA, xn, xc, xb, xB, xm, xk⟩ from (by (repeat (first | with_reducible exact Pw6.out | with_reducible refine PR.alloc ?_ _ | with_reducible refine PR.drew ?_)); done)))); (focus exact PR.sz (show PR w6.heap.size w6 _ w3.heap.size ⟨xw, xA, xn, xc, xb, xB, xm, xk⟩ from (by (repeat (first | with_reducible exact Pw6.out | with_reducible refine PR.alloc ?_ _ | with_reducible refine PR.drew ?_)); done))); intro Aw7 cw7 w7 own gr; have Pw7 := hid (PR.copy (show PR w6.heap.size w6 _ w3.heap.size ⟨xw, xA, xn, xc, xb, xB, xm, xk⟩ from (by (repeat (first | with_reducible exact Pw6.out | with_reducible refine PR.alloc ?_ _ | with_reducible refine PR.drew ?_)); done)) own gr); (first | (refine row_then3 (b := w6.heap.size) (cs := [.string (strB xw), .slice xA xn xc, .bool xb, .slice xB xm xk]) gr ?_ rfl ?_; (focus ((repeat (first | with_reducible refine range_new' _ _ _ _ (by simp; done) | with_reducible refine World.rangeAt_alloc ?_ _ | with_reducible refine (World.rangeAt_drew _ _ _ _).2 ?_)); done)); intro rp) | skip); have w3c0 : w7.cell? ⟨w3.heap.size, 0, none⟩ = some (.string (strB xw)) := Pw7.out.pr.var.cell (j := 0) rfl; have w3c1 : w7.cell? ⟨w3.heap.size, 1, none⟩ = some (.slice xA xn xc) := Pw7.out.pr.var.cell (j := 1) rfl; have w3c2 : w7.cell? ⟨w3.heap.size, 2, none⟩ = some (.bool xb) := Pw7.out.pr.var.cell (j := 2) rfl; have w3c3 : w7.cell? ⟨w3.heap.size, 3, none⟩ = some (.slice xB xm xk) := Pw7.out.pr.var.cell (j := 3) rfl; clear own gr; dsimp only)
    | (refine Sh.step_push2 smS (A := Aw7) (c := cw7) (l := ys) (base := w6.heap.size) (x := ⟨xw, xA, xn, xc, xb, xB, xm, xk⟩) rfl (.tmp 51) (.tmp 53) rfl rfl ?_ rfl ?_ hn6 ?_ ?_; (focus exact CP.ow (show CP w6.heap.size w6 _ w3.heap.size ⟨xw, xA, xn, xc, xb, xB, xm, xk⟩ Aw7 n cw7 ys from (by (repeat (first | with_reducible exact Pw7.out | with_reducible refine CP.alloc ?_ _ | with_reducible refine CP.drew ?_)); done))); (focus show World.rangeAt _ _ _ [.string (strB xw), .slice xA xn xc, .bool xb, .slice xB xm xk]; exact (by (repeat (first | with_reducible exact rp | with_reducible exact range_new' _ _ _ _ (by simp; done) | with_reducible refine World.rangeAt_alloc ?_ _ | with_reducible refine (World.rangeAt_drew _ _ _ _).2 ?_)); done)); (focus exact PR.sz (CP.pr (show CP w6.heap.size w6 _ w3.heap.size ⟨xw, xA, xn, xc, xb, xB, xm, xk⟩ Aw7 n cw7 ys from (by (repeat (first | with_reducible exact Pw7.out | with_reducible refine CP.alloc ?_ _ | with_reducible refine CP.drew ?_)); done)))); intro Aw8 cw8 w8 own gr li; have Pw8 := hid (CP.push (show CP w6.heap.size w6 _ w3.heap.size ⟨xw, xA, xn, xc, xb, xB, xm, xk⟩ Aw7 n cw7 ys from (by (repeat (first | with_reducible exact Pw7.out | with_reducible refine CP.alloc ?_ _ | with_reducible refine CP.drew ?_)); done)) own gr); have w3c0 : w8.cell? ⟨w3.heap.size, 0, none⟩ = some (.string (strB xw)) := Pw8.out.pr.var.cell (j := 0) rfl; have w3c1 : w8.cell? ⟨w3.heap.size, 1, none⟩ = some (.slice xA xn xc) := Pw8.out.pr.var.cell (j := 1) rfl; have w3c2 : w8.cell? ⟨w3.heap.size, 2, none⟩ = some (.bool xb) := Pw8.out.pr.var.cell (j := 2) rfl; have w3c3 : w8.cell? ⟨w3.heap.size, 3, none⟩ = some (.slice xB xm xk) := Pw8.out.pr.var.cell (j := 3) rfl; clear own gr li; dsimp only))
  all_goals
    go_upto_region 13 with (first
      | (go_at_call 37; refine (HW.out w10).mono ?_; rintro e w11 ⟨rfl, g11⟩; have V11 := hid (V10.out.keep g11); have B11 := hid (B10.out.trans (g11.mono B10.out.size)); clear g11; have w3c0 : w11.cell? ⟨w3.heap.size, 0, none⟩ = some (.string (strB xw)) := V11.out.cell (j := 0) rfl)
      | (go_at_call 37; refine (HW.out w9).mono ?_; rintro e w10 ⟨rfl, g10⟩; have V10 := hid (V9.out.keep g10); have B10 := hid (B9.out.trans (g10.mono B9.out.size)); clear g10; have w3c0 : w10.cell? ⟨w3.heap.size, 0, none⟩ = some (.string (strB xw)) := V10.out.cell (j := 0) rfl))
    go_wp2_with (first
      | (go_at_call 39; refine (HD.out w16 (fun _ => True) (some ⟨w15.heap.size, 0, none⟩) 1 1 ⟨[⟨wRepeat, some ⟨w11.heap.size, 0, none⟩, 2, 2, true, some ⟨w12.heap.size, 0, none⟩, 1, 1⟩], rw_one RR16.out trivial, rep_tr NR16.out XR16.out trivial trivial (XT.out w16 B16.out)⟩).mono ?_; rintro e w17 ⟨rfl, b17⟩; have V17 := hid (V16.out.keep b17); have Q17 := hid (Q16.out.keep b17); have NR17 := hid (range_below b17 (by have := S12.out; have := S13.out; have := S14.out; have := S15.out; have := S16.out; omega) NR16.out); have XR17 := hid (range_below b17 (by have := S12.out; have := S13.out; have := S14.out; have := S15.out; have := S16.out; omega) XR16.out); have LT17 := hid (show w11.heap.size < w17.heap.size ∧ w12.heap.size < w17.heap.size from by have := S12.out; have := S13.out; have := S14.out; have := S15.out; have := S16.out; have := b17.size; omega); have B17 := hid (B16.out.trans (b17.mono B16.out.size)); clear b17)
      | (refine bs_sm rfl (.tmp 90) rfl rfl ?_; intro w16 r16 b16 s16; have S16 := s16; have RR16 := hid r16; have V16 := hid (V15.out.keep b16); have Q16 := hid (Q15.out.keep b16); have NR16 := hid (range_below b16 (by have := S12.out; have := S13.out; have := S14.out; have := S15.out; omega) NR15.out); have XR16 := hid (range_below b16 (by have := S12.out; have := S13.out; have := S14.out; have := S15.out; omega) XR15.out); have B16 := hid (B15.out.trans (b16.mono B15.out.size)); clear r16 b16 s16)
      | (refine Sh.wp_ld smS rfl (.tmp 12) rfl rfl Q15.out.1 ?_)
      | (refine Sh.wp_sv smS (x := ⟨wRepeat, some ⟨w11.heap.size, 0, none⟩, 2, 2, true, some ⟨w12.heap.size, 0, none⟩, 1, 1⟩) rfl (.tmp 12) (.tmp 89) rfl rfl (by rfl) q14 ?_; intro w15 q15 b15 o15 s15; have S15 := s15; have Q15 := hid q15; have V15 := hid (V14.out.below b15 V13.out.lt); have NR15 := hid (range_below b15 (by have := S12.out; have := S13.out; omega) NR14.out); have XR15 := hid (range_below b15 (by have := S12.out; have := S13.out; omega) XR14.out); have B15 := hid (B13.out.trans ((B1314.out.trans b15).mono B13.out.size)); clear q14 q15 b15 o15 s15)
      | (have tk := XR13; clear tk; refine Sh.wp_al smS rfl rfl ?_; intro w14 q14 b14 s14; have S14 := s14; have B1314 := hid b14; have V14 := hid (V13.out.keep b14); have NR14 := hid (range_below b14 (by have := S12.out; have := S13.out; omega) NR13.out); have XR14 := hid (range_below b14 (by have := S12.out; have := S13.out; omega) XR13.out); clear b14 s14)
      | (refine bs_sm rfl (.tmp 87) rfl rfl ?_; intro w13 r13 b13 s13; have S13 := s13; have XR13 := hid r13; have V13 := hid (V12.out.keep b13); have NR13 := hid (range_below b13 (by have := S12.out; omega) NR12.out); have B13 := hid (B12.out.trans (b13.mono B12.out.size)); clear r13 b13 s13)
      | (refine Sh.wp_ld smS rfl (.tmp 8) rfl rfl V12.out.1 ?_)
      | (refine nm_step (.tmp 84) (.tmp 85) rfl rfl rfl rfl ?_; intro w12 r12 b12 s12; have S12 := s12; have NR12 := hid r12; have V12 := hid (V11.out.keep b12); have B12 := hid (B11.out.trans (b12.mono B11.out.size)); clear r12 b12 s12))
    go_ret
    exact ⟨rfl, B17.out⟩
end Go.Proofs.YtpkoboohnbkpoaaGreatDoor
