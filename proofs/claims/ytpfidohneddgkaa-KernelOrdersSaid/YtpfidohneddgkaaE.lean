/-
  heap.rise: what it does to a slice of the call's own. What is asked: at most 4096 things.
-/
import Derived.Test.YtpfidohneddgkaaD
import Derived.Deep.DeepCutAuto
import Derived.RegionTactic
import Derived.Deep.RegionWith
namespace Go.Proofs.Ytpfidohneddgkaa
open Go Go.RowKit

theorem Own.six {w : World} {base g n c : Nat} {l : List It} (h : Own w base (some ⟨g, 0, none⟩) n c l) {k : Nat} (hk : k < n) {x1 x2 x3 x4 x5 x6 : Int} (hx : nth l k = (x1, x2, x3, x4, x5, x6)) :
    (w.cell? ⟨g, k * 6, none⟩ = some (.int .i64 x1) ∧ w.cell? ⟨g, k * 6 + 1, none⟩ = some (.int .i64 x2) ∧ w.cell? ⟨g, k * 6 + 2, none⟩ = some (.int .u64 x3) ∧ w.cell? ⟨g, k * 6 + 3, none⟩ = some (.int .i64 x4) ∧ w.cell? ⟨g, k * 6 + 4, none⟩ = some (.int .i64 x5) ∧ w.cell? ⟨g, k * 6 + 5, none⟩ = some (.int .u64 x6)) ∧
    (w.frozen? ⟨g, k * 6, none⟩ = false ∧ w.frozen? ⟨g, k * 6 + 1, none⟩ = false ∧ w.frozen? ⟨g, k * 6 + 2, none⟩ = false ∧ w.frozen? ⟨g, k * 6 + 3, none⟩ = false ∧ w.frozen? ⟨g, k * 6 + 4, none⟩ = false ∧ w.frozen? ⟨g, k * 6 + 5, none⟩ = false) := by
  have hr := h.range hk
  rw [hx] at hr
  exact ⟨⟨hr 0 _ rfl, hr 1 _ rfl, hr 2 _ rfl, hr 3 _ rfl, hr 4 _ rfl, hr 5 _ rfl⟩, ⟨World.ownsRow.frozenAt h _, World.ownsRow.frozenAt h _, World.ownsRow.frozenAt h _, World.ownsRow.frozenAt h _, World.ownsRow.frozenAt h _, World.ownsRow.frozenAt h _⟩⟩

def RiseRel (w : World) (base g n c : Nat) (l : List It) (a0 : Nat) (t : Value) (wr : World) : Prop :=
  ∃ (a : Nat) (l' : List It), t = .int .i64 (a : Int) ∧ a < n ∧ Own wr base (some ⟨g, 0, none⟩) n c l' ∧ Below base w wr ∧ ∀ m, Rise l' a m → Rise l a0 m

set_option maxHeartbeats 4000000 in
theorem rise_any (base g n c a0 : Nat) (l : List It) (w : World) (ho : Own w base (some ⟨g, 0, none⟩) n c l) (hn : n ≤ 4096) (ha : a0 < n) (hb : base ≤ w.heap.size) :
    Calls Try.prog 49 #[.slice (some ⟨g, 0, none⟩) n c, .int .i64 (a0 : Int)] w fun e w' => e = .returned (.tuple #[]) ∧ ∃ m, Rise l a0 m ∧ Own w' base (some ⟨g, 0, none⟩) n c m ∧ Below base w w' := by
  have HO := hid ho
  clear ho
  go_enter Try.func49, Try.ntmps49
  go_wp2
  go_loopw [1] (RiseRel w base g n c l a0) (fun t _ => (intOf t).toNat)
  case atStart => exact ⟨a0, l, rfl, ha, HO.out, Below.refl _ _, fun m h => h⟩
  case round =>
    obtain ⟨a, l', rfl, han, own, bel, hr⟩ := hrel
    have OW := hid own
    have BW := hid bel
    have RW := hid hr
    clear own bel hr HO
    by_cases h0 : a = 0
    · have HN' : Hid (Rise l' a l') := hid (.stop fun h => absurd h (by omega))
      obtain ⟨z, hz⟩ : ∃ z : Int, (a : Int) = z := ⟨_, rfl⟩
      have hd0 : decide ((0 : Int) < z) = false := decide_eq_false (by omega)
      have HH0 := hid h0
      rw [hz]
      clear h0 hz
      go_wp2_with fail
      go_region
      have HW : Hid (Below wr.heap.size wr wr.drew) := hid (Below.refl _ _).drew
      generalize wr.drew = w2 at *
      have BW2 : Hid (Below base w w2) := hid (BW.out.trans (HW.out.mono (Nat.le_trans hb BW.out.size)))
      have OW2 : Hid (Own w2 base (some ⟨g, 0, none⟩) n c l') := hid (OW.out.below HW.out)
      go_wp2
      go_end0
      exact ⟨rfl, l', RW.out _ HN'.out, OW2.out, BW2.out⟩
    · have hp : par a < a := by unfold par; omega
      have hll := OW.out.len
      have HR := hid OW.out.row
      have r1 : Hid (wr.rangeAt g (0 + a * 6) (enc (nth l' a))) := hid (by obtain ⟨b, o, e, _, h⟩ := HR.out.at_ han; injection e with e; injection e with e1 e2; subst e1; subst e2; exact h)
      have r2 : Hid (wr.rangeAt g (0 + par a * 6) (enc (nth l' (par a)))) := hid (by obtain ⟨b, o, e, _, h⟩ := HR.out.at_ (show par a < n by omega); injection e with e; injection e with e1 e2; subst e1; subst e2; exact h)
      rw [Nat.zero_add] at r1 r2
      have T1 := hid (fun d os => less_q (nth l' a) (nth l' (par a)) wr d os)
      have T0 := hid (fun d os => (above_q a (by omega) (by omega) wr d os))
      have HY : Hid (lt (nth l' a) (nth l' (par a)) = true → ∀ m, Rise (sw l' a (par a)) (par a) m → Rise l' a m) := hid fun h m hm => .step (by omega) h hm
      have HN : Hid (lt (nth l' a) (nth l' (par a)) = false → Rise l' a l') := hid fun h => .stop fun _ => h
      generalize lt (nth l' a) (nth l' (par a)) = R at *
      generalize hx : nth l' a = x at *
      generalize hy : nth l' (par a) = y at *
      have HX := hid hx
      have HYY := hid hy
      clear hx hy
      have TT := hid (fun w => above_any a (by omega) (by omega) w)
      generalize par a = q at *
      have hq1 : q < n := by omega
      have hq2 : (q : Int) < (n : Int) := by omega
      have h0' : (0 : Int) < (a : Int) := by omega
      have hd0 : decide (0 < a) = true := decide_eq_true (by omega)
      have HLL := hid hll
      clear hll
      go_wp2_with fail
      refine wp_region_quiet_below (by kernel_rfl) (by kernel_rfl) ?_
      repeat (first | refine wpQuiet_ld rfl rfl rfl r1.out ?_ | refine wpQuiet_ld rfl rfl rfl r2.out ?_ | quiet_step (first | with_reducible exact T0.out _ _ | with_reducible exact T1.out _ _))
      refine wpQuiet_nil ?_
      intro _ hw'
      obtain ⟨⟨dq, osq⟩, hw''⟩ := hw'
      subst hw''
      have HW : Hid (Below wr.heap.size wr (Sort.grow (redrawn wr dq) osq)) := hid (below_regrown wr dq osq)
      generalize Sort.grow (redrawn wr dq) osq = w2 at *
      clear r1 r2 T1 T0
      have BW2 : Hid (Below base w w2) := hid (BW.out.trans (HW.out.mono (Nat.le_trans hb BW.out.size)))
      have OW2 : Hid (Own w2 base (some ⟨g, 0, none⟩) n c l') := hid (OW.out.below HW.out)
      cases R
      · have HN' := hid (HN.out rfl)
        clear HN HY
        go_wp2
        go_end0
        exact ⟨rfl, l', RW.out _ HN'.out, OW2.out, BW2.out⟩
      · clear HN
        have HY' := hid (HY.out rfl)
        clear HY
        obtain ⟨x1, x2, x3, x4, x5, x6⟩ := x
        obtain ⟨y1, y2, y3, y4, y5, y6⟩ := y
        obtain ⟨⟨c0, c1, c2, c3, c4, c5⟩, ⟨f0, f1, f2, f3, f4, f5⟩⟩ := OW2.out.six han HX.out
        obtain ⟨⟨d0, d1, d2, d3, d4, d5⟩, ⟨e0, e1, e2, e3, e4, e5⟩⟩ := OW2.out.six hq1 HYY.out
        go_upto_region 1 with fail
        go_cut [] (fun wx => Own wx base (some ⟨g, 0, none⟩) n c (sw l' a q) ∧ Below base w wx)
        case first =>
          have HS : Hid (Own ((w2.setCells g (a * 6) (enc (y1, y2, y3, y4, y5, y6))).setCells g (q * 6) (enc (x1, x2, x3, x4, x5, x6))).drew base (some ⟨g, 0, none⟩) n c (sw l' a q) ∧ Below base w ((w2.setCells g (a * 6) (enc (y1, y2, y3, y4, y5, y6))).setCells g (q * 6) (enc (x1, x2, x3, x4, x5, x6))).drew) := hid (by
            have := OW2.out.swap han hq1
            rw [HX.out, HYY.out] at this
            exact ⟨World.ownsRow.drew this.1, (BW2.out.trans this.2).drew⟩)
          go_region_with (first | (go_at_call 58; refine (TT.out _).mono ?_; rintro e w' ⟨rfl, rfl⟩))
          all_goals (go_wp2_with fail; go_meet; exact HS.out)
        case rest =>
          obtain ⟨own3, bel3⟩ := hcut
          have OW3 := hid own3
          have BW3 := hid bel3
          clear own3 bel3 c0 c1 c2 c3 c4 c5 f0 f1 f2 f3 f4 f5 d0 d1 d2 d3 d4 d5 e0 e1 e2 e3 e4 e5
          go_wp2_with (go_at_call 58; refine (TT.out _).mono ?_; rintro e w' ⟨rfl, rfl⟩)
          go_roundw
          case rel => exact ⟨q, _, rfl, hq1, OW3.out, BW3.out, fun m hm => RW.out _ (HY'.out _ hm)⟩
          case measure => simp [intOf]; omega
end Go.Proofs.Ytpfidohneddgkaa
