/-
  heap.sink: what it does to a slice of the call's own. What is asked: at most 4096 things.
-/
import Derived.Test.YtpfidohneddgkaaE
import Derived.Deep.CutBlock
import Derived.Deep.DeepCutAuto
import Derived.RegionTactic
namespace Go.Proofs.Ytpfidohneddgkaa
open Go Go.RowKit

def SinkRel (w : World) (base g n c : Nat) (l : List It) (a0 : Nat) (t : Value) (wr : World) : Prop :=
  ∃ (a : Nat) (l' : List It), t = .int .i64 (a : Int) ∧ a < n ∧ Own wr base (some ⟨g, 0, none⟩) n c l' ∧ Below base w wr ∧ ∀ m, Sink l' a m → Sink l a0 m
/-- The least one so far, ahead of the look at place k. -/
def LowAt (l : List It) (n a k f : Nat) : Prop := (k = 2 * a + 1 ∧ f = a) ∨ (k = 2 * a + 2 ∧ 2 * a + 1 < n ∧ f = low1 l a) ∨ (k = 2 * a + 3 ∧ 2 * a + 2 < n ∧ f = low l a)
def LowRel (w : World) (l : List It) (n a : Nat) (t5 t4 : Value) (wr : World) : Prop := ∃ k f : Nat, t5 = .int .i64 (k : Int) ∧ t4 = .int .i64 (f : Int) ∧ 2 * a + 1 ≤ k ∧ f < n ∧ LowAt l n a k f ∧ Below w.heap.size w wr
theorem low1_lt {l : List It} {a : Nat} (h : a < l.length) : low1 l a < l.length := by unfold low1; split <;> omega
theorem low_lt {l : List It} {a : Nat} (h : a < l.length) : low l a < l.length := by
  have := low1_lt h
  unfold low; split <;> omega
theorem LowAt.done {l : List It} {n a k f : Nat} (h : LowAt l n a k f) (hl : l.length = n) (hk : ¬(k ≤ 2 * a + 2 ∧ k < n)) : f = low l a := by
  subst hl
  rcases h with ⟨rfl, rfl⟩ | ⟨rfl, h1, rfl⟩ | ⟨rfl, h1, rfl⟩
  · unfold low low1
    rw [if_neg (show ¬(2 * f + 1 < l.length ∧ _) from fun h => hk ⟨by omega, h.1⟩), if_neg (fun h => hk ⟨by omega, by omega⟩)]
  · unfold low
    rw [if_neg (fun h => hk ⟨by omega, h.1⟩)]
  · rfl
theorem LowAt.next {l : List It} {n a k f : Nat} (h : LowAt l n a k f) (hl : l.length = n) (h1 : k ≤ 2 * a + 2) (h2 : k < n) : LowAt l n a (k + 1) (if lt (nth l k) (nth l f) = true then k else f) := by
  subst hl
  rcases h with ⟨rfl, rfl⟩ | ⟨rfl, h3, rfl⟩ | ⟨rfl, h3, rfl⟩
  · refine .inr (.inl ⟨rfl, h2, ?_⟩)
    unfold low1
    by_cases q : lt (nth l (2 * f + 1)) (nth l f) = true
    · rw [if_pos q, if_pos ⟨h2, q⟩]
    · rw [if_neg q, if_neg (fun h => q h.2)]
  · refine .inr (.inr ⟨rfl, h2, ?_⟩)
    unfold low
    by_cases q : lt (nth l (2 * a + 2)) (nth l (low1 l a)) = true
    · rw [if_pos q, if_pos ⟨h2, q⟩]
    · rw [if_neg q, if_neg (fun h => q h.2)]
  · omega
set_option maxHeartbeats 4000000 in
theorem sink_any (base g n c a0 : Nat) (l : List It) (w : World) (ho : Own w base (some ⟨g, 0, none⟩) n c l) (hn : n ≤ 4096) (ha : a0 < n) (hb : base ≤ w.heap.size) :
    Calls Try.prog 61 #[.slice (some ⟨g, 0, none⟩) n c, .int .i64 (a0 : Int)] w fun e w' => e = .returned (.tuple #[]) ∧ ∃ m, Sink l a0 m ∧ Own w' base (some ⟨g, 0, none⟩) n c m ∧ Below base w w' := by
  have HO := hid ho
  clear ho
  go_enter Try.func61, Try.ntmps61
  go_wp2
  go_loopw [1] (SinkRel w base g n c l a0) (fun t _ => n - (intOf t).toNat)
  case atStart => exact ⟨a0, l, rfl, ha, HO.out, Below.refl _ _, fun m h => h⟩
  case round =>
    obtain ⟨a, l', rfl, han, own, bel, hr⟩ := hrel
    have OW := hid own
    have BW := hid bel
    have RW := hid hr
    have HL := hid own.len
    clear own bel hr HO
    obtain ⟨w1, rfl⟩ : ∃ w1, w1 = wr := ⟨_, rfl⟩
    have hlw := low_lt (show a < l'.length by rw [HL.out]; exact han)
    rw [HL.out] at hlw
    go_upto_block 2 with fail
    go_cut [4] (fun s wx => s = .int .i64 ((low l' a : Nat) : Int) ∧ Below w1.heap.size w1 wx)
    case first =>
      go_wp2_with fail
      go_loopw [5, 4] (LowRel w1 l' n a) (fun t _ _ => 2 * a + 3 - (intOf t).toNat)
      case atStart => exact ⟨2 * a + 1, a, by go_num, rfl, by omega, han, .inl ⟨rfl, rfl⟩, Below.refl _ _⟩
      case round =>
        obtain ⟨k, f, rfl, rfl, hk, hf, hlow, bel⟩ := hrel
        have HB := hid bel
        have HLW := hid hlow
        clear hlow bel
        by_cases h1 : k ≤ 2 * a + 2
        · have t1 : decide ((k : Int) ≤ 2 * (a : Int) + 2) = true := decide_eq_true (by omega)
          by_cases h2 : k < n
          · have OWi : Hid (Own wr base (some ⟨g, 0, none⟩) n c l') := hid (OW.out.below HB.out)
            have r1 := hid (OWi.out.range h2)
            have r2 := hid (OWi.out.range hf)
            have T1 := hid (fun d os => less_q (nth l' k) (nth l' f) wr d os)
            have HNX : Hid (LowAt l' n a (k + 1) (if lt (nth l' k) (nth l' f) = true then k else f)) := hid (HLW.out.next HL.out h1 h2)
            clear HLW
            generalize lt (nth l' k) (nth l' f) = R at *
            generalize nth l' k = x at *
            generalize nth l' f = y at *
            have i1 : (k : Int) < (n : Int) := by omega
            have i2 : (f : Int) < (n : Int) := by omega
            go_wp2_with fail
            refine wp_region_quiet_below (by kernel_rfl) (by kernel_rfl) ?_
            repeat (first | refine wpQuiet_ld rfl rfl rfl r1.out ?_ | refine wpQuiet_ld rfl rfl rfl r2.out ?_ | quiet_step (with_reducible exact T1.out _ _))
            refine wpQuiet_nil ?_
            intro _ hw'
            obtain ⟨⟨dq, osq⟩, hw''⟩ := hw'
            subst hw''
            have HW : Hid (Below wr.heap.size wr (Sort.grow (redrawn wr dq) osq)) := hid (below_regrown wr dq osq)
            generalize Sort.grow (redrawn wr dq) osq = w3 at *
            clear r1 r2 T1
            have HB2 : Hid (Below w1.heap.size w1 w3) := hid (HB.out.trans (HW.out.mono HB.out.size))
            cases R
            · rw [if_neg Bool.false_ne_true] at HNX
              go_wp2
              go_roundw
              case rel => exact ⟨k + 1, f, by go_num, rfl, by omega, hf, HNX.out, HB2.out⟩
              case measure => simp [intOf]; omega
            · rw [if_pos rfl] at HNX
              go_wp2
              go_roundw
              case rel => exact ⟨k + 1, k, by go_num, rfl, by omega, h2, HNX.out, HB2.out⟩
              case measure => simp [intOf]; omega
          · have HD : Hid (f = low l' a) := hid (HLW.out.done HL.out (by omega))
            go_wp2
            go_meet
            exact ⟨by rw [HD.out], HB.out⟩
        · have HD : Hid (f = low l' a) := hid (HLW.out.done HL.out (by omega))
          have t1 : decide ((k : Int) ≤ 2 * (a : Int) + 2) = false := decide_eq_false (by omega)
          go_wp2
          go_meet
          exact ⟨by rw [HD.out], HB.out⟩
    case rest =>
      obtain ⟨rfl, bel⟩ := hcut
      have HB := hid bel
      clear bel
      have BW2 : Hid (Below base w wc) := hid (BW.out.trans (HB.out.mono (Nat.le_trans hb BW.out.size)))
      have OW2 : Hid (Own wc base (some ⟨g, 0, none⟩) n c l') := hid (OW.out.below HB.out)
      have HS : Hid (low l' a ≠ a → a < low l' a ∧ ∀ m, Sink (sw l' a (low l' a)) (low l' a) m → Sink l' a m) := hid fun h => ⟨by rcases (low_spec l' a).1 with q | q <;> omega, fun m hm => .step h hm⟩
      have HZ : Hid (low l' a = a → Sink l' a l') := hid .stop
      generalize low l' a = f at *
      by_cases hfa : f = a
      · have HZ' := hid (HZ.out hfa)
        subst hfa
        clear HZ HS
        go_wp2
        exact bodyPost_ret (v := .tuple #[]) (results_none Try.results61 _ _ _) rfl ⟨rfl, l', RW.out _ HZ'.out, OW2.out, BW2.out⟩
      · obtain ⟨hlt, hst⟩ := HS.out hfa
        have HST := hid hst
        have t1 : ((f : Int) == (a : Int)) = false := by simp; omega
        clear HS HZ hst
        obtain ⟨⟨x1, x2, x3, x4, x5, x6⟩, hx⟩ : ∃ x : It, nth l' a = x := ⟨_, rfl⟩
        obtain ⟨⟨y1, y2, y3, y4, y5, y6⟩, hy⟩ : ∃ y : It, nth l' f = y := ⟨_, rfl⟩
        have HX := hid hx
        have HY := hid hy
        clear hx hy
        obtain ⟨⟨c0, c1, c2, c3, c4, c5⟩, ⟨f0, f1, f2, f3, f4, f5⟩⟩ := OW2.out.six han HX.out
        obtain ⟨⟨d0, d1, d2, d3, d4, d5⟩, ⟨e0, e1, e2, e3, e4, e5⟩⟩ := OW2.out.six hlw HY.out
        have i1 : (a : Int) < (n : Int) := by omega
        have i2 : (f : Int) < (n : Int) := by omega
        have HSW : Hid (Own ((wc.setCells g (a * 6) (enc (y1, y2, y3, y4, y5, y6))).setCells g (f * 6) (enc (x1, x2, x3, x4, x5, x6))).drew base (some ⟨g, 0, none⟩) n c (sw l' a f) ∧ Below base w ((wc.setCells g (a * 6) (enc (y1, y2, y3, y4, y5, y6))).setCells g (f * 6) (enc (x1, x2, x3, x4, x5, x6))).drew) := hid (by
            have := OW2.out.swap han hlw
            rw [HX.out, HY.out] at this
            exact ⟨World.ownsRow.drew this.1, (BW2.out.trans this.2).drew⟩)
        go_upto_region 7 with fail
        go_cut [] (fun wx => Own wx base (some ⟨g, 0, none⟩) n c (sw l' a f) ∧ Below base w wx)
        case first =>
          go_region
          all_goals (go_wp2_with fail; go_meet; exact HSW.out)
        case rest =>
          obtain ⟨own3, bel3⟩ := hcut
          have OW3 := hid own3
          have BW3 := hid bel3
          clear own3 bel3 c0 c1 c2 c3 c4 c5 f0 f1 f2 f3 f4 f5 d0 d1 d2 d3 d4 d5 e0 e1 e2 e3 e4 e5 HSW
          go_wp2
          go_roundw
          case rel => exact ⟨f, _, rfl, hlw, OW3.out, BW3.out, fun m hm => RW.out _ (HST.out _ hm)⟩
          case measure => simp [intOf]; omega
end Go.Proofs.Ytpfidohneddgkaa
