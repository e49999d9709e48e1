/-
  The contract of lex.Where: the place of a text's byte (of at most 2^38 bytes), or why not; under: the tables hold what the program lays (LaidW).
-/
import Derived.Test.YtinjhnflnfpoeaaGreatDoorLF
import Derived.Deep.RegionHeld3
import Derived.Deep.RegionWith
import Derived.Deep.DeepCutAuto
import Derived.Lib.OthersKept
namespace Go.Proofs.YtinjhnflnfpoeaaGreatDoor
open Go Go.RowKit Go.Joins

theorem LaidW.firstc {w : World} (h : LaidW w) : w.cell? ⟨0, 0, none⟩ = some (.int .i64 1) ∧ w.cell? ⟨0, 1, none⟩ = some (.int .i64 1) ∧ 0 < w.heap.size := by
  have hu := h.first
  unfold World.var? at hu
  rw [gFirst] at hu
  simp only [Option.bind_some] at hu
  split at hu
  · rename_i cs t fr hh
    cases hu
    refine ⟨?_, ?_, ?_⟩
    · rw [cell_of_row w 0 _ _ t fr hh]; rfl
    · rw [cell_of_row w 0 _ _ t fr hh]; rfl
    · exact (Array.getElem?_eq_some_iff.1 hh).1
  · cases hu

theorem plAt_step (l : List UInt8) (pos : Nat) (c : UInt8) (r : List UInt8) (hd : l.drop pos = c :: r) (p : Pl) (b : Nat) :
    plAt (l.drop pos) p b = if b < (dec (c :: r)).2 then p else plAt (l.drop (pos + (dec (c :: r)).2)) (behindP p (dec (c :: r)).1) (b - (dec (c :: r)).2) := by
  have htd := tail_drop c r (dec (c :: r)).2 (dec_pos _)
  rw [hd, plAt, htd, ← List.drop_drop, hd]
theorem two_stored {w8 w9 : World} {g6 g7 : Nat} {hr nx : Pl} (v6 : plS.Var w8 g6 hr) (v7 : plS.Var w8 g7 nx) (hg : g6 ≠ g7) (bp : Pl)
    (hW : w9 = (((w8.setCell ⟨g6, 0, none⟩ (.int .i64 nx.line)).setCell ⟨g6, 1, none⟩ (.int .i64 nx.col)).setCell ⟨g7, 0, none⟩ (.int .i64 bp.line)).setCell ⟨g7, 1, none⟩ (.int .i64 bp.col)) :
    plS.Var w9 g6 nx ∧ plS.Var w9 g7 bp ∧ (∀ j, j ≠ g6 → j ≠ g7 → w9.heap[j]? = w8.heap[j]?) ∧ ∀ B, B ≤ g6 → B ≤ g7 → Below B w8 w9 := by
  have hW : w9 = (w8.setCells g6 0 (encP nx)).setCells g7 0 (encP bp) := hW
  subst hW
  have z6 := Sh.var_stored (σ := plS) v6.2 nx
  have y6 := setCells_oth g6 (encP nx) 0 w8
  have y7 := v7.other y6.2 (Ne.symm hg)
  have z7 := Sh.var_stored (σ := plS) y7.2 bp
  have x7 := setCells_oth g7 (encP bp) 0 (w8.setCells g6 0 (encP nx))
  exact ⟨z6.other x7.2 hg, z7, fun j h1 h2 => (x7.2 j h2).trans (y6.2 j h1), fun B h1 h2 => (y6.1.mono h1).trans (x7.1.mono h2)⟩
/-- what Where tells -/
def whereR (l : List UInt8) (at_ : Int) : Value := if at_ < 0 ∨ (l.length : Int) < at_ then .tuple #[plV ⟨0, 0⟩, .int .i64 1] else .tuple #[plV (plAt l firstP at_.toNat), .int .i64 0]
def WherePost (s : ByteArray) (at_ : Int) (w : World) (e : Ending) (w' : World) : Prop := e = .returned (whereR s.data.toList at_) ∧ Below w.heap.size w w'

set_option maxRecDepth 100000 in
theorem where_bad (s : ByteArray) (at_ : Int) (w : World) (h : at_ < 0 ∨ (s.size : Int) < at_) : Calls Tryz.prog 25 #[.string s, .int .i64 at_] w (WherePost s at_ w) := by
  have h1 := hid (show whereR s.data.toList at_ = _ from if_pos h)
  rcases h with h | h
  · go_enter Tryz.func25, Tryz.ntmps25
    go_wp2_with (first
      | (refine Sh.wp_sv plS (x := ⟨0, 0⟩) rfl (.tmp 4) (.tmp 18) rfl rfl (by rfl) q1 ?_; intro w9 q9 b9 o9 _)
      | (refine Sh.wp_al plS rfl rfl ?_; intro w1 q1 b1 s1; clear s1))
    exact bodyPost_ret (results_p1 Tryz.results25 _ rfl q9) rfl ⟨by rw [h1.out]; rfl, b1.trans (b9.mono (Nat.le_refl _))⟩
  · have h0 : ¬ at_ < 0 := by omega
    go_enter Tryz.func25, Tryz.ntmps25
    go_wp2_with (first
      | (refine Sh.wp_sv plS (x := ⟨0, 0⟩) rfl (.tmp 4) (.tmp 18) rfl rfl (by rfl) q1 ?_; intro w9 q9 b9 o9 _)
      | (refine Sh.wp_al plS rfl rfl ?_; intro w1 q1 b1 s1; clear s1))
    exact bodyPost_ret (results_p1 Tryz.results25 _ rfl q9) rfl ⟨by rw [h1.out]; rfl, b1.trans (b9.mono (Nat.le_refl _))⟩

set_option maxHeartbeats 2000000 in
set_option maxRecDepth 100000 in
theorem where_ok (s : ByteArray) (a : Nat) (w : World) (hL : LaidW w) (h : a ≤ s.size) (hs : s.size ≤ 274877906944) : Calls Tryz.prog 25 #[.string s, .int .i64 a] w (WherePost s a w) := by
  have h1 := hid (show whereR s.data.toList a = .tuple #[plV (plAt s.data.toList firstP a), .int .i64 0] from if_neg (by show ¬ ((a : Int) < 0 ∨ ((s.size : Nat) : Int) < a); omega))
  have h0 : ¬ (s.size : Int) < a := by omega
  obtain ⟨f0, f1, hfs⟩ := hL.firstc
  go_enter Tryz.func25, Tryz.ntmps25
  go_wp2_with (first
    | (refine Sh.wp_al plS rfl rfl ?_; intro w1 q1 b1 s1; have f0 : w1.cell? ⟨0, 0, none⟩ = some (.int .i64 1) := (b1.cell (p := ⟨0, 0, none⟩) hfs).trans f0; have f1 : w1.cell? ⟨0, 1, none⟩ = some (.int .i64 1) := (b1.cell (p := ⟨0, 1, none⟩) hfs).trans f1; have hf1 : 0 < w1.heap.size := Nat.lt_of_lt_of_le hfs b1.size; have Q1 := hid q1; have B1 := hid b1; have S1 := hid s1.out; clear q1 b1 s1))
  have hne : ∀ k, ¬ (0 = w1.heap.size + k) := fun k => by omega
  go_cut [6, 7] (fun v6 v7 wx => ∃ g6 g7, v6 = .pointer (some ⟨g6, 0, none⟩) ∧ v7 = .pointer (some ⟨g7, 0, none⟩) ∧ g6 ≠ g7 ∧ w1.heap.size ≤ g6 ∧ w1.heap.size ≤ g7 ∧ Hid (plS.Var wx g6 firstP) ∧ Hid (plS.Var wx g7 firstP) ∧ Hid (Below w1.heap.size w1 wx))
  case first =>
    go_region_held3 (fun w' => w'.cell? ⟨0, 0, none⟩ = some (.int .i64 1) ∧ w'.cell? ⟨0, 1, none⟩ = some (.int .i64 1)) (first | with_reducible exact ⟨f0, f1⟩ | go_keep) (first | fail)
    all_goals
      go_wp2_with fail
      go_meet
      first
        | exact ⟨_, _, rfl, rfl, by omega, by omega, by omega, hid ((Sh.var_new w1 firstP _).keep (((Below.refl _ _).alloc (Nat.le_refl _) _).drew)), hid (by have := Sh.var_new (σ := plS) (w1.alloc (.cells #[.int .i64 1, .int .i64 1] 26)) firstP 26; simp at this; exact this.drew), hid ((((Below.refl _ _).alloc (Nat.le_refl _) _).alloc (by simp) _).drew)⟩
        | exact ⟨_, _, rfl, rfl, by omega, by omega, by omega, hid (by have := Sh.var_new (σ := plS) (w1.alloc (.cells #[.int .i64 1, .int .i64 1] 26)) firstP 26; simp at this; exact this.drew), hid ((Sh.var_new w1 firstP _).keep (((Below.refl _ _).alloc (Nat.le_refl _) _).drew)), hid ((((Below.refl _ _).alloc (Nat.le_refl _) _).alloc (by simp) _).drew)⟩
  case rest =>
    obtain ⟨g6, g7, rfl, rfl, hg, hg6, hg7, V6, V7, BX⟩ := hcut
    have hk6 : g6 < wc.heap.size := V6.out.lt
    have hk7 : g7 < wc.heap.size := V7.out.lt
    go_wp2_with fail
    generalize hk : wc.heap.size = k at *
    have I0 : Hid ((wc.iter s 0).heap[k]? = some (.stringIter s 0)) := hid (by rw [← hk]; exact World.iter_heap wc s 0)
    have bI : Below wc.heap.size wc (wc.iter s 0) := below_iter wc s 0
    have W6 := hid (V6.out.keep bI)
    have W7 := hid (V7.out.keep bI)
    have BY := hid (BX.out.trans (bI.mono BX.out.size))
    clear bI V6 V7 BX hne f0 f1 hf1 hk
    generalize wc.iter s 0 = wi at *
    go_loopw [] (fun wr => ∃ (pos : Nat) (hr nx : Pl), wr.heap[k]? = some (.stringIter s pos) ∧ pos ≤ s.size ∧ plS.Var wr g6 hr ∧ plS.Var wr g7 nx ∧ Below w1.heap.size w1 wr ∧ (hr.line ≤ pos + 1 ∧ hr.col ≤ pos + 1 ∧ nx.line ≤ pos + 1 ∧ nx.col ≤ pos + 1) ∧ (a < pos → hr = plAt s.data.toList firstP a) ∧ (pos ≤ a → plAt (s.data.toList.drop pos) nx (a - pos) = plAt s.data.toList firstP a)) (fun wr => s.size - wr.iterPos k)
    case atStart => exact ⟨0, firstP, firstP, I0.out, Nat.zero_le _, W6.out, W7.out, BY.out, ⟨by decide, by decide, by decide, by decide⟩, fun h => by omega, fun _ => rfl⟩
    case round =>
      obtain ⟨pos, hr, nx, hit, hp, hv6, hv7, hbel, ⟨hb1, hb2, hb3, hb4⟩, hi1, hi2⟩ := hrel
      clear I0 W6 W7 BY
      have V1 := hid (Q1.out.keep hbel)
      by_cases hlt : pos < s.size
      · obtain ⟨c, r, hd, ht⟩ := drop_cons (l := s.data.toList) (k := pos) (by simpa using hlt)
        have hnx : ∀ ty, (Instr.next (.pointer (some ⟨k, 0, none⟩)) true ty).run Tryz.prog wr = _ := fun ty => Lib.run_next_any_at wr k s pos ty hit hlt
        rw [dec_of, hd] at hnx
        have hpl := plAt_step s.data.toList pos c r hd nx
        have h3 := dec_pos (c :: r)
        have h4 := dec_le c r
        have hlen : s.data.toList.length = pos + (r.length + 1) := by
          have := congrArg List.length hd
          rw [List.length_drop] at this
          simp only [List.length_cons] at this
          have h5 : pos < s.data.toList.length := by simpa using hlt
          omega
        have hlen' : s.size = pos + (r.length + 1) := hlen
        clear hd ht hlen
        generalize (dec (c :: r)).1 = x at *
        generalize (dec (c :: r)).2 = n at *
        have HIT := hid hit
        have it2 := Lib.iterAt_heap wr k s pos (pos + n) hit
        have ob : Oth k wr (wr.iterAt k s (pos + n)) := fun j hj => Lib.iterAt_other wr k j s (pos + n) hj
        have bb := Lib.below_iterAt (Below.refl w1.heap.size wr) (k := k) (by omega) s (pos + n)
        have W6 := hid (hv6.other ob (by omega))
        have W7 := hid (hv7.other ob (by omega))
        have W1 := hid (V1.out.other ob (by have := Q1.out.lt; omega))
        have BY := hid (hbel.trans bb)
        have IT := hid it2
        clear it2 ob bb hv6 hv7 V1 hbel hit
        generalize wr.iterAt k s (pos + n) = wr2 at *
        by_cases hgt : a < pos
        · have he := hid (hi1 hgt)
          clear hi1 hi2 hpl
          have w6 := W6.out
          have q1 := W1.out
          go_wp2_with (first
            | (refine Sh.wp_sv plS (x := hr) rfl (.tmp 4) (.tmp 30) rfl rfl (by rfl) q1 ?_; intro w9 q9 b9 o9 _)
            | (refine Sh.wp_ld plS rfl (.tmp 6) rfl rfl w6.1 ?_))
          exact bodyPost_ret (results_p1 Tryz.results25 _ rfl q9) rfl ⟨by rw [h1.out, ← he.out]; rfl, (B1.out.trans (BY.out.mono B1.out.size)).trans (b9.mono (Nat.le_refl _))⟩
        · have hgt' : ¬ (a : Int) < pos := by omega
          have HI := hid (show (a < pos + n → nx = plAt s.data.toList firstP a) ∧ (pos + n ≤ a → plAt (s.data.toList.drop (pos + n)) (behindP nx x) (a - (pos + n)) = plAt s.data.toList firstP a) from by
            have h5 := hi2 (by omega)
            rw [hpl] at h5
            refine ⟨fun h => ?_, fun h => ?_⟩
            · rw [if_pos (by omega)] at h5; exact h5
            · rw [if_neg (by omega)] at h5; rw [← h5, show a - (pos + n) = a - pos - n by omega])
          clear hi1 hi2 hpl
          have HB := hid (fun w => behind_any nx x w (by omega) (by omega))
          have hbb : (behindP nx x).line ≤ pos + n + 1 ∧ (behindP nx x).col ≤ pos + n + 1 := by
            unfold behindP
            split <;> simp <;> omega
          generalize behindP nx x = bp at *
          have HB := hid (show ∀ w, Calls Tryz.prog 38 #[.agg #[.int .i64 nx.line, .int .i64 nx.col], .int .i32 x] w fun e w' => e = .returned (.agg #[.int .i64 bp.line, .int .i64 bp.col]) ∧ Below w.heap.size w w' from HB.out)
          have c0 : wr2.cell? ⟨g7, 0, none⟩ = some (.int .i64 nx.line) := W7.out.cell (j := 0) rfl
          have c1 : wr2.cell? ⟨g7, 1, none⟩ = some (.int .i64 nx.col) := W7.out.cell (j := 1) rfl
          have d0 : wr2.cell? ⟨g6, 0, none⟩ = some (.int .i64 hr.line) := W6.out.cell (j := 0) rfl
          have d1 : wr2.cell? ⟨g6, 1, none⟩ = some (.int .i64 hr.col) := W6.out.cell (j := 1) rfl
          have e0 : wr2.frozen? ⟨g6, 0, none⟩ = false := W6.out.free (j := 0) (by decide)
          have e1 : wr2.frozen? ⟨g6, 1, none⟩ = false := W6.out.free (j := 1) (by decide)
          go_wp2_with fail
          go_region_with
            (first
              | (go_at_call 38; (with_reducible refine (HB.out wr2.drew).mono ?_); rintro e w8 ⟨rfl, b8⟩; have v6 := (W6.out.drew).keep b8; have v7 := (W7.out.drew).keep b8; have c0 : w8.cell? ⟨g7, 0, none⟩ = some (.int .i64 nx.line) := v7.cell (j := 0) rfl; have c1 : w8.cell? ⟨g7, 1, none⟩ = some (.int .i64 nx.col) := v7.cell (j := 1) rfl; have d0 : w8.cell? ⟨g6, 0, none⟩ = some (.int .i64 hr.line) := v6.cell (j := 0) rfl; have d1 : w8.cell? ⟨g6, 1, none⟩ = some (.int .i64 hr.col) := v6.cell (j := 1) rfl; have e0 : w8.frozen? ⟨g6, 0, none⟩ = false := v6.free (j := 0) (by decide); have e1 : w8.frozen? ⟨g6, 1, none⟩ = false := v6.free (j := 1) (by decide); have k0 : w8.frozen? ⟨g7, 0, none⟩ = false := v7.free (j := 0) (by decide); have k1 : w8.frozen? ⟨g7, 1, none⟩ = false := v7.free (j := 1) (by decide); dsimp only)
              | (go_at_call 38; trace_state; fail))
          all_goals
            obtain ⟨w9, hW⟩ : ∃ w9, w9 = (((w8.setCell ⟨g6, 0, none⟩ (.int .i64 nx.line)).setCell ⟨g6, 1, none⟩ (.int .i64 nx.col)).setCell ⟨g7, 0, none⟩ (.int .i64 bp.line)).setCell ⟨g7, 1, none⟩ (.int .i64 bp.col) := ⟨_, rfl⟩
            obtain ⟨z6, z7, z8, z9⟩ := two_stored v6 v7 hg bp hW
            have Z6 := hid z6
            have Z7 := hid z7
            have ZI : Hid (w9.heap[k]? = some (.stringIter s (pos + n))) := hid ((z8 k (by omega) (by omega)).trans ((b8.block k ((Array.getElem?_eq_some_iff.1 IT.out).1)).trans IT.out))
            have ZB : Hid (Below w1.heap.size w1 w9) := hid ((BY.out.drew.trans (b8.mono BY.out.size)).trans (z9 _ hg6 hg7))
            rw [← hW]
            clear c0 c1 d0 d1 e0 e1 k0 k1 v6 v7 z6 z7 z8 z9 b8 hW
            go_wp2_with fail
            go_roundw
            case rel => exact ⟨pos + n, nx, bp, ZI.out, by omega, Z6.out, Z7.out, ZB.out, ⟨by omega, by omega, by omega, by omega⟩, HI.out.1, HI.out.2⟩
            case measure =>
              have e1 : w9.iterPos k = pos + n := by unfold World.iterPos; rw [ZI.out]
              have e2 : wr.iterPos k = pos := by unfold World.iterPos; rw [HIT.out]
              rw [e1, e2]; omega
      · have hnx : ∀ ty, (Instr.next (.pointer (some ⟨k, 0, none⟩)) true ty).run Tryz.prog wr = _ := fun ty => Lib.run_next_end_at wr k s pos ty hit hlt
        obtain rfl : pos = s.size := by omega
        have w6 := hv6
        have w7 := hv7
        have q1 := V1.out
        by_cases hlt2 : a < s.size
        · have hlt2' : (a : Int) < s.size := by omega
          have he := hid (hi1 hlt2)
          clear hi1 hi2 hit hlt hlt2
          go_wp2_with (first
            | (refine Sh.wp_sv plS (x := hr) rfl (.tmp 4) (.tmp 39) rfl rfl (by rfl) q1 ?_; intro w9 q9 b9 o9 _)
            | (refine Sh.wp_ld plS rfl (.tmp 6) rfl rfl w6.1 ?_))
          exact bodyPost_ret (results_p1 Tryz.results25 _ rfl q9) rfl ⟨by rw [h1.out, ← he.out]; rfl, (B1.out.trans (hbel.mono B1.out.size)).trans (b9.mono (Nat.le_refl _))⟩
        · have hlt2' : ¬ (a : Int) < s.size := by omega
          obtain rfl : a = s.size := by omega
          have he : Hid (nx = plAt s.data.toList firstP s.size) := hid (by
            have h5 := hi2 (Nat.le_refl _)
            rw [List.drop_of_length_le (show s.data.toList.length ≤ s.size from Nat.le_refl _), plAt] at h5
            exact h5)
          clear hi1 hi2 hit hlt hlt2
          go_wp2_with (first
            | (refine Sh.wp_sv plS (x := nx) rfl (.tmp 4) (.tmp 40) rfl rfl (by rfl) q1 ?_; intro w9 q9 b9 o9 _)
            | (refine Sh.wp_ld plS rfl (.tmp 7) rfl rfl w7.1 ?_))
          exact bodyPost_ret (results_p1 Tryz.results25 _ rfl q9) rfl ⟨by rw [h1.out, ← he.out]; rfl, (B1.out.trans (hbel.mono B1.out.size)).trans (b9.mono (Nat.le_refl _))⟩
theorem where_any (s : ByteArray) (at_ : Int) (w : World) (hL : LaidW w) (hs : s.size ≤ 274877906944) : Calls Tryz.prog 25 #[.string s, .int .i64 at_] w (WherePost s at_ w) := by
  by_cases h : at_ < 0 ∨ (s.size : Int) < at_
  · exact where_bad s at_ w h
  · obtain ⟨a, rfl⟩ := Int.eq_ofNat_of_zero_le (show 0 ≤ at_ by omega)
    exact where_ok s a w hL (by omega) hs
end Go.Proofs.YtinjhnflnfpoeaaGreatDoor
