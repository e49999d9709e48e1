/-
  The contract of the reader's statement, given what its list tells, at every reader of at most a million tokens.
-/
import Derived.Test.YtinjhnflnfpoeaaGreatDoorPQ
namespace Go.Proofs.YtinjhnflnfpoeaaGreatDoor
open Go Go.RowKit Go.Joins

theorem Sh.Var.mov {P : Program} {α : Type} {σ : Sh P α} {w w' : World} {k g : Nat} {x : α} (h : σ.Var w k x) (hm : Mov g w w') (hg : g < k) : σ.Var w' k x := by
  have e := hm.up k hg h.lt
  exact ⟨fun j v hv => (World.cell?_of_block (a := ⟨k, 0 + j, none⟩) e).trans (h.1 j v hv), fun j hj => ⟨by rw [World.cell?_of_block (a := ⟨k, 0 + j, none⟩) e]; exact (h.2 j hj).1, by rw [World.frozen?_of_block (a := ⟨k, 0 + j, none⟩) e]; exact (h.2 j hj).2⟩⟩
/-- One cell of a variable set. -/
theorem Sh.Var.set1 {P : Program} {α : Type} {σ : Sh P α} {w : World} {k j : Nat} {x x' : α} {v : Value} (h : σ.Var w k x) (hj : j < σ.N) (he : ∀ i u, (σ.enc x')[i]? = some u → if i = j then u = v else (σ.enc x)[i]? = some u) :
    σ.Var (w.setCell ⟨k, j, none⟩ v) k x' ∧ Below k w (w.setCell ⟨k, j, none⟩ v) ∧ Oth k w (w.setCell ⟨k, j, none⟩ v) := by
  have hs := setCells_oth k [v] j w
  refine ⟨⟨fun i u hu => ?_, World.there_setCells h.2 k j [v]⟩, hs.1, hs.2⟩
  have h1 := he i u hu
  by_cases hij : i = j
  · subst hij
    rw [if_pos rfl] at h1
    subst h1
    have := World.rangeAt_setCells_same w k i [u] (fun q hq => by
      obtain rfl : q = 0 := by simp at hq; exact hq
      have := h.2 i hj
      rwa [Nat.zero_add] at this) 0 u rfl
    rwa [Nat.zero_add]
  · rw [if_neg hij] at h1
    have h0 : w.rangeAt k i [u] := fun q y hq => by
      obtain rfl : q = 0 := by have := (List.getElem?_eq_some_iff.1 hq).1; simp at this; exact this
      have h2 := h.1 i u h1
      rw [Nat.zero_add] at h2
      simp at hq
      rw [← hq]
      exact h2
    have := World.rangeAt_setCells_apart h0 k j [v] (by simp only [List.length_singleton]; omega) 0 u rfl
    rwa [Nat.zero_add]
theorem results_s1 {w : World} {g : Nat} {fn : Func} {p r : Tmp} (h : fn.results = #[.cell p 36, .tmp r]) (tmps : Array Value) (hp : tmps.getD p undef = .pointer (some ⟨g, 0, none⟩)) {x : Sm} (hx : smS.Var w g x) :
    (results fn tmps).run Tryz.prog w = .ok (.tuple #[smV x, tmps.getD r undef]) w := by
  have : (loadVar 36 ⟨g, 0, none⟩).run Tryz.prog w = .ok (smV x) w := Sh.ldv smS hx.1
  have hp' : tmps[p]?.getD undef = .pointer (some ⟨g, 0, none⟩) := by simpa using hp
  simp only [results, h]
  simp [Result.andThen, hp', this, asAddr]
def stmX (L : Nat → Nat → List Tk → Res) (deep many : Nat) (t : Tk) (rest : List Tk) : Res := if many = 2000 then .bad 7 (t :: rest) else stmF L t.s deep (many + 1) rest
theorem rest_head {ts : List Tk} {t : Tk} {r : List Tk} (h : restF ts = t :: r) : ¬ t.kind = 2 := by
  have := List.head?_dropWhile_not isN ts
  unfold restF at h
  rw [h] at this
  simpa [isN] using this

theorem numbers_ok {w : World} {g b c many : Nat} {pre rest r : List Tk} (h : Rd w g b c pre rest many) (hf : fewN rest = true) (hr : restF rest = r) : Calls Tryz.prog 70 #[.pointer (some ⟨g, 0, none⟩)] w fun e w' =>
    Mov g w w' ∧ Rd w' g b c (pre ++ rest.takeWhile isN) r many ∧ ∃ A n c', n ≤ 8 ∧ e = .returned (.tuple #[.slice A n c', .int .i64 0]) ∧ RwP nmS w' (fun k => w.heap.size ≤ k ∧ k < w'.heap.size) A n (numsF rest) := by
  subst hr
  refine (numbers_any h).mono ?_
  rintro e w' ⟨h1, ⟨_, h2, h3⟩ | ⟨h2, _⟩⟩
  · exact ⟨h1, h2, h3⟩
  · rw [hf] at h2; cases h2

set_option maxRecDepth 100000 in
theorem stm_full {n : Nat} {d : Nat} {w : World} {g b c many : Nat} {pre rest : List Tk} {t : Tk} (h : Rd w g b c pre (t :: rest) many) (hm : many = 2000) :
    Calls Tryz.prog 57 #[.pointer (some ⟨g, 0, none⟩), .string (strB t.s), .int .i64 (d : Nat)] w (SmPost (stmX (lstF n) d many t rest) w g b c pre (t :: rest)) := by
  have HG := hid h.lt
  have HR := hid h
  unfold stmX
  rw [if_pos hm]
  have c2 := h.c2
  rw [hm] at c2
  clear h hm
  go_enter Tryz.func57, Tryz.ntmps57
  go_wp2_with (first
    | (refine Sh.wp_sv smS (x := smZ) rfl (.tmp 6) (.tmp 16) rfl rfl (by rfl) q1 ?_; intro w3 q3 b3 o3 s3; have B3 := hid (B1.out.trans (b3.mono (Nat.le_refl _))); clear b3 o3 s3)
    | (refine Sh.wp_al smS rfl rfl ?_; intro w1 q1 b1 s1; have c2 : w1.cell? ⟨g, 2, none⟩ = some (.int .i64 (2000 : Nat)) := (b1.cell (p := ⟨g, 2, none⟩) HG.out).trans c2; have B1 := hid b1; clear b1 s1))
  exact bodyPost_ret (results_s1 Tryz.results57 _ rfl q3) rfl ⟨.of B3.out (Nat.le_of_lt HG.out), ⟨many, .here (HR.out.below B3.out)⟩, ⟨by decide, by decide⟩, rfl⟩

set_option maxHeartbeats 1000000 in
set_option maxRecDepth 100000 in
theorem stm_nums {d : Nat} {w : World} {g b c many : Nat} {pre rest : List Tk} {t : Tk} (h : Rd w g b c pre (t :: rest) many) (hm : ¬ many = 2000) (hf : fewN rest = false) :
    Calls Tryz.prog 57 #[.pointer (some ⟨g, 0, none⟩), .string (strB t.s), .int .i64 (d : Nat)] w (SmPost (.bad 7 (rest.drop 8)) w g b c pre (t :: rest)) := by
  have HG := hid h.lt
  have HGB := hid h.ltb
  have hm2 : many ≤ 1999 := by have := h.le2; omega
  have hm3 : many < 2000 := by omega
  have hmf : ((many : Int) == 2000) = false := beq_eq_false_iff_ne.2 (by omega)
  have HR := hid h
  clear h
  go_enter Tryz.func57, Tryz.ntmps57
  go_upto_region 4 with (first
    | (refine Sh.wp_al smS rfl rfl ?_; intro w1 v1 b1 s1; have B1 := hid b1; have V1 := hid v1; have R1 := HR.out.below b1; have c2 := R1.c2; have f2 := R1.free (j := 2) (by omega); have HK := hid (fun (z : Int) (hz : z = (many : Int) + 1) => R1.many1 hm3 (z := z) hz); clear R1 b1 v1 s1))
  obtain ⟨R2, M2⟩ := HK.out ((many : Int) + 1) rfl
  have M2 := hid ((Mov.of B1.out (Nat.le_of_lt HG.out)).trans M2)
  have V2 := hid (V1.out.mov (HK.out ((many : Int) + 1) rfl).2 HG.out)
  clear HK c2 f2 V1 B1
  generalize w1.setCell ⟨g, 2, none⟩ (.int .i64 ((many : Int) + 1)) = w2 at *
  have c1 := R2.c1
  have f1 := R2.free (j := 1) (by omega)
  have hkl : (pre.length : Int) ≤ 1000000 := by have := R2.le; omega
  have hk0 : 0 ≤ (pre.length : Int) := by omega
  have HK := hid (show ∀ z : Int, z = (pre.length : Int) + 1 → _ from fun z hz => R2.at1 (z := z) hz)
  clear R2
  generalize (pre.length : Int) = q at *
  go_upto_region 5 with fail
  obtain ⟨R3, M3⟩ := HK.out (q + 1) rfl
  have V3 := hid (V2.out.mov M3 HG.out)
  have M3 := hid (M2.out.trans M3)
  have HN := hid (numbers_any R3)
  clear HK c1 f1 V2 M2 R3
  generalize w2.setCell ⟨g, 1, none⟩ (.int .i64 (q + 1)) = w3 at *
  go_wp2_with (first
    | (refine Sh.wp_sv smS (x := smZ) rfl (.tmp 6) (.tmp 38) rfl rfl (by rfl) q4 ?_; intro w5 q5 b5 o5 s5; have B5 := hid b5; have O5 := hid o5; clear b5 o5 s5)
    | (go_at_call 70; refine HN.out.mono ?_; rintro e w4 ⟨m4, ⟨hf2, _⟩ | ⟨_, r4, rfl⟩⟩; (exfalso; rw [hf] at hf2; cases hf2); have M4 := hid (M3.out.trans m4); have R4 := hid r4; have q4 := V3.out.mov m4 HG.out; clear m4 r4))
  exact bodyPost_ret (results_s1 Tryz.results57 _ rfl q5) rfl ⟨M4.out.since (B5.out) (Nat.le_of_lt HG.out), ⟨many + 1, Went.more (q := [t]) ⟨rest.take 8, (List.take_append_drop 8 rest).symm, R4.out.over B5.out HG.out (Nat.lt_of_lt_of_le HGB.out (Nat.le_refl _))⟩⟩, ⟨by decide, by decide⟩, rfl⟩

set_option maxHeartbeats 1000000 in
set_option maxRecDepth 100000 in
theorem stm_end {d : Nat} {w : World} {g b c many : Nat} {pre rest : List Tk} {t : Tk} (h : Rd w g b c pre (t :: rest) many) (hm : ¬ many = 2000) (hf : fewN rest = true) (hr : restF rest = []) :
    Calls Tryz.prog 57 #[.pointer (some ⟨g, 0, none⟩), .string (strB t.s), .int .i64 (d : Nat)] w (SmPost (.bad 3 ([])) w g b c pre (t :: rest)) := by
  have HG := hid h.lt
  have hm2 : many ≤ 1999 := by have := h.le2; omega
  have hm3 : many < 2000 := by omega
  have hmf : ((many : Int) == 2000) = false := beq_eq_false_iff_ne.2 (by omega)
  have HGB := hid h.ltb
  have hv := (show nowV [] = .iface 74 (.agg #[]) from rfl)
  have a1 := as_ew (.agg #[])
  have a2 := as_ee (.agg #[])
  have HR := hid h
  clear h
  go_enter Tryz.func57, Tryz.ntmps57
  go_upto_region 4 with (first
    | (refine Sh.wp_al smS rfl rfl ?_; intro w1 v1 b1 s1; have B1 := hid b1; have V1 := hid v1; have R1 := HR.out.below b1; have c2 := R1.c2; have f2 := R1.free (j := 2) (by omega); have HK := hid (fun (z : Int) (hz : z = (many : Int) + 1) => R1.many1 hm3 (z := z) hz); clear R1 b1 v1 s1))
  obtain ⟨R2, M2⟩ := HK.out ((many : Int) + 1) rfl
  have M2 := hid ((Mov.of B1.out (Nat.le_of_lt HG.out)).trans M2)
  have V2 := hid (V1.out.mov (HK.out ((many : Int) + 1) rfl).2 HG.out)
  clear HK c2 f2 V1 B1
  generalize w1.setCell ⟨g, 2, none⟩ (.int .i64 ((many : Int) + 1)) = w2 at *
  have c1 := R2.c1
  have f1 := R2.free (j := 1) (by omega)
  have hkl : (pre.length : Int) ≤ 1000000 := by have := R2.le; omega
  have hk0 : 0 ≤ (pre.length : Int) := by omega
  have HK := hid (show ∀ z : Int, z = (pre.length : Int) + 1 → _ from fun z hz => R2.at1 (z := z) hz)
  clear R2
  generalize (pre.length : Int) = q at *
  go_upto_region 5 with fail
  obtain ⟨R3, M3⟩ := HK.out (q + 1) rfl
  have V3 := hid (V2.out.mov M3 HG.out)
  have M3 := hid (M2.out.trans M3)
  have HN := hid (numbers_ok R3 hf hr)
  clear HK c1 f1 V2 M2 R3
  generalize w2.setCell ⟨g, 1, none⟩ (.int .i64 (q + 1)) = w3 at *
  go_wp2_with (first
    | (refine Sh.wp_sv smS (x := smZ) rfl (.tmp 6) (.tmp 49) rfl rfl (by rfl) q6 ?_; intro w7 q7 b7 o7 s7; have B7 := hid b7; clear b7 o7 s7)
    | (go_at_call 71; refine N6.out.mono ?_; rintro e w6 ⟨rfl, b6⟩; have B6 := hid (B5.out.trans (b6.mono B5.out.size)); have q6 := q5.keep b6; clear b6)
    | (go_at_call 40; refine N5.out.mono ?_; rintro e w5 ⟨rfl, b5⟩; have B5 := hid b5; have q5 := q4.keep b5; have N6 := hid (wrong_any (R4.out.below b5)); clear b5)
    | (go_at_call 70; refine HN.out.mono ?_; rintro e w4 ⟨m4, r4, A, k, c4, hk8, rfl, hns⟩; have M4 := hid (M3.out.trans m4); have R4 := hid r4; have q4 := V3.out.mov m4 HG.out; have NS4 := hid (hns.mono (P' := fun j => w.heap.size ≤ j ∧ j < w4.heap.size) fun _ h _ => ⟨Nat.le_trans M3.out.size h.1, h.2⟩); have N5 := hid (now_is R4.out hv); have K8 := hid hk8; clear m4 r4 hns hk8))
  have B67 := hid (B6.out.mono M4.out.size)
  exact bodyPost_ret (results_s1 Tryz.results57 _ rfl q7) rfl ⟨(M4.out.then B6.out (Nat.le_of_lt HG.out)).since B7.out (Nat.le_of_lt HG.out), ⟨many + 1, Went.more (q := [t]) ⟨rest.takeWhile isN, by rw [← hr]; exact (List.takeWhile_append_dropWhile).symm, (R4.out.below B6.out).over B7.out HG.out HGB.out⟩⟩, ⟨by decide, by decide⟩, rfl⟩

set_option maxHeartbeats 1000000 in
set_option maxRecDepth 100000 in
theorem stm_word {d : Nat} {w : World} {g b c many : Nat} {pre rest : List Tk} {t u : Tk} {r2 : List Tk} (h : Rd w g b c pre (t :: rest) many) (hm : ¬ many = 2000) (hf : fewN rest = true) (hr : restF rest = u :: r2) (hu : u.kind = 1) :
    Calls Tryz.prog 57 #[.pointer (some ⟨g, 0, none⟩), .string (strB t.s), .int .i64 (d : Nat)] w (SmPost (.bad 4 (u :: r2)) w g b c pre (t :: rest)) := by
  have HG := hid h.lt
  have hm2 : many ≤ 1999 := by have := h.le2; omega
  have hm3 : many < 2000 := by omega
  have hmf : ((many : Int) == 2000) = false := beq_eq_false_iff_ne.2 (by omega)
  have HGB := hid h.ltb
  have hv := now_w u r2 hu
  have a1 := as_ww (.string (strB u.s))
  have a2 := as_we (.string (strB u.s))
  have HR := hid h
  clear h
  go_enter Tryz.func57, Tryz.ntmps57
  go_upto_region 4 with (first
    | (refine Sh.wp_al smS rfl rfl ?_; intro w1 v1 b1 s1; have B1 := hid b1; have V1 := hid v1; have R1 := HR.out.below b1; have c2 := R1.c2; have f2 := R1.free (j := 2) (by omega); have HK := hid (fun (z : Int) (hz : z = (many : Int) + 1) => R1.many1 hm3 (z := z) hz); clear R1 b1 v1 s1))
  obtain ⟨R2, M2⟩ := HK.out ((many : Int) + 1) rfl
  have M2 := hid ((Mov.of B1.out (Nat.le_of_lt HG.out)).trans M2)
  have V2 := hid (V1.out.mov (HK.out ((many : Int) + 1) rfl).2 HG.out)
  clear HK c2 f2 V1 B1
  generalize w1.setCell ⟨g, 2, none⟩ (.int .i64 ((many : Int) + 1)) = w2 at *
  have c1 := R2.c1
  have f1 := R2.free (j := 1) (by omega)
  have hkl : (pre.length : Int) ≤ 1000000 := by have := R2.le; omega
  have hk0 : 0 ≤ (pre.length : Int) := by omega
  have HK := hid (show ∀ z : Int, z = (pre.length : Int) + 1 → _ from fun z hz => R2.at1 (z := z) hz)
  clear R2
  generalize (pre.length : Int) = q at *
  go_upto_region 5 with fail
  obtain ⟨R3, M3⟩ := HK.out (q + 1) rfl
  have V3 := hid (V2.out.mov M3 HG.out)
  have M3 := hid (M2.out.trans M3)
  have HN := hid (numbers_ok R3 hf hr)
  clear HK c1 f1 V2 M2 R3
  generalize w2.setCell ⟨g, 1, none⟩ (.int .i64 (q + 1)) = w3 at *
  go_wp2_with (first
    | (refine Sh.wp_sv smS (x := smZ) rfl (.tmp 6) (.tmp 49) rfl rfl (by rfl) q6 ?_; intro w7 q7 b7 o7 s7; have B7 := hid b7; clear b7 o7 s7)
    | (go_at_call 71; refine N6.out.mono ?_; rintro e w6 ⟨rfl, b6⟩; have B6 := hid (B5.out.trans (b6.mono B5.out.size)); have q6 := q5.keep b6; clear b6)
    | (go_at_call 40; refine N5.out.mono ?_; rintro e w5 ⟨rfl, b5⟩; have B5 := hid b5; have q5 := q4.keep b5; have N6 := hid (wrong_any (R4.out.below b5)); clear b5)
    | (go_at_call 70; refine HN.out.mono ?_; rintro e w4 ⟨m4, r4, A, k, c4, hk8, rfl, hns⟩; have M4 := hid (M3.out.trans m4); have R4 := hid r4; have q4 := V3.out.mov m4 HG.out; have NS4 := hid (hns.mono (P' := fun j => w.heap.size ≤ j ∧ j < w4.heap.size) fun _ h _ => ⟨Nat.le_trans M3.out.size h.1, h.2⟩); have N5 := hid (now_is R4.out hv); have K8 := hid hk8; clear m4 r4 hns hk8))
  have B67 := hid (B6.out.mono M4.out.size)
  exact bodyPost_ret (results_s1 Tryz.results57 _ rfl q7) rfl ⟨(M4.out.then B6.out (Nat.le_of_lt HG.out)).since B7.out (Nat.le_of_lt HG.out), ⟨many + 1, Went.more (q := [t]) ⟨rest.takeWhile isN, by rw [← hr]; exact (List.takeWhile_append_dropWhile).symm, (R4.out.below B6.out).over B7.out HG.out HGB.out⟩⟩, ⟨by decide, by decide⟩, rfl⟩
end Go.Proofs.YtinjhnflnfpoeaaGreatDoor
