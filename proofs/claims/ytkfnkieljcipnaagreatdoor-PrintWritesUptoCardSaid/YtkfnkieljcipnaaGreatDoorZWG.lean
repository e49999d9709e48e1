/-
  Contracts of print.Tidy and print.Is at every text, and of the law functions' live and few; under: the tables hold what the program lays.
-/
import Derived.Test.YtkfnkieljcipnaaGreatDoorZWF
namespace Go.Proofs.YtkfnkieljcipnaaGreatDoor
open Go Go.RowKit Go.Joins

/-- What Tidy tells. -/
structure Td where
  s : List UInt8
  p : Pl
  e : Nat
deriving DecidableEq
def tdF (l : List UInt8) : Td := match parF l with
  | .bad p e => ⟨[], p, e⟩
  | .ok f => if 65536 < (f.text []).length then ⟨[], firstP, 6⟩ else ⟨f.text [], ⟨0, 0⟩, 0⟩
def tdV (d : Td) : Value := .tuple #[.string (bA d.s), plV d.p, .int .i64 (d.e : Nat)]
theorem chk_at {f : Fo} {w : World} {K : Nat → Prop} {A : Option Addr} {n c : Nat} {l : List UInt8} (h : parF l = .ok f) (ht : TrS w K A n f) : ChkAt f (.slice A n c) w := by
  intro w1 hb
  obtain ⟨h1, h2⟩ := par_okA h
  exact check_any f w1 K A n c (ht.below hb) (okA_okS h1) (by omega)
set_option maxHeartbeats 1000000 in
set_option maxRecDepth 100000 in
theorem tidy_any (s : ByteArray) (w : World) (hL : LaidW w) (hs : s.size ≤ 9223372036854775807) : Calls Tryz.prog 32 #[.string s] w fun e w' => e = .returned (tdV (tdF s.data.toList)) ∧ Below w.heap.size w w' := by
  have HPA := hid (fun w1 (hb : Below w.heap.size w w1) => parse_any s w1 (hL.below hb) hs)
  have HL := hid hL
  clear hL hs
  cases hp : parF s.data.toList with
  | bad p er =>
    have hE : tdF s.data.toList = ⟨[], p, er⟩ := by unfold tdF; rw [hp]
    rw [hE]
    rw [hp] at HPA
    by_cases hne : er = 0
    · clear hE hp HL
      go_enter Tryz.func32, Tryz.ntmps32
      go_wp2_with (first
        | (go_at_call 13; refine (HPA.out w1 B1.out).mono ?_; rintro e w2 ⟨b2, hpos, rfl⟩; exact absurd hpos.1 (by omega))
        | (refine Sh.wp_al plS rfl rfl ?_; intro w1 v1 b1 s1; have B1 := hid b1; clear v1 b1 s1))
    have hne' : ((er : Int) == 0) = false := beq_eq_false_iff_ne.2 (by omega)
    clear hE hp HL hne
    go_enter Tryz.func32, Tryz.ntmps32
    go_upto_region 3 with (first
      | (refine Sh.wp_sv plS (x := p) rfl (.tmp 6) (.tmp 13) rfl rfl (by rfl) q3 ?_; intro w4 q4 b4 o4 s4; have V4 := hid (V3.out.other o4 (by have := N3.out; omega)); have Q4 := hid q4; have B4 := hid (B3.out.trans (b4.mono (by have := N3.out; omega))); clear q3 b4 o4 s4 q4)
      | (refine Sh.wp_al plS rfl rfl ?_; intro w3 q3 b3 s3; have V3 := hid (V2.out.keep b3); have N3 := hid (V2.out.lt); have B3 := hid (B2.out.trans (b3.mono B2.out.size)); clear b3 s3)
      | (go_at_call 13; refine (HPA.out w1 B1.out).mono ?_; rintro e w2 ⟨b2, _, rfl⟩; have V2 := hid (V1.out.keep b2); have B2 := hid (B1.out.trans (b2.mono B1.out.size)); clear b2)
      | (refine Sh.wp_al plS rfl rfl ?_; intro w1 v1 b1 s1; have V1 := hid v1; have B1 := hid b1; clear v1 b1 s1))
    have c0 : w4.cell? ⟨w2.heap.size, 0, none⟩ = some (.int .i64 p.line) := Q4.out.cell (j := 0) rfl
    have c1 : w4.cell? ⟨w2.heap.size, 1, none⟩ = some (.int .i64 p.col) := Q4.out.cell (j := 1) rfl
    have d0 : w4.cell? ⟨w.heap.size, 0, none⟩ = some (.int .i64 0) := V4.out.cell (j := 0) rfl
    have d1 : w4.cell? ⟨w.heap.size, 1, none⟩ = some (.int .i64 0) := V4.out.cell (j := 1) rfl
    have e0 : w4.frozen? ⟨w.heap.size, 0, none⟩ = false := V4.out.free (j := 0) (by decide)
    have e1 : w4.frozen? ⟨w.heap.size, 1, none⟩ = false := V4.out.free (j := 1) (by decide)
    have hg48 : ¬ w2.heap.size = w.heap.size := by have := N3.out; omega
    have hg84 : ¬ w.heap.size = w2.heap.size := by omega
    go_region_held3 (fun w' => w'.cell? ⟨w2.heap.size, 0, none⟩ = some (.int .i64 p.line) ∧ w'.cell? ⟨w2.heap.size, 1, none⟩ = some (.int .i64 p.col)) (first | with_reducible exact ⟨c0, c1⟩ | go_keep) (first | fail)
    all_goals
      obtain ⟨w9, hW⟩ : ∃ w9, w9 = ((w4.setCell ⟨w.heap.size, 0, none⟩ (.int .i64 p.line)).setCell ⟨w.heap.size, 1, none⟩ (.int .i64 p.col)).drew := ⟨_, rfl⟩
      obtain ⟨z6, z7⟩ := one_stored V4.out p hW
      rw [← hW]
      clear hW c0 c1 d0 d1 e0 e1
      go_wp2_with fail
      exact bodyPost_ret (results_1p1 Tryz.results32 _ rfl z6) rfl ⟨rfl, B4.out.trans (z7 _ (Nat.le_refl _))⟩
  | ok f =>
    have hchk := par_check hp
    have HPR := hid (fun w1 w2 (b1 : Below w.heap.size w w1) A n c (ht : TrS w2 (fun k => w1.heap.size ≤ k ∧ k < w2.heap.size) A n f) (b2 : Below w1.heap.size w1 w2) w4 (b4 : Below w2.heap.size w2 w4) => print_any f w4 _ A n c (HL.out.below ((b1.trans (b2.mono b1.size)).trans (b4.mono (Nat.le_trans b1.size b2.size)))) (ht.below b4) (fun k hk => Nat.lt_of_lt_of_le hk.2 b4.size) (chk_at hp (ht.below b4)))
    rw [hp] at HPA
    by_cases hlen : 65536 < (f.text []).length
    · have hE : tdF s.data.toList = ⟨[], firstP, 6⟩ := by unfold tdF; rw [hp]; simp only; rw [if_pos hlen]
      have hP : prE f = 6 := by unfold prE; rw [if_pos hchk, if_pos hlen]
      have hT : prT f = [] := by unfold prT; rw [hP]; rfl
      rw [hE]
      rw [hP, hT] at HPR
      clear hE hP hT hp hchk hlen HL
      go_enter Tryz.func32, Tryz.ntmps32
      go_wp2_with (first
      | (refine Sh.wp_sv plS (x := firstP) rfl (.tmp 3) (.tmp 26) rfl rfl (by rfl) V5.out ?_; intro w6 q6 b6 o6 s6; have Q6 := hid q6; have B6 := hid (B5.out.trans (b6.mono (Nat.le_refl _))); clear q6 b6 o6 s6)
      | (go_at_call 27; refine (HPR.out w1 w2 B1.out A n c T2.out B12.out w4 B34.out).mono ?_; rintro e w5 ⟨rfl, b5⟩; have V5 := hid (V4.out.keep b5); have B5 := hid (B4.out.trans (b5.mono B4.out.size)); clear b5)
      | (refine Sh.wp_sv plS (x := ⟨0, 0⟩) rfl (.tmp 6) (.tmp 13) rfl rfl (by rfl) q3 ?_; intro w4 q4 b4 o4 s4; have V4 := hid (V3.out.other o4 (by have := N3.out; omega)); have B34 := hid (B23.out.trans (b4.mono (Nat.le_refl _))); have B4 := hid (B3.out.trans (b4.mono (by have := N3.out; omega))); have N4 := hid (Nat.lt_of_lt_of_le N3.out (by have := B34.out.size; omega)); clear q3 b4 o4 s4 q4)
      | (refine Sh.wp_al plS rfl rfl ?_; intro w3 q3 b3 s3; have V3 := hid (V2.out.keep b3); have N3 := hid (V2.out.lt); have B23 := hid b3; have B3 := hid (B2.out.trans (b3.mono B2.out.size)); clear b3 s3)
      | (go_at_call 13; refine (HPA.out w1 B1.out).mono ?_; rintro e w2 ⟨b2, A, n, c, rfl, t2⟩; have V2 := hid (V1.out.keep b2); have B2 := hid (B1.out.trans (b2.mono B1.out.size)); have T2 := hid t2; have B12 := hid b2; clear b2 t2)
      | (refine Sh.wp_al plS rfl rfl ?_; intro w1 v1 b1 s1; have V1 := hid v1; have B1 := hid b1; clear v1 b1 s1))
      exact bodyPost_ret (results_1p1 Tryz.results32 _ rfl Q6.out) rfl ⟨rfl, B6.out⟩
    · have hE : tdF s.data.toList = ⟨f.text [], ⟨0, 0⟩, 0⟩ := by unfold tdF; rw [hp]; simp only; rw [if_neg hlen]
      have hP : prE f = 0 := by unfold prE; rw [if_pos hchk, if_neg hlen]
      have hT : prT f = f.text [] := by unfold prT; rw [hP]; rfl
      rw [hE]
      rw [hP, hT] at HPR
      clear hE hP hT hp hchk hlen HL
      generalize f.text [] = q at *
      go_enter Tryz.func32, Tryz.ntmps32
      go_wp2_with (first
      | (refine Sh.wp_sv plS (x := ⟨0, 0⟩) rfl (.tmp 3) (.tmp 29) rfl rfl (by rfl) V5.out ?_; intro w6 q6 b6 o6 s6; have Q6 := hid q6; have B6 := hid (B5.out.trans (b6.mono (Nat.le_refl _))); clear q6 b6 o6 s6)
      | (go_at_call 27; refine (HPR.out w1 w2 B1.out A n c T2.out B12.out w4 B34.out).mono ?_; rintro e w5 ⟨rfl, b5⟩; have V5 := hid (V4.out.keep b5); have B5 := hid (B4.out.trans (b5.mono B4.out.size)); clear b5)
      | (refine Sh.wp_sv plS (x := ⟨0, 0⟩) rfl (.tmp 6) (.tmp 13) rfl rfl (by rfl) q3 ?_; intro w4 q4 b4 o4 s4; have V4 := hid (V3.out.other o4 (by have := N3.out; omega)); have B34 := hid (B23.out.trans (b4.mono (Nat.le_refl _))); have B4 := hid (B3.out.trans (b4.mono (by have := N3.out; omega))); have N4 := hid (Nat.lt_of_lt_of_le N3.out (by have := B34.out.size; omega)); clear q3 b4 o4 s4 q4)
      | (refine Sh.wp_al plS rfl rfl ?_; intro w3 q3 b3 s3; have V3 := hid (V2.out.keep b3); have N3 := hid (V2.out.lt); have B23 := hid b3; have B3 := hid (B2.out.trans (b3.mono B2.out.size)); clear b3 s3)
      | (go_at_call 13; refine (HPA.out w1 B1.out).mono ?_; rintro e w2 ⟨b2, A, n, c, rfl, t2⟩; have V2 := hid (V1.out.keep b2); have B2 := hid (B1.out.trans (b2.mono B1.out.size)); have T2 := hid t2; have B12 := hid b2; clear b2 t2)
      | (refine Sh.wp_al plS rfl rfl ?_; intro w1 v1 b1 s1; have V1 := hid v1; have B1 := hid b1; clear v1 b1 s1))
      exact bodyPost_ret (results_1p1 Tryz.results32 _ rfl Q6.out) rfl ⟨rfl, B6.out⟩
end Go.Proofs.YtkfnkieljcipnaaGreatDoor
