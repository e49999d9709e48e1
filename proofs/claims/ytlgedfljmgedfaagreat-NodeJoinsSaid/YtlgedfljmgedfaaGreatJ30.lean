/-
  Texts NY of this seat, as far as they are used.
-/
import Derived.Test.YtlgedfljmgedfaaGreatJ16
import Derived.Test.YtlgedfljmgedfaaGreatJ29
namespace Go.Proofs.YtlgedfljmgedfaaGreat
open Go Go.RowKit
open M10 (hid Md encm mv mz Oth range_keep there_keep range_other there_other setCells_oth setCells_size there_set Ty enct tv tz Fr encf fv fz)
open O6 (Oc enco ov oz)
open T9 (sv)
/-! ### join whole -/
/-- By this frame it joins. -/
def joins (m : Md) (x : Nd) (f : Fr) (now began : Int) : Prop := (f.s : Int) % m.n = f.f ∧ 0 ≤ began - O6.psO x.o m.l ∧ now < began - O6.psO x.o m.l + O6.psO x.o m.s
instance (m : Md) (x : Nd) (f : Fr) (a b : Int) : Decidable (joins m x f a b) := by unfold joins; infer_instance
def joinN (m : Md) (x : Nd) (f : Fr) (now began : Int) : Nd := if joins m x f now began then joiN x f (began - O6.psO x.o m.l) else x
def joinL (m : Md) (x : Nd) (f : Fr) (now began : Int) : List Ac := if joins m x f now began then [note 3 (f.s : Int), timr (timeT (joiN x f (began - O6.psO x.o m.l)) m.s)] else []
def joinE (m : Md) (x : Nd) (f : Fr) (now began : Int) : Int := if joins m x f now began then timeE (joiN x f (began - O6.psO x.o m.l)) m.s else 0
theorem join_any (K : Nat → Prop) (base g : Nat) (x : Nd) (m : Md) (f : Fr) (now began : Int) (w : World) (h : Wk w K base g x m []) (k : NdOk m x) (hf : M10.OkF f) (hfm : f.m < 65536) (hb0 : 0 ≤ began) (hb1 : began ≤ now) (hn : now ≤ 1152921504606846976) :
    Calls Tryz.prog 48 #[.pointer (some ⟨g, 0, none⟩), fv f, .int .i64 now, .int .i64 began] w (RetW K base g (joinN m x f now began) m (joinL m x f now began) (.int .i64 (joinE m x f now began)) w) := by
  unfold joinN joinL joinE
  by_cases hj : joins m x f now began
  · rw [if_pos hj, if_pos hj, if_pos hj]
    exact join_ok K base g x m [] f now began _ w h (by simp) k hf hfm hj.1 hb0 hb1 hn rfl hj.2.1 hj.2.2
  · rw [if_neg hj, if_neg hj, if_neg hj]
    by_cases hO : (f.s : Int) % m.n = f.f
    · by_cases hs : began - O6.psO x.o m.l < 0
      · exact join_early K base g x m [] f now began w h (by simp) k hf hO hb0 hb1 hn hs
      · have hs : 0 ≤ began - O6.psO x.o m.l := by omega
        exact join_late K base g x m [] f now began w h (by simp) k hf hO hb0 hb1 hn hs (by have : ¬ now < began - O6.psO x.o m.l + O6.psO x.o m.s := fun e => hj ⟨hO, hs, e⟩; omega)
    · exact join_other K base g x m [] f now began w h k hf hO
/-! ### What is read -/
def tof (f : F8.Fr) : Fr := ⟨f.k, f.f, f.s, f.m⟩
def rdF (bs : List Nat) : Fr := tof (F8.rd bs).1
def rdE (bs : List Nat) : Nat := (F8.rd bs).2
theorem rd_ok {bs : List Nat} (ho : F8.Oct bs) (h : rdE bs = 0) : M10.OkF (rdF bs) ∧ (rdF bs).m < 65536 := by
  unfold rdE at h
  unfold rdF
  unfold F8.rd at h ⊢
  split at h
  · cases h
  split at h
  · cases h
  split at h
  · split at h
    · next h1 h2 h3 h4 =>
      rw [if_neg h1, if_neg h2, if_pos h3, if_pos h4]
      refine ⟨h4.2, ?_⟩
      have hO : F8.Oct (bs.take (bs.length - 3)) := fun x hx => ho x (List.mem_of_mem_take hx)
      exact (F8.tf_place _ _ 2 _ _ _ hO rfl).1
    · cases h
  · cases h
theorem readF_any (A : Option Addr) (n c B : Nat) (bs : List Nat) (w : World) (ha : F8.Row w B A n (F8.bv bs)) (hB : B ≤ w.heap.size) (ho : F8.Oct bs) (hnc : n ≤ c) (hn : n ≤ 1048579) :
    Calls Tryz.prog 27 #[.slice A n c] w fun e w' => e = .returned (.tuple #[fv (rdF bs), .int .i64 (rdE bs : Nat)]) ∧ Below w.heap.size w w' := F8.read_any A n c B bs w ha hB ho hnc hn
/-! ### Hear's closure -/
/-- What is heard does not concern it. -/
def deaf (x : Nd) (bs : List Nat) (bad : Bool) : Prop := bad = true ∨ ¬ rdE bs = 0 ∨ (rdF bs).f = x.id
instance (x : Nd) (bs : List Nat) (bad : Bool) : Decidable (deaf x bs bad) := by unfold deaf; infer_instance
def heaN (m : Md) (x : Nd) (now began : Int) (bs : List Nat) (bad : Bool) : Nd := if deaf x bs bad then x else if x.ph = 1 then joinN m x (rdF bs) now began else if x.ph = 2 then judN m x (rdF bs) began else x
def heaL (m : Md) (x : Nd) (now began : Int) (bs : List Nat) (bad : Bool) : List Ac := if deaf x bs bad then [] else if x.ph = 1 then joinL m x (rdF bs) now began else if x.ph = 2 then judL m x (rdF bs) began else []
def heaE (m : Md) (x : Nd) (now began : Int) (bs : List Nat) (bad : Bool) : Int := if deaf x bs bad then 0 else if x.ph = 1 then joinE m x (rdF bs) now began else 0
set_option maxRecDepth 100000 in
set_option maxHeartbeats 2000000 in
theorem hear_a (K : Nat → Prop) (base g cb cd cn cg : Nat) (x : Nd) (m : Md) (now began : Int) (A : Option Addr) (n c BB : Nat) (bs : List Nat) (bad : Bool) (w : World) (h : Wk w K base g x m []) (k : NdOk m x)
    (hb : w.cell? ⟨cb, 0, none⟩ = some (.slice A n c)) (hd : w.cell? ⟨cd, 0, none⟩ = some (.bool bad)) (hn : w.cell? ⟨cn, 0, none⟩ = some (.int .i64 now)) (hg : w.cell? ⟨cg, 0, none⟩ = some (.int .i64 began))
    (hr : F8.Row w BB A n (F8.bv bs)) (hB : BB ≤ w.heap.size) (ho : F8.Oct bs) (hnc : n ≤ c) (hn5 : n ≤ 1048579) (g0 : 0 ≤ began) (g1 : began ≤ now) (n1 : now ≤ 1152921504606846976) (hbad : bad = true) :
    Calls Tryz.prog 47 #[.pointer (some ⟨g, 0, none⟩), .pointer (some ⟨cb, 0, none⟩), .pointer (some ⟨cd, 0, none⟩), .pointer (some ⟨cn, 0, none⟩), .pointer (some ⟨cg, 0, none⟩)] w (RetW K base g x m [] (.int .i64 0) w) := by
  have zz := And.intro hn (And.intro hg (And.intro g0 (And.intro g1 (And.intro n1 k))))
  clear zz
  have H := hid h
  have HR := hid (readF_any A n c BB bs w hr hB ho hnc hn5)
  have LD := hid (World.block_lt_of_cell? w _ hd)
  have HD := hid hd
  rw [hbad] at HD hd
  clear h k hd hn hg hr hB ho hnc hn5 g0 g1 n1 hbad
  generalize rdF bs = F at *
  generalize ((rdE bs : Nat) : Int) = er at *
  go_enter Tryz.func47, Tryz.ntmps47
  go_wp2_with (first
    | (refine wpList_gst 54 (encf F) rfl (.tmp 7) (.tmp 12) rfl rfl rfl v2 (by show 0 + 4 ≤ 4; omega) (by rw [size54]; rfl) (M10.encf_one _) ?_; intro w3 v3 b3 o3 s3; have V3 : Hid (Var w3 w1.heap.size (encf F)) := hid v3; have BT := hid (b1.trans ((b2.trans (b3.mono (Nat.le_refl _))).mono b1.size)); clear b1 b2 b3 o3 s2 s3 v2 v3)
    | (refine wpList_galloc 54 (encf fz) M10.zero25 rfl rfl ?_; intro w2 v2 b2 s2)
    | (go_at_call 27; (with_reducible refine HR.out.mono ?_); rintro e w1 ⟨rfl, b1⟩))
  have W3 := hid (H.out.below BT.out)
  have K3 := hid (H.out.keptb BT.out)
  have d0 : Hid (w3.cell? ⟨g, 0, none⟩ = some (.int .i64 x.id)) := hid (W3.out.cell fun _ _ _ _ _ _ => rfl)
  have f1 : Hid (w3.cell? ⟨w1.heap.size, 1, none⟩ = some (.int .i64 F.f)) := hid (V3.out.cell rfl)
  have dd : Hid (w3.cell? ⟨cd, 0, none⟩ = some (.bool true)) := hid ((BT.out.cell (p := ⟨cd, 0, none⟩) LD.out).trans HD.out)
  refine wp_region_quiet_below (by kernel_rfl) (by kernel_rfl) ?_
  repeat (first | go_big_quiet_skip | refine wpQuiet_gl1 4 rfl rfl rfl Tryz.isAgg4 dd.out ?_ | refine wpQuiet_gl1 3 rfl rfl rfl Tryz.isAgg3 f1.out ?_ | refine wpQuiet_gl1 3 rfl rfl rfl Tryz.isAgg3 d0.out ?_ | quiet_step (fail))
  refine wpQuiet_nil ?_
  intro _ hw'
  obtain ⟨⟨dq, osq⟩, hw''⟩ := hw'
  subst hw''
  have B4 := hid (below_regrown w3 dq osq)
  have W4 := hid (W3.out.below B4.out)
  have K4 := hid (K3.out.trans (W3.out.keptb B4.out))
  generalize Sort.grow (redrawn w3 dq) osq = w4 at *
  go_wp2_with fail
  go_ret
  exact ⟨rfl, W4.out, K4.out⟩
set_option maxRecDepth 100000 in
set_option maxHeartbeats 2000000 in
theorem hear_b (K : Nat → Prop) (base g cb cd cn cg : Nat) (x : Nd) (m : Md) (now began : Int) (A : Option Addr) (n c BB : Nat) (bs : List Nat) (bad : Bool) (w : World) (h : Wk w K base g x m []) (k : NdOk m x)
    (hb : w.cell? ⟨cb, 0, none⟩ = some (.slice A n c)) (hd : w.cell? ⟨cd, 0, none⟩ = some (.bool bad)) (hn : w.cell? ⟨cn, 0, none⟩ = some (.int .i64 now)) (hg : w.cell? ⟨cg, 0, none⟩ = some (.int .i64 began))
    (hr : F8.Row w BB A n (F8.bv bs)) (hB : BB ≤ w.heap.size) (ho : F8.Oct bs) (hnc : n ≤ c) (hn5 : n ≤ 1048579) (g0 : 0 ≤ began) (g1 : began ≤ now) (n1 : now ≤ 1152921504606846976) (hbad : bad = false) (hE : ¬ rdE bs = 0) :
    Calls Tryz.prog 47 #[.pointer (some ⟨g, 0, none⟩), .pointer (some ⟨cb, 0, none⟩), .pointer (some ⟨cd, 0, none⟩), .pointer (some ⟨cn, 0, none⟩), .pointer (some ⟨cg, 0, none⟩)] w (RetW K base g x m [] (.int .i64 0) w) := by
  have zz := And.intro hn (And.intro hg (And.intro g0 (And.intro g1 (And.intro n1 k))))
  clear zz
  have H := hid h
  have HR := hid (readF_any A n c BB bs w hr hB ho hnc hn5)
  have LD := hid (World.block_lt_of_cell? w _ hd)
  have HD := hid hd
  rw [hbad] at HD hd
  have eE : (((rdE bs : Nat) : Int) != 0) = true := by simp; omega
  clear h k hd hn hg hr hB ho hnc hn5 g0 g1 n1 hbad hE
  generalize rdF bs = F at *
  generalize ((rdE bs : Nat) : Int) = er at *
  go_enter Tryz.func47, Tryz.ntmps47
  go_wp2_with (first
    | (refine wpList_gst 54 (encf F) rfl (.tmp 7) (.tmp 12) rfl rfl rfl v2 (by show 0 + 4 ≤ 4; omega) (by rw [size54]; rfl) (M10.encf_one _) ?_; intro w3 v3 b3 o3 s3; have V3 : Hid (Var w3 w1.heap.size (encf F)) := hid v3; have BT := hid (b1.trans ((b2.trans (b3.mono (Nat.le_refl _))).mono b1.size)); clear b1 b2 b3 o3 s2 s3 v2 v3)
    | (refine wpList_galloc 54 (encf fz) M10.zero25 rfl rfl ?_; intro w2 v2 b2 s2)
    | (go_at_call 27; (with_reducible refine HR.out.mono ?_); rintro e w1 ⟨rfl, b1⟩))
  have W3 := hid (H.out.below BT.out)
  have K3 := hid (H.out.keptb BT.out)
  have d0 : Hid (w3.cell? ⟨g, 0, none⟩ = some (.int .i64 x.id)) := hid (W3.out.cell fun _ _ _ _ _ _ => rfl)
  have f1 : Hid (w3.cell? ⟨w1.heap.size, 1, none⟩ = some (.int .i64 F.f)) := hid (V3.out.cell rfl)
  have dd : Hid (w3.cell? ⟨cd, 0, none⟩ = some (.bool false)) := hid ((BT.out.cell (p := ⟨cd, 0, none⟩) LD.out).trans HD.out)
  refine wp_region_quiet_below (by kernel_rfl) (by kernel_rfl) ?_
  repeat (first | go_big_quiet_skip | refine wpQuiet_gl1 4 rfl rfl rfl Tryz.isAgg4 dd.out ?_ | refine wpQuiet_gl1 3 rfl rfl rfl Tryz.isAgg3 f1.out ?_ | refine wpQuiet_gl1 3 rfl rfl rfl Tryz.isAgg3 d0.out ?_ | quiet_step (fail))
  refine wpQuiet_nil ?_
  intro _ hw'
  obtain ⟨⟨dq, osq⟩, hw''⟩ := hw'
  subst hw''
  have B4 := hid (below_regrown w3 dq osq)
  have W4 := hid (W3.out.below B4.out)
  have K4 := hid (K3.out.trans (W3.out.keptb B4.out))
  generalize Sort.grow (redrawn w3 dq) osq = w4 at *
  go_wp2_with fail
  go_ret
  exact ⟨rfl, W4.out, K4.out⟩
set_option maxRecDepth 100000 in
set_option maxHeartbeats 2000000 in
theorem hear_own (K : Nat → Prop) (base g cb cd cn cg : Nat) (x : Nd) (m : Md) (now began : Int) (A : Option Addr) (n c BB : Nat) (bs : List Nat) (bad : Bool) (w : World) (h : Wk w K base g x m []) (k : NdOk m x)
    (hb : w.cell? ⟨cb, 0, none⟩ = some (.slice A n c)) (hd : w.cell? ⟨cd, 0, none⟩ = some (.bool bad)) (hn : w.cell? ⟨cn, 0, none⟩ = some (.int .i64 now)) (hg : w.cell? ⟨cg, 0, none⟩ = some (.int .i64 began))
    (hr : F8.Row w BB A n (F8.bv bs)) (hB : BB ≤ w.heap.size) (ho : F8.Oct bs) (hnc : n ≤ c) (hn5 : n ≤ 1048579) (g0 : 0 ≤ began) (g1 : began ≤ now) (n1 : now ≤ 1152921504606846976) (hbad : bad = false) (hE : rdE bs = 0) (hF : (rdF bs).f = x.id) :
    Calls Tryz.prog 47 #[.pointer (some ⟨g, 0, none⟩), .pointer (some ⟨cb, 0, none⟩), .pointer (some ⟨cd, 0, none⟩), .pointer (some ⟨cn, 0, none⟩), .pointer (some ⟨cg, 0, none⟩)] w (RetW K base g x m [] (.int .i64 0) w) := by
  have zz := And.intro hn (And.intro hg (And.intro g0 (And.intro g1 (And.intro n1 k))))
  clear zz
  have H := hid h
  have HR := hid (readF_any A n c BB bs w hr hB ho hnc hn5)
  have LD := hid (World.block_lt_of_cell? w _ hd)
  have HD := hid hd
  rw [hbad] at HD hd
  rw [hE] at HR
  have eF : ((rdF bs).f == x.id) = true := by simpa using hF
  clear h k hd hn hg hr hB ho hnc hn5 g0 g1 n1 hbad hE hF
  generalize rdF bs = F at *
  go_enter Tryz.func47, Tryz.ntmps47
  go_wp2_with (first
    | (refine wpList_gst 54 (encf F) rfl (.tmp 7) (.tmp 12) rfl rfl rfl v2 (by show 0 + 4 ≤ 4; omega) (by rw [size54]; rfl) (M10.encf_one _) ?_; intro w3 v3 b3 o3 s3; have V3 : Hid (Var w3 w1.heap.size (encf F)) := hid v3; have BT := hid (b1.trans ((b2.trans (b3.mono (Nat.le_refl _))).mono b1.size)); clear b1 b2 b3 o3 s2 s3 v2 v3)
    | (refine wpList_galloc 54 (encf fz) M10.zero25 rfl rfl ?_; intro w2 v2 b2 s2)
    | (go_at_call 27; (with_reducible refine HR.out.mono ?_); rintro e w1 ⟨rfl, b1⟩))
  have W3 := hid (H.out.below BT.out)
  have K3 := hid (H.out.keptb BT.out)
  have d0 : Hid (w3.cell? ⟨g, 0, none⟩ = some (.int .i64 x.id)) := hid (W3.out.cell fun _ _ _ _ _ _ => rfl)
  have f1 : Hid (w3.cell? ⟨w1.heap.size, 1, none⟩ = some (.int .i64 F.f)) := hid (V3.out.cell rfl)
  have dd : Hid (w3.cell? ⟨cd, 0, none⟩ = some (.bool false)) := hid ((BT.out.cell (p := ⟨cd, 0, none⟩) LD.out).trans HD.out)
  refine wp_region_quiet_below (by kernel_rfl) (by kernel_rfl) ?_
  repeat (first | go_big_quiet_skip | refine wpQuiet_gl1 4 rfl rfl rfl Tryz.isAgg4 dd.out ?_ | refine wpQuiet_gl1 3 rfl rfl rfl Tryz.isAgg3 f1.out ?_ | refine wpQuiet_gl1 3 rfl rfl rfl Tryz.isAgg3 d0.out ?_ | quiet_step (fail))
  refine wpQuiet_nil ?_
  intro _ hw'
  obtain ⟨⟨dq, osq⟩, hw''⟩ := hw'
  subst hw''
  have B4 := hid (below_regrown w3 dq osq)
  have W4 := hid (W3.out.below B4.out)
  have K4 := hid (K3.out.trans (W3.out.keptb B4.out))
  generalize Sort.grow (redrawn w3 dq) osq = w4 at *
  go_wp2_with fail
  go_ret
  exact ⟨rfl, W4.out, K4.out⟩
set_option maxRecDepth 100000 in
set_option maxHeartbeats 2000000 in
theorem hear_d1 (K : Nat → Prop) (base g cb cd cn cg : Nat) (x : Nd) (m : Md) (now began : Int) (A : Option Addr) (n c BB : Nat) (bs : List Nat) (bad : Bool) (w : World) (h : Wk w K base g x m []) (k : NdOk m x)
    (hb : w.cell? ⟨cb, 0, none⟩ = some (.slice A n c)) (hd : w.cell? ⟨cd, 0, none⟩ = some (.bool bad)) (hn : w.cell? ⟨cn, 0, none⟩ = some (.int .i64 now)) (hg : w.cell? ⟨cg, 0, none⟩ = some (.int .i64 began))
    (hr : F8.Row w BB A n (F8.bv bs)) (hB : BB ≤ w.heap.size) (ho : F8.Oct bs) (hnc : n ≤ c) (hn5 : n ≤ 1048579) (g0 : 0 ≤ began) (g1 : began ≤ now) (n1 : now ≤ 1152921504606846976) (hbad : bad = false) (hE : rdE bs = 0) (hF : ¬ (rdF bs).f = x.id) (hp : x.ph = 1) :
    Calls Tryz.prog 47 #[.pointer (some ⟨g, 0, none⟩), .pointer (some ⟨cb, 0, none⟩), .pointer (some ⟨cd, 0, none⟩), .pointer (some ⟨cn, 0, none⟩), .pointer (some ⟨cg, 0, none⟩)] w (RetW K base g (joinN m x (rdF bs) now began) m (joinL m x (rdF bs) now began) (.int .i64 (joinE m x (rdF bs) now began)) w) := by
  have zz := And.intro hn (And.intro hg (And.intro g0 (And.intro g1 (And.intro n1 k))))
  clear zz
  have H := hid h
  have HR := hid (readF_any A n c BB bs w hr hB ho hnc hn5)
  have LD := hid (World.block_lt_of_cell? w _ hd)
  have HD := hid hd
  have LN := hid (World.block_lt_of_cell? w _ hn)
  have HN := hid hn
  have LG := hid (World.block_lt_of_cell? w _ hg)
  have HG := hid hg
  rw [hbad] at HD hd
  rw [hE] at HR
  have eF : ((rdF bs).f == x.id) = false := by simpa using hF
  obtain ⟨hf1, hf2⟩ := rd_ok ho hE
  have c1 : Hid (∀ w1, Wk w1 K base g x m [] → w1.cell? ⟨g, 1, none⟩ = some (.int .i64 1)) := hid (fun w1 h => hp ▸ h.cell (j := 1) fun _ _ _ _ _ _ => rfl)
  have HJ := hid (fun (w1 : World) (h : Wk w1 K base g x m []) => join_any K base g x m (rdF bs) now began w1 h k hf1 hf2 g0 g1 n1)
  clear h k hd hn hg hr hB ho hnc hn5 g0 g1 n1 hbad hE hF hp hf1 hf2
  generalize rdF bs = F at *
  generalize joinN m x F now began = xN at *
  generalize joinL m x F now began = xL at *
  generalize joinE m x F now began = xE at *
  go_enter Tryz.func47, Tryz.ntmps47
  go_wp2_with (first
    | (refine wpList_gst 54 (encf F) rfl (.tmp 7) (.tmp 12) rfl rfl rfl v2 (by show 0 + 4 ≤ 4; omega) (by rw [size54]; rfl) (M10.encf_one _) ?_; intro w3 v3 b3 o3 s3; have V3 : Hid (Var w3 w1.heap.size (encf F)) := hid v3; have BT := hid (b1.trans ((b2.trans (b3.mono (Nat.le_refl _))).mono b1.size)); clear b1 b2 b3 o3 s2 s3 v2 v3)
    | (refine wpList_galloc 54 (encf fz) M10.zero25 rfl rfl ?_; intro w2 v2 b2 s2)
    | (go_at_call 27; (with_reducible refine HR.out.mono ?_); rintro e w1 ⟨rfl, b1⟩))
  have W3 := hid (H.out.below BT.out)
  have K3 := hid (H.out.keptb BT.out)
  have d0 : Hid (w3.cell? ⟨g, 0, none⟩ = some (.int .i64 x.id)) := hid (W3.out.cell fun _ _ _ _ _ _ => rfl)
  have f1 : Hid (w3.cell? ⟨w1.heap.size, 1, none⟩ = some (.int .i64 F.f)) := hid (V3.out.cell rfl)
  have dd : Hid (w3.cell? ⟨cd, 0, none⟩ = some (.bool false)) := hid ((BT.out.cell (p := ⟨cd, 0, none⟩) LD.out).trans HD.out)
  refine wp_region_quiet_below (by kernel_rfl) (by kernel_rfl) ?_
  repeat (first | go_big_quiet_skip | refine wpQuiet_gl1 4 rfl rfl rfl Tryz.isAgg4 dd.out ?_ | refine wpQuiet_gl1 3 rfl rfl rfl Tryz.isAgg3 f1.out ?_ | refine wpQuiet_gl1 3 rfl rfl rfl Tryz.isAgg3 d0.out ?_ | quiet_step (fail))
  refine wpQuiet_nil ?_
  intro _ hw'
  obtain ⟨⟨dq, osq⟩, hw''⟩ := hw'
  subst hw''
  have B4 := hid (below_regrown w3 dq osq)
  have W4 := hid (W3.out.below B4.out)
  have K4 := hid (K3.out.trans (W3.out.keptb B4.out))
  have V4 := hid (V3.out.below B4.out (V3.out.lt (by show 0 < 4; omega)))
  have BT4 := hid (BT.out.trans (B4.out.mono BT.out.size))
  generalize Sort.grow (redrawn w3 dq) osq = w4 at *
  have p1 := c1.out w4 W4.out
  have n4 : w4.cell? ⟨cn, 0, none⟩ = some (.int .i64 now) := (BT4.out.cell (p := ⟨cn, 0, none⟩) LN.out).trans HN.out
  have g4 : w4.cell? ⟨cg, 0, none⟩ = some (.int .i64 began) := (BT4.out.cell (p := ⟨cg, 0, none⟩) LG.out).trans HG.out
  go_wp2_with (first
    | (go_at_call 48; (with_reducible refine (HJ.out w4 W4.out).mono ?_); rintro e w5 ⟨rfl, W5, k5⟩)
    | (refine wpList_lf (z := F) (.tmp 7) rfl rfl V4.out.1 rfl ?_))
  go_ret
  exact ⟨rfl, W5, K4.out.trans k5⟩
set_option maxRecDepth 100000 in
set_option maxHeartbeats 2000000 in
theorem hear_d2 (K : Nat → Prop) (base g cb cd cn cg : Nat) (x : Nd) (m : Md) (now began : Int) (A : Option Addr) (n c BB : Nat) (bs : List Nat) (bad : Bool) (w : World) (h : Wk w K base g x m []) (k : NdOk m x)
    (hb : w.cell? ⟨cb, 0, none⟩ = some (.slice A n c)) (hd : w.cell? ⟨cd, 0, none⟩ = some (.bool bad)) (hn : w.cell? ⟨cn, 0, none⟩ = some (.int .i64 now)) (hg : w.cell? ⟨cg, 0, none⟩ = some (.int .i64 began))
    (hr : F8.Row w BB A n (F8.bv bs)) (hB : BB ≤ w.heap.size) (ho : F8.Oct bs) (hnc : n ≤ c) (hn5 : n ≤ 1048579) (g0 : 0 ≤ began) (g1 : began ≤ now) (n1 : now ≤ 1152921504606846976) (hbad : bad = false) (hE : rdE bs = 0) (hF : ¬ (rdF bs).f = x.id) (hp : x.ph = 2) :
    Calls Tryz.prog 47 #[.pointer (some ⟨g, 0, none⟩), .pointer (some ⟨cb, 0, none⟩), .pointer (some ⟨cd, 0, none⟩), .pointer (some ⟨cn, 0, none⟩), .pointer (some ⟨cg, 0, none⟩)] w (RetW K base g (judN m x (rdF bs) began) m (judL m x (rdF bs) began) (.int .i64 0) w) := by
  have zz := And.intro hn (And.intro hg (And.intro g0 (And.intro g1 (And.intro n1 k))))
  clear zz
  have H := hid h
  have HR := hid (readF_any A n c BB bs w hr hB ho hnc hn5)
  have LD := hid (World.block_lt_of_cell? w _ hd)
  have HD := hid hd
  have LN := hid (World.block_lt_of_cell? w _ hn)
  have HN := hid hn
  have LG := hid (World.block_lt_of_cell? w _ hg)
  have HG := hid hg
  rw [hbad] at HD hd
  rw [hE] at HR
  have eF : ((rdF bs).f == x.id) = false := by simpa using hF
  obtain ⟨hf1, hf2⟩ := rd_ok ho hE
  have c1 : Hid (∀ w1, Wk w1 K base g x m [] → w1.cell? ⟨g, 1, none⟩ = some (.int .i64 2)) := hid (fun w1 h => hp ▸ h.cell (j := 1) fun _ _ _ _ _ _ => rfl)
  have HJ := hid (fun (w1 : World) (h : Wk w1 K base g x m []) => judge_any K base g x m [] (rdF bs) began w1 h (by simp) k hf1 (by omega))
  clear h k hd hn hg hr hB ho hnc hn5 g0 g1 n1 hbad hE hF hp hf1 hf2
  generalize rdF bs = F at *
  generalize judN m x F began = xN at *
  generalize judL m x F began = xL at *
  go_enter Tryz.func47, Tryz.ntmps47
  go_wp2_with (first
    | (refine wpList_gst 54 (encf F) rfl (.tmp 7) (.tmp 12) rfl rfl rfl v2 (by show 0 + 4 ≤ 4; omega) (by rw [size54]; rfl) (M10.encf_one _) ?_; intro w3 v3 b3 o3 s3; have V3 : Hid (Var w3 w1.heap.size (encf F)) := hid v3; have BT := hid (b1.trans ((b2.trans (b3.mono (Nat.le_refl _))).mono b1.size)); clear b1 b2 b3 o3 s2 s3 v2 v3)
    | (refine wpList_galloc 54 (encf fz) M10.zero25 rfl rfl ?_; intro w2 v2 b2 s2)
    | (go_at_call 27; (with_reducible refine HR.out.mono ?_); rintro e w1 ⟨rfl, b1⟩))
  have W3 := hid (H.out.below BT.out)
  have K3 := hid (H.out.keptb BT.out)
  have d0 : Hid (w3.cell? ⟨g, 0, none⟩ = some (.int .i64 x.id)) := hid (W3.out.cell fun _ _ _ _ _ _ => rfl)
  have f1 : Hid (w3.cell? ⟨w1.heap.size, 1, none⟩ = some (.int .i64 F.f)) := hid (V3.out.cell rfl)
  have dd : Hid (w3.cell? ⟨cd, 0, none⟩ = some (.bool false)) := hid ((BT.out.cell (p := ⟨cd, 0, none⟩) LD.out).trans HD.out)
  refine wp_region_quiet_below (by kernel_rfl) (by kernel_rfl) ?_
  repeat (first | go_big_quiet_skip | refine wpQuiet_gl1 4 rfl rfl rfl Tryz.isAgg4 dd.out ?_ | refine wpQuiet_gl1 3 rfl rfl rfl Tryz.isAgg3 f1.out ?_ | refine wpQuiet_gl1 3 rfl rfl rfl Tryz.isAgg3 d0.out ?_ | quiet_step (fail))
  refine wpQuiet_nil ?_
  intro _ hw'
  obtain ⟨⟨dq, osq⟩, hw''⟩ := hw'
  subst hw''
  have B4 := hid (below_regrown w3 dq osq)
  have W4 := hid (W3.out.below B4.out)
  have K4 := hid (K3.out.trans (W3.out.keptb B4.out))
  have V4 := hid (V3.out.below B4.out (V3.out.lt (by show 0 < 4; omega)))
  have BT4 := hid (BT.out.trans (B4.out.mono BT.out.size))
  generalize Sort.grow (redrawn w3 dq) osq = w4 at *
  have p1 := c1.out w4 W4.out
  have g4 : w4.cell? ⟨cg, 0, none⟩ = some (.int .i64 began) := (BT4.out.cell (p := ⟨cg, 0, none⟩) LG.out).trans HG.out
  go_wp2_with (first
    | (go_at_call 49; (with_reducible refine (HJ.out w4 W4.out).mono ?_); rintro e w5 ⟨rfl, W5, k5⟩)
    | (refine wpList_lf (z := F) (.tmp 7) rfl rfl V4.out.1 rfl ?_))
  go_ret
  exact ⟨rfl, W5, K4.out.trans k5⟩
set_option maxRecDepth 100000 in
set_option maxHeartbeats 2000000 in
theorem hear_d0 (K : Nat → Prop) (base g cb cd cn cg : Nat) (x : Nd) (m : Md) (now began : Int) (A : Option Addr) (n c BB : Nat) (bs : List Nat) (bad : Bool) (w : World) (h : Wk w K base g x m []) (k : NdOk m x)
    (hb : w.cell? ⟨cb, 0, none⟩ = some (.slice A n c)) (hd : w.cell? ⟨cd, 0, none⟩ = some (.bool bad)) (hn : w.cell? ⟨cn, 0, none⟩ = some (.int .i64 now)) (hg : w.cell? ⟨cg, 0, none⟩ = some (.int .i64 began))
    (hr : F8.Row w BB A n (F8.bv bs)) (hB : BB ≤ w.heap.size) (ho : F8.Oct bs) (hnc : n ≤ c) (hn5 : n ≤ 1048579) (g0 : 0 ≤ began) (g1 : began ≤ now) (n1 : now ≤ 1152921504606846976) (hbad : bad = false) (hE : rdE bs = 0) (hF : ¬ (rdF bs).f = x.id) (hp1 : ¬ x.ph = 1) (hp2 : ¬ x.ph = 2) :
    Calls Tryz.prog 47 #[.pointer (some ⟨g, 0, none⟩), .pointer (some ⟨cb, 0, none⟩), .pointer (some ⟨cd, 0, none⟩), .pointer (some ⟨cn, 0, none⟩), .pointer (some ⟨cg, 0, none⟩)] w (RetW K base g x m [] (.int .i64 0) w) := by
  have zz := And.intro hn (And.intro hg (And.intro g0 (And.intro g1 (And.intro n1 k))))
  clear zz
  have H := hid h
  have HR := hid (readF_any A n c BB bs w hr hB ho hnc hn5)
  have LD := hid (World.block_lt_of_cell? w _ hd)
  have HD := hid hd
  have LN := hid (World.block_lt_of_cell? w _ hn)
  have HN := hid hn
  have LG := hid (World.block_lt_of_cell? w _ hg)
  have HG := hid hg
  rw [hbad] at HD hd
  rw [hE] at HR
  have eF : ((rdF bs).f == x.id) = false := by simpa using hF
  obtain ⟨hf1, hf2⟩ := rd_ok ho hE
  have c1 : Hid (∀ w1, Wk w1 K base g x m [] → w1.cell? ⟨g, 1, none⟩ = some (.int .i64 x.ph)) := hid (fun w1 h => h.cell (j := 1) fun _ _ _ _ _ _ => rfl)
  have e1 : (x.ph == 1) = false := by simpa using hp1
  have e2 : (x.ph == 2) = false := by simpa using hp2
  clear h k hd hn hg hr hB ho hnc hn5 g0 g1 n1 hbad hE hF hp1 hp2 hf1 hf2
  generalize rdF bs = F at *
  go_enter Tryz.func47, Tryz.ntmps47
  go_wp2_with (first
    | (refine wpList_gst 54 (encf F) rfl (.tmp 7) (.tmp 12) rfl rfl rfl v2 (by show 0 + 4 ≤ 4; omega) (by rw [size54]; rfl) (M10.encf_one _) ?_; intro w3 v3 b3 o3 s3; have V3 : Hid (Var w3 w1.heap.size (encf F)) := hid v3; have BT := hid (b1.trans ((b2.trans (b3.mono (Nat.le_refl _))).mono b1.size)); clear b1 b2 b3 o3 s2 s3 v2 v3)
    | (refine wpList_galloc 54 (encf fz) M10.zero25 rfl rfl ?_; intro w2 v2 b2 s2)
    | (go_at_call 27; (with_reducible refine HR.out.mono ?_); rintro e w1 ⟨rfl, b1⟩))
  have W3 := hid (H.out.below BT.out)
  have K3 := hid (H.out.keptb BT.out)
  have d0 : Hid (w3.cell? ⟨g, 0, none⟩ = some (.int .i64 x.id)) := hid (W3.out.cell fun _ _ _ _ _ _ => rfl)
  have f1 : Hid (w3.cell? ⟨w1.heap.size, 1, none⟩ = some (.int .i64 F.f)) := hid (V3.out.cell rfl)
  have dd : Hid (w3.cell? ⟨cd, 0, none⟩ = some (.bool false)) := hid ((BT.out.cell (p := ⟨cd, 0, none⟩) LD.out).trans HD.out)
  refine wp_region_quiet_below (by kernel_rfl) (by kernel_rfl) ?_
  repeat (first | go_big_quiet_skip | refine wpQuiet_gl1 4 rfl rfl rfl Tryz.isAgg4 dd.out ?_ | refine wpQuiet_gl1 3 rfl rfl rfl Tryz.isAgg3 f1.out ?_ | refine wpQuiet_gl1 3 rfl rfl rfl Tryz.isAgg3 d0.out ?_ | quiet_step (fail))
  refine wpQuiet_nil ?_
  intro _ hw'
  obtain ⟨⟨dq, osq⟩, hw''⟩ := hw'
  subst hw''
  have B4 := hid (below_regrown w3 dq osq)
  have W4 := hid (W3.out.below B4.out)
  have K4 := hid (K3.out.trans (W3.out.keptb B4.out))
  have BT4 := hid (BT.out.trans (B4.out.mono BT.out.size))
  generalize Sort.grow (redrawn w3 dq) osq = w4 at *
  have p1 := c1.out w4 W4.out
  go_wp2_with fail
  go_ret
  exact ⟨rfl, W4.out, K4.out⟩
theorem hear_c (K : Nat → Prop) (base g cb cd cn cg : Nat) (x : Nd) (m : Md) (now began : Int) (A : Option Addr) (n c BB : Nat) (bs : List Nat) (bad : Bool) (w : World) (h : Wk w K base g x m []) (k : NdOk m x)
    (hb : w.cell? ⟨cb, 0, none⟩ = some (.slice A n c)) (hd : w.cell? ⟨cd, 0, none⟩ = some (.bool bad)) (hn : w.cell? ⟨cn, 0, none⟩ = some (.int .i64 now)) (hg : w.cell? ⟨cg, 0, none⟩ = some (.int .i64 began))
    (hr : F8.Row w BB A n (F8.bv bs)) (hB : BB ≤ w.heap.size) (ho : F8.Oct bs) (hnc : n ≤ c) (hn5 : n ≤ 1048579) (g0 : 0 ≤ began) (g1 : began ≤ now) (n1 : now ≤ 1152921504606846976) :
    Calls Tryz.prog 47 #[.pointer (some ⟨g, 0, none⟩), .pointer (some ⟨cb, 0, none⟩), .pointer (some ⟨cd, 0, none⟩), .pointer (some ⟨cn, 0, none⟩), .pointer (some ⟨cg, 0, none⟩)] w (RetW K base g (heaN m x now began bs bad) m (heaL m x now began bs bad) (.int .i64 (heaE m x now began bs bad)) w) := by
  unfold heaN heaL heaE
  by_cases hD : deaf x bs bad
  · rw [if_pos hD, if_pos hD, if_pos hD]
    cases hbad : bad
    · subst hbad
      by_cases hE : rdE bs = 0
      · exact hear_own K base g cb cd cn cg x m now began A n c BB bs _ w h k hb hd hn hg hr hB ho hnc hn5 g0 g1 n1 rfl hE (by rcases hD with h | h | h; cases h; exact absurd hE h; exact h)
      · exact hear_b K base g cb cd cn cg x m now began A n c BB bs _ w h k hb hd hn hg hr hB ho hnc hn5 g0 g1 n1 rfl hE
    · subst hbad
      exact hear_a K base g cb cd cn cg x m now began A n c BB bs _ w h k hb hd hn hg hr hB ho hnc hn5 g0 g1 n1 rfl
  · rw [if_neg hD, if_neg hD, if_neg hD]
    have hbad : bad = false := by cases bad; rfl; exact absurd (.inl rfl) hD
    have hE : rdE bs = 0 := Decidable.byContradiction fun e => hD (.inr (.inl e))
    have hF : ¬ (rdF bs).f = x.id := fun e => hD (.inr (.inr e))
    by_cases h1 : x.ph = 1
    · rw [if_pos h1, if_pos h1, if_pos h1]; exact hear_d1 K base g cb cd cn cg x m now began A n c BB bs bad w h k hb hd hn hg hr hB ho hnc hn5 g0 g1 n1 hbad hE hF h1
    · rw [if_neg h1, if_neg h1, if_neg h1]
      by_cases h2 : x.ph = 2
      · rw [if_pos h2, if_pos h2]; exact hear_d2 K base g cb cd cn cg x m now began A n c BB bs bad w h k hb hd hn hg hr hB ho hnc hn5 g0 g1 n1 hbad hE hF h2
      · rw [if_neg h2, if_neg h2]; exact hear_d0 K base g cb cd cn cg x m now began A n c BB bs bad w h k hb hd hn hg hr hB ho hnc hn5 g0 g1 n1 hbad hE hF h1 h2
end Go.Proofs.YtlgedfljmgedfaaGreat
