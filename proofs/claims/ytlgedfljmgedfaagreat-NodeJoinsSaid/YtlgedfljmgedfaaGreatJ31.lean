/-
  Texts NO, NP, NS of this seat, as far as they are used.
-/
import Derived.Test.YtlgedfljmgedfaaGreatJ20
import Derived.Test.YtlgedfljmgedfaaGreatJ21
import Derived.Deep.QuietTactic
import Derived.BigQuiet
import Derived.Laws.StructEq
namespace Go.Proofs.YtlgedfljmgedfaaGreat
open Go Go.RowKit
open M10 (hid Md encm mv mz Oth range_keep there_keep range_other there_other setCells_oth setCells_size there_set Ty enct tv tz Fr encf fv fz)
open O6 (Oc enco ov oz)
open T9 (sv)
/-! ### within -/
theorem within_46 (a lo hi : Int) (b : Bool) (hb : (decide (lo ≤ a) && decide (a ≤ hi)) = b) (w : World) : Calls Tryz.prog 46 #[.int .i64 a, .int .i64 lo, .int .i64 hi] w fun e w' => e = .returned (.bool b) ∧ w' = w := by
  subst hb
  by_cases h : lo ≤ a
  · have h1 : decide (lo ≤ a) = true := by simp [h]
    rw [h1]
    go_enter Tryz.func46, Tryz.ntmps46
    go_wp2
    go_ret
    exact ⟨by simp, rfl⟩
  · have h1 : decide (lo ≤ a) = false := by simp [h]
    rw [h1]
    go_enter Tryz.func46, Tryz.ntmps46
    go_wp2
    go_ret
    exact ⟨by simp, rfl⟩
theorem within_109 (a lo hi : Int) (b : Bool) (hb : (decide (lo ≤ a) && decide (a ≤ hi)) = b) (w : World) : Calls Tryz.prog 109 #[.int .i64 a, .int .i64 lo, .int .i64 hi] w fun e w' => e = .returned (.bool b) ∧ w' = w := by
  subst hb
  by_cases h : lo ≤ a
  · have h1 : decide (lo ≤ a) = true := by simp [h]
    rw [h1]
    go_enter Tryz.func109, Tryz.ntmps109
    go_wp2
    go_ret
    exact ⟨by simp, rfl⟩
  · have h1 : decide (lo ≤ a) = false := by simp [h]
    rw [h1]
    go_enter Tryz.func109, Tryz.ntmps109
    go_wp2
    go_ret
    exact ⟨by simp, rfl⟩
def timeB (x : Int) : Bool := decide (0 ≤ x) && decide (x ≤ 1152921504606846976)
theorem isTime_any (a : Int) (w : World) : Calls Tryz.prog 30 #[.int .i64 a] w fun e w' => e = .returned (.bool (timeB a)) ∧ w' = w := by
  have H := hid (within_46 a 0 1152921504606846976 (timeB a) rfl w)
  go_enter Tryz.func30, Tryz.ntmps30
  go_wp2_with (go_at_call 46; (with_reducible refine H.out.mono ?_); rintro e w1 ⟨rfl, rfl⟩)
  go_ret
  exact ⟨rfl, rfl⟩
/-! ### far -/
def farB (d x : Int) : Bool := !(decide (-d ≤ x) && decide (x ≤ d))
theorem far_any (x d : Int) (g : Nat) (w : World) (h0 : 0 ≤ d) (h1 : d ≤ 1048576) (hc : w.cell? ⟨g, 4, none⟩ = some (.int .i64 d)) : Calls Tryz.prog 108 #[.int .i64 x, .pointer (some ⟨g, 0, none⟩)] w fun e w' => e = .returned (.bool (farB d x)) ∧ w' = w := by
  have H := hid (within_46 x (-d) d _ rfl w)
  have hn : IntKind.i64.wrap (-d) = -d := by rw [IntKind.wrap_i64]; omega
  unfold farB
  generalize (decide (-d ≤ x) && decide (x ≤ d)) = b at *
  go_enter Tryz.func108, Tryz.ntmps108
  go_wp2_with (go_at_call 46; (with_reducible refine H.out.mono ?_); rintro e w1 ⟨rfl, rfl⟩)
  go_ret
  exact ⟨rfl, rfl⟩
/-! ### IndexFunc, ContainsFunc, by far -/
def anyFar (d : Int) (l : List Int) : Bool := l.any (farB d)
theorem anyFar_not {d : Int} {zs : List Int} (h : ∀ j, j < zs.length → farB d (zs.getD j 0) = false) : anyFar d zs = false := by
  unfold anyFar; rw [List.any_eq_false]; intro x hx
  obtain ⟨j, hj, rfl⟩ := List.getElem_of_mem hx
  have := h j hj
  rw [List.getD_eq_getElem?_getD, List.getElem?_eq_getElem hj] at this
  simpa using this
theorem anyFar_of {d : Int} {zs : List Int} (k : Nat) (hk : k < zs.length) (h : farB d (zs.getD k 0) = true) : anyFar d zs = true := by
  unfold anyFar
  rw [List.getD_eq_getElem?_getD, List.getElem?_eq_getElem hk] at h
  rw [List.any_eq_true]; exact ⟨zs[k], List.getElem_mem hk, by simpa using h⟩
def IdxP (d : Int) (zs : List Int) (w : World) (e : Ending) (w' : World) : Prop := ∃ r : Int, e = .returned (.int .i64 r) ∧ decide (0 ≤ r) = anyFar d zs ∧ w' = w
set_option maxHeartbeats 400000 in
theorem idx_any (A : Option Addr) (n c B : Nat) (zs : List Int) (d : Int) (g : Nat) (w : World) (hn : n ≤ 9223372036854775807) (h0 : 0 ≤ d) (h1 : d ≤ 1048576) (hg : w.cell? ⟨g, 4, none⟩ = some (.int .i64 d)) (hr : T9.Row w B A n (sv zs)) :
    Calls Tryz.prog 144 #[.slice A n c, .func (.func 108) #[] #[.pointer (some ⟨g, 0, none⟩)]] w (IdxP d zs w) := by
  have hl : zs.length = n := by have := hr.1; simpa [sv] using this
  have HR := hid hr
  have HF := hid (fun x => far_any x d g w h0 h1 hg)
  clear hr hg h0 h1
  go_enter Tryz.func144, Tryz.ntmps144
  go_wp2
  go_loop [8] (fun i => ∃ k : Nat, k ≤ n ∧ i = .int .i64 k ∧ (∀ j, j < k → farB d (zs.getD j 0) = false)) (fun i => n - (intOf i).toNat)
  case atStart => exact ⟨0, Nat.zero_le _, rfl, by intro j hj; omega⟩
  case round =>
    obtain ⟨k, hk, rfl, hall⟩ := hrel
    by_cases hlt : k < n
    · obtain ⟨b, o, u, rfl, hb, hu, hcell⟩ := HR.out.at_ hlt
      have hu := T9.sv_get (by omega) hu
      subst hu
      by_cases ht : farB d (zs.getD k 0) = true
      · have HF' : Hid (anyFar d zs = true) := hid (anyFar_of k (by omega) ht)
        have HC := hid (HF.out (zs.getD k 0))
        rw [ht] at HC
        clear hall ht HF
        generalize zs.getD k 0 = z at *
        go_wp2_with (go_at_call 108; (with_reducible refine HC.out.mono ?_); rintro e w' ⟨rfl, rfl⟩)
        go_ret
        exact ⟨(k : Int), rfl, by rw [HF'.out]; simp, rfl⟩
      · have ht : farB d (zs.getD k 0) = false := by simpa using ht
        have HA : Hid (∀ j, j < k + 1 → farB d (zs.getD j 0) = false) := by
          refine hid (fun j hj => ?_)
          rcases Nat.lt_succ_iff_lt_or_eq.1 hj with h | rfl
          · exact hall j h
          · exact ht
        have HC := hid (HF.out (zs.getD k 0))
        rw [ht] at HC
        clear hall ht HF
        generalize hz : zs.getD k 0 = z at HC hcell
        clear hz
        go_wp2_with (go_at_call 108; (with_reducible refine HC.out.mono ?_); rintro e w' ⟨rfl, rfl⟩)
        exact ⟨⟨k + 1, by omega, by go_num, HA.out⟩, by simp [intOf]; omega⟩
    · have HF' : Hid (anyFar d zs = false) := hid (anyFar_not fun j hj => hall j (by omega))
      clear hall HF
      go_wp2
      go_ret
      exact ⟨-1, rfl, by rw [HF'.out]; decide, rfl⟩
theorem contains_any (A : Option Addr) (n c B : Nat) (zs : List Int) (d : Int) (g : Nat) (w : World) (hn : n ≤ 9223372036854775807) (h0 : 0 ≤ d) (h1 : d ≤ 1048576) (hg : w.cell? ⟨g, 4, none⟩ = some (.int .i64 d)) (hr : T9.Row w B A n (sv zs)) :
    Calls Tryz.prog 110 #[.slice A n c, .func (.func 108) #[] #[.pointer (some ⟨g, 0, none⟩)]] w fun e w' => e = .returned (.bool (anyFar d zs)) ∧ w' = w := by
  have HI := hid (idx_any A n c B zs d g w hn h0 h1 hg hr)
  clear hg hr
  go_enter Tryz.func110, Tryz.ntmps110
  go_wp2_with fail
  refine HI.out.mono ?_
  rintro e w' ⟨r, rfl, hr, rfl⟩
  have HR := hid hr
  clear hr
  go_wp2
  go_ret
  exact ⟨T9.ret_bool HR.out, rfl⟩
/-! ### Equal -/
theorem eq_of_getD {a b : List Int} (hl : a.length = b.length) (h : ∀ j, j < a.length → a.getD j 0 = b.getD j 0) : a = b := by
  apply List.ext_getElem hl
  intro j h1 h2
  have := h j h1
  rwa [List.getD_eq_getElem?_getD, List.getD_eq_getElem?_getD, List.getElem?_eq_getElem h1, List.getElem?_eq_getElem h2] at this
set_option maxHeartbeats 1000000 in
theorem equal_60 (A A2 : Option Addr) (n c m c2 B B2 : Nat) (a b : List Int) (w : World) (ha : T9.Row w B A n (sv a)) (hb : T9.Row w B2 A2 m (sv b)) (hB : B ≤ w.heap.size) (hB2 : B2 ≤ w.heap.size) (hn : n ≤ 1000000000) (hm : m ≤ 1000000000) :
    Calls Tryz.prog 60 #[.slice A n c, .slice A2 m c2] w fun e w' => e = .returned (.bool (decide (a = b))) ∧ Below w.heap.size w w' := by
  obtain ⟨r, hr⟩ : ∃ r, decide (a = b) = r := ⟨_, rfl⟩
  rw [hr]
  have HA := hid ha
  have HB := hid hb
  have HR := hid hr
  have LA : Hid (a.length = n) := hid (by have := ha.1; simpa [sv] using this)
  have LB : Hid (b.length = m) := hid (by have := hb.1; simpa [sv] using this)
  clear ha hb hr
  by_cases hnm : n = m
  · subst hnm
    go_enter Tryz.func60, Tryz.ntmps60
    go_wp2
    go_loopw [13] (fun t wr => ∃ i : Nat, t = .int .i64 (i : Int) ∧ i ≤ n ∧ (∀ j, j < i → a.getD j 0 = b.getD j 0) ∧ Below w.heap.size w wr) (fun t _ => n - (intOf t).toNat)
    case atStart => exact ⟨0, rfl, by omega, fun j hj => absurd hj (by omega), Below.refl _ _⟩
    case round =>
      obtain ⟨i, rfl, hi, hj, bel⟩ := hrel
      have HJ := hid hj
      have BW := hid bel
      clear hj bel
      by_cases hlt : i < n
      · have RA : Hid (T9.Row wr B A n (sv a)) := hid (HA.out.below (BW.out.mono hB))
        have RB : Hid (T9.Row wr B2 A2 n (sv b)) := hid (HB.out.below (BW.out.mono hB2))
        obtain ⟨b1, o1, v1, rfl, _, hu1, hc1⟩ := RA.out.at_ hlt
        obtain ⟨b2, o2, v2, rfl, _, hu2, hc2⟩ := RB.out.at_ hlt
        have hu1 := T9.sv_get (by have := LA.out; omega) hu1
        have hu2 := T9.sv_get (by have := LB.out; omega) hu2
        subst hu1 hu2
        have r1 := hid hc1
        have r2 := hid hc2
        have HY : Hid (decide (a.getD i 0 = b.getD i 0) = true → ∀ j, j < i + 1 → a.getD j 0 = b.getD j 0) := hid fun h j hj => by
          by_cases e : j = i
          · subst e; simpa using h
          · exact HJ.out j (by omega)
        have HN : Hid (decide (a.getD i 0 = b.getD i 0) = false → r = false) := hid fun h => by
          rw [← HR.out, decide_eq_false_iff_not]
          rintro rfl
          simp at h
        have q1 : (a.getD i 0 != b.getD i 0) = !decide (a.getD i 0 = b.getD i 0) := rfl
        clear hc1 hc2
        generalize decide (a.getD i 0 = b.getD i 0) = R at *
        generalize a.getD i 0 = x at *
        generalize b.getD i 0 = y at *
        have i1 : (i : Int) < (n : Int) := by omega
        go_wp2_with fail
        refine wp_region_quiet_below (by kernel_rfl) (by kernel_rfl) ?_
        repeat (first | refine wpQuiet_gl1 2 rfl rfl rfl Tryz.isAgg2 r1.out ?_ | refine wpQuiet_gl1 2 rfl rfl rfl Tryz.isAgg2 r2.out ?_ | quiet_step (fail))
        refine wpQuiet_nil ?_
        intro _ hw'
        obtain ⟨⟨dq, osq⟩, hw''⟩ := hw'
        subst hw''
        have HW : Hid (Below wr.heap.size wr (Sort.grow (redrawn wr dq) osq)) := hid (below_regrown wr dq osq)
        generalize Sort.grow (redrawn wr dq) osq = w2 at *
        clear r1 r2
        have HB2 : Hid (Below w.heap.size w w2) := hid (BW.out.trans (HW.out.mono BW.out.size))
        cases R
        · have HN' := hid (HN.out rfl)
          clear HN HY
          go_wp2
          go_ret
          exact ⟨T9.ret_bool HN'.out.symm, HB2.out⟩
        · have HY' := hid (HY.out rfl)
          clear HN HY
          go_wp2
          go_roundw
          case rel => exact ⟨i + 1, by go_num, by omega, HY'.out, HB2.out⟩
          case measure => simp [intOf]; omega
      · have HE : Hid (r = true) := hid (by
          rw [← HR.out, decide_eq_true_eq]
          exact eq_of_getD (by rw [LA.out, LB.out]) fun j hj => HJ.out j (by rw [LA.out] at hj; omega))
        go_wp2
        go_ret
        exact ⟨T9.ret_bool HE.out.symm, BW.out⟩
  · have HE : Hid (r = false) := hid (by
      rw [← HR.out, decide_eq_false_iff_not]
      rintro rfl
      exact hnm (by rw [← LA.out, ← LB.out]))
    have t1 : ((n : Int) != (m : Int)) = true := by simp; omega
    go_enter Tryz.func60, Tryz.ntmps60
    go_wp2
    go_ret
    exact ⟨T9.ret_bool HE.out.symm, Below.refl _ _⟩
end Go.Proofs.YtlgedfljmgedfaaGreat
namespace Go.Proofs.YtlgedfljmgedfaaGreat
open Go Go.RowKit
open M10 (hid Md encm mv mz Oth range_keep there_keep range_other there_other setCells_oth setCells_size there_set Ty enct tv tz Fr encf fv fz)
open O6 (Oc enco ov oz)
open T9 (sv)
/-! ### A node but for its list -/
def encp (x : Nd) : List Value := [.int .i64 x.id, .int .i64 x.ph, .int .u64 x.sl, .int .i64 x.st, .int .i64 x.o.p, .int .i64 x.o.d, .int .i64 x.o.r, .int .i64 x.co, .int .u16 (x.mb : Int), .int .i64 x.t.g, .int .i64 x.t.b, .bool x.se, .int .i64 x.vd]
def pv (x : Nd) : Value := .agg (encp x).toArray
theorem encp_one (x : Nd) : ∀ u ∈ encp x, u.oneCell' = true := by
  intro u hu; simp [encp] at hu; rcases hu with rfl | rfl | rfl | rfl | rfl | rfl | rfl | rfl | rfl | rfl | rfl | rfl | rfl <;> rfl
theorem size94 : (Tryz.prog.info? 94).map (·.size) = some 13 := by kernel_rfl
theorem fo94 : Tryz.prog.underlying 94 = some (.struct (Tryz.prog.fieldsOf 94)) := by kernel_rfl
theorem si94 : Tryz.prog.stoodInHeld 94 = false := by kernel_rfl
theorem eg94 : Tryz.prog.eqGuardType Tryz.prog.depth 94 = false := by kernel_rfl
def pz : Nd := ⟨0, 0, 0, 0, oz, 0, 0, tz, [], false, 0⟩
theorem zero94 (w : World) : (zeroValue 94).run Tryz.prog w = .ok (pv pz) w := by kernel_rfl
set_option maxRecDepth 100000 in
set_option maxHeartbeats 1000000 in
theorem plain_any (x : Nd) (A : Option Addr) (n c : Nat) (w : World) : Calls Tryz.prog 59 #[nv x A n c] w fun e w' => e = .returned (pv x) ∧ Below w.heap.size w w' := by
  go_enter Tryz.func59, Tryz.ntmps59
  go_wp2_with (first
    | (refine wpList_gst 94 (encp x) rfl (.tmp 2) (.tmp 23) rfl rfl rfl v2 (by show 0 + 13 ≤ 13; omega) size94 (encp_one x) ?_; intro w3 v3 b3 o3 s3)
    | (refine wpList_gld 29 [.int .i64 x.t.g, .int .i64 x.t.b] (.tmp 17) rfl rfl T1.out Tryz.underlying29 rfl size29 rfl ?_)
    | (refine wpList_gld 26 [.int .i64 x.o.p, .int .i64 x.o.d, .int .i64 x.o.r] (.tmp 11) rfl rfl O1.out Tryz.underlying26 rfl size26 rfl ?_)
    | (refine wpList_galloc 94 (encp pz) zero94 rfl rfl ?_; intro w2 v2 b2 s2; have u2 : Var w2 w.heap.size (encn x A n c) := v1.below b2 (v1.lt (by show 0 < 14; omega)); have c0 : w2.cell? ⟨w.heap.size, 0, none⟩ = some (.int .i64 x.id) := u2.cell rfl; have c1 : w2.cell? ⟨w.heap.size, 1, none⟩ = some (.int .i64 x.ph) := u2.cell rfl; have c2 : w2.cell? ⟨w.heap.size, 2, none⟩ = some (.int .u64 x.sl) := u2.cell rfl; have c3 : w2.cell? ⟨w.heap.size, 3, none⟩ = some (.int .i64 x.st) := u2.cell rfl; have c7 : w2.cell? ⟨w.heap.size, 7, none⟩ = some (.int .i64 x.co) := u2.cell rfl; have c8 : w2.cell? ⟨w.heap.size, 8, none⟩ = some (.int .u16 (x.mb : Int)) := u2.cell rfl; have c12 : w2.cell? ⟨w.heap.size, 12, none⟩ = some (.bool x.se) := u2.cell rfl; have c13 : w2.cell? ⟨w.heap.size, 13, none⟩ = some (.int .i64 x.vd) := u2.cell rfl; have O1 : Hid (w2.rangeAt w.heap.size 4 (enco x.o)) := hid (u2.part fun j v hv => match j, hv with | 0, hv => hv | 1, hv => hv | 2, hv => hv); have T1 : Hid (w2.rangeAt w.heap.size 9 (enct x.t)) := hid (u2.part fun j v hv => match j, hv with | 0, hv => hv | 1, hv => hv); clear u2)
    | (refine wpList_gbox 32 (encn x A n c) rfl (.tmp 0) rfl rfl ?_; intro w1 v1 b1 s1))
  refine bodyPost_ret (results_cs (cs := encp x) Tryz.results59 _ rfl v3.1 fo94 rfl size94) rfl ?_
  exact ⟨rfl, (b1.trans (b2.mono b1.size)).trans (b3.mono (Nat.le_trans b1.size (Nat.le_refl _)))⟩
/-! ### compared -/
/-- The same but for their lists. -/
def plB (x y : Nd) : Bool := decide (x.id = y.id ∧ x.ph = y.ph ∧ x.sl = y.sl ∧ x.st = y.st ∧ (x.o.p = y.o.p ∧ x.o.d = y.o.d ∧ x.o.r = y.o.r) ∧ x.co = y.co ∧ x.mb = y.mb ∧ (x.t.g = y.t.g ∧ x.t.b = y.t.b) ∧ x.se = y.se ∧ x.vd = y.vd)
theorem eqIn94 (x y : Nd) (w : World) : (Op.equalIn 10000 94 (pv x) (pv y)).run Tryz.prog w = .ok (plB x y) w := by
  unfold pv encp
  rw [run_equalIn_agg w 9999 94 _ _ fo94 si94]
  simp [go_sem]
  have e : ((x.mb : Int) = (y.mb : Int)) ↔ x.mb = y.mb := by omega
  simp only [e, plB]
  by_cases h0 : x.id = y.id
  case neg => simp [h0]
  rw [if_pos h0]
  by_cases h1 : x.ph = y.ph
  case neg => simp [h1]
  rw [if_pos h1]
  by_cases h2 : x.sl = y.sl
  case neg => simp [h2]
  rw [if_pos h2]
  by_cases h3 : x.st = y.st
  case neg => simp [h3]
  rw [if_pos h3]
  by_cases h4 : x.o.p = y.o.p
  case neg => simp [h4]
  rw [if_pos h4]
  by_cases h5 : x.o.d = y.o.d
  case neg => simp [h5]
  rw [if_pos h5]
  by_cases h6 : x.o.r = y.o.r
  case neg => simp [h6]
  rw [if_pos h6]
  by_cases h7 : x.co = y.co
  case neg => simp [h7]
  rw [if_pos h7]
  by_cases h8 : x.mb = y.mb
  case neg => simp [h8]
  rw [if_pos h8]
  by_cases h9 : x.t.g = y.t.g
  case neg => simp [h9]
  rw [if_pos h9]
  by_cases h10 : x.t.b = y.t.b
  case neg => simp [h10]
  rw [if_pos h10]
  by_cases h11 : x.se = y.se
  case neg => simp [h11]
  rw [if_pos h11]
  by_cases h12 : x.vd = y.vd
  case neg => simp [h12]
  rw [if_pos h12]
  simp [h0, h1, h2, h3, h4, h5, h6, h7, h8, h9, h10, h11, h12]
theorem eql94 (x y : Nd) (w : World) : (binOp .eql 94 (pv x) (pv y)).run Tryz.prog w = .ok (.bool (plB x y)) w := by
  have := eqIn94 x y w
  unfold pv at this ⊢
  rw [run_eql_struct, this]; rfl
theorem gua94 (op : BinOp) (a b : Operand) (x y : Nd) (w : World) : (eqGuard op 94 a b (pv x) (pv y)).run Tryz.prog w = .ok () w := run_eqGuard_agg w op 94 a b _ _ eg94
theorem wpQuiet_ln {w : World} {x : Nd} {A : Option Addr} {n c : Nat} {ops : Array Oper} {Q : Act → Prop} {o : Oper} {rest : List Oper} {a : Act} {y : Operand} {b : Nat} (hw : Region.wanted o (yielded ops a.tmps) = true) (ho : o.op = .load 32 y) (hx : a.eval y = .pointer (some ⟨b, 0, none⟩)) (hv : w.rangeAt b 0 (encn x A n c))
    (h : wpQuiet Tryz.prog ops (fun w' => ∃ p : Regrown, w' = Sort.grow (redrawn w p.d) p.os) Q rest (a.put o.dst (nv x A n c))) : wpQuiet Tryz.prog ops (fun w' => ∃ p : Regrown, w' = Sort.grow (redrawn w p.d) p.os) Q (o :: rest) a :=
  wpQuiet_gld 32 (encn x A n c) hw ho hx hv Tryz.underlying32 rfl size32 h
/-- All parts are the same. -/
def saB (x y : Nd) : Bool := plB x y && decide (x.dv = y.dv)
set_option maxRecDepth 100000 in
set_option maxHeartbeats 1000000 in
theorem same_any (x y : Nd) (A A2 : Option Addr) (n c m c2 B B2 : Nat) (w : World) (ha : T9.Row w B A n (sv x.dv)) (hb : T9.Row w B2 A2 m (sv y.dv)) (hB : B ≤ w.heap.size) (hB2 : B2 ≤ w.heap.size) (hn : n ≤ 1000000000) (hm : m ≤ 1000000000) :
    Calls Tryz.prog 22 #[nv x A n c, nv y A2 m c2] w fun e w' => e = .returned (.bool (saB x y)) ∧ Below w.heap.size w w' := by
  have HA := hid ha
  have HB := hid hb
  have q1 := fun w => eql94 x y w
  have q2 := fun p q w => gua94 .eql p q x y w
  unfold saB
  clear ha hb
  cases hR : plB x y
  · rw [hR] at q1
    go_enter Tryz.func22, Tryz.ntmps22
    go_wp2_with (first
      | (refine wpList_gbox 32 (encn y A2 m c2) rfl (.tmp 1) rfl rfl ?_; intro w2 v2 b2 s2)
      | (refine wpList_gbox 32 (encn x A n c) rfl (.tmp 0) rfl rfl ?_; intro w1 v1 b1 s1))
    have U1 := hid (v1.below b2 (v1.lt (by show 0 < 14; omega))).1
    have U2 := hid v2.1
    have BT := hid (b1.trans (b2.mono b1.size))
    clear v1 v2 b1 b2 s1 s2
    have T1 := hid (fun d os => Calls.regrown_of (d := d) (os := os) (plain_any x A n c (Sort.grow (redrawn w2 d) os)))
    have T2 := hid (fun d os => Calls.regrown_of (d := d) (os := os) (plain_any y A2 m c2 (Sort.grow (redrawn w2 d) os)))
    refine wp_region_quiet_below (by kernel_rfl) (by kernel_rfl) ?_
    repeat (first | go_big_quiet_skip | refine wpQuiet_ln rfl rfl rfl U1.out ?_ | refine wpQuiet_ln rfl rfl rfl U2.out ?_ | quiet_step (first | with_reducible exact T1.out _ _ | with_reducible exact T2.out _ _))
    refine wpQuiet_nil ?_
    intro _ hw'
    obtain ⟨⟨dq, osq⟩, hw''⟩ := hw'
    subst hw''
    go_wp2
    go_ret
    exact ⟨rfl, BT.out.trans ((below_regrown _ dq osq).mono BT.out.size)⟩
  · rw [hR] at q1
    go_enter Tryz.func22, Tryz.ntmps22
    go_wp2_with (first
      | (refine wpList_gbox 32 (encn y A2 m c2) rfl (.tmp 1) rfl rfl ?_; intro w2 v2 b2 s2)
      | (refine wpList_gbox 32 (encn x A n c) rfl (.tmp 0) rfl rfl ?_; intro w1 v1 b1 s1))
    have V1 := v1.below b2 (v1.lt (by show 0 < 14; omega))
    have U1 := hid V1.1
    have U2 := hid v2.1
    have d1 : Hid (w2.cell? ⟨w.heap.size, 11, none⟩ = some (.slice A n c)) := hid (V1.cell rfl)
    have d2 : Hid (w2.cell? ⟨w1.heap.size, 11, none⟩ = some (.slice A2 m c2)) := hid (v2.cell rfl)
    have BT := hid (b1.trans (b2.mono b1.size))
    clear v1 v2 b1 b2 s1 s2 V1
    have T1 := hid (fun d os => Calls.regrown_of (d := d) (os := os) (plain_any x A n c (Sort.grow (redrawn w2 d) os)))
    have T2 := hid (fun d os => Calls.regrown_of (d := d) (os := os) (plain_any y A2 m c2 (Sort.grow (redrawn w2 d) os)))
    have T3 := hid (fun d os => by
      have k := BT.out.trans ((below_regrown w2 d os).mono BT.out.size)
      exact Calls.regrown_of (d := d) (os := os) (equal_60 A A2 n c m c2 B B2 x.dv y.dv (Sort.grow (redrawn w2 d) os) (HA.out.below (k.mono hB)) (HB.out.below (k.mono hB2)) (Nat.le_trans hB k.size) (Nat.le_trans hB2 k.size) hn hm))
    refine wp_region_quiet_below (by kernel_rfl) (by kernel_rfl) ?_
    repeat (first | refine wpQuiet_ln rfl rfl rfl U1.out ?_ | refine wpQuiet_ln rfl rfl rfl U2.out ?_ | refine wpQuiet_gl1 30 rfl rfl rfl Tryz.isAgg30 d1.out ?_ | refine wpQuiet_gl1 30 rfl rfl rfl Tryz.isAgg30 d2.out ?_ | quiet_step (first | with_reducible exact T1.out _ _ | with_reducible exact T2.out _ _ | with_reducible exact T3.out _ _))
    refine wpQuiet_nil ?_
    intro _ hw'
    obtain ⟨⟨dq, osq⟩, hw''⟩ := hw'
    subst hw''
    go_wp2
    go_ret
    exact ⟨rfl, BT.out.trans ((below_regrown _ dq osq).mono BT.out.size)⟩
end Go.Proofs.YtlgedfljmgedfaaGreat
namespace Go.Proofs.YtlgedfljmgedfaaGreat
open Go Go.RowKit
open M10 (hid Md encm mv mz Oth range_keep there_keep range_other there_other setCells_oth setCells_size there_set Ty enct tv tz Fr encf fv fz)
open O6 (Oc enco ov oz)
open T9 (sv)
/-! ### fits -/
def fitB (m : Md) (x : Nd) : Bool := (decide (0 ≤ x.id) && decide (x.id ≤ m.n - 1)) && (decide (0 ≤ x.ph) && decide (x.ph ≤ 3)) && decide (x.sl ≤ 4294967296) && timeB x.st && !farB m.d x.co && (decide (0 ≤ x.t.g) && decide (x.t.g ≤ 1073741824)) && (decide (0 ≤ x.t.b) && decide (x.t.b ≤ 1073741824)) && decide ((x.dv.length : Int) ≤ m.n) && !anyFar m.d x.dv && (decide (0 ≤ x.vd) && decide (x.vd ≤ 3))
set_option maxRecDepth 100000 in
set_option maxHeartbeats 2000000 in
theorem fits_0 (x : Nd) (m : Md) (A : Option Addr) (n c BB : Nat) (w : World) (hm : M10.Ok m) (hr : T9.Row w BB A n (sv x.dv)) (_hB : BB ≤ w.heap.size) (_hn : n ≤ 9223372036854775807) (h0 : (decide (0 ≤ x.id) && decide (x.id ≤ m.n - 1)) = false) :
    Calls Tryz.prog 56 #[mv m, nv x A n c] w fun e w' => e = .returned (.bool false) ∧ Below w.heap.size w w' := by
  have hmf : ∀ (fn : Fn) (first cap : Array Value) (w : World), (Instr.makeFunc fn first cap).run Tryz.prog w = .ok (.func fn first cap) w := fun _ _ _ _ => rfl
  obtain ⟨m1, m2, m3, m4, m5, m6, m7, m8, m9⟩ := id hm
  have d0 : 0 ≤ m.d := by omega
  have d1 : m.d ≤ 1048576 := by omega
  have HR := hid hr
  have hl : x.dv.length = n := by have := hr.1; simpa [sv] using this
  have eN : IntKind.i64.wrap (m.n - 1) = m.n - 1 := by rw [IntKind.wrap_i64]; omega
  have H0 := hid h0
  clear h0
  clear hr hm hl m1 m2 m3 m4 m5 m6 m7 m8 m9
  go_enter Tryz.func56, Tryz.ntmps56
  go_wp2_with (first
    | (go_at_call 109; (with_reducible refine C0.out.mono ?_); rintro e wq ⟨rfl, hq⟩; rw [hq]; clear hq wq)
    | (refine wpList_gbox 32 (encn x A n c) rfl (.tmp 1) rfl rfl ?_; intro w2 v2 b2 s2; have V1 := v1.below b2 (v1.lt (by show 0 < 5; omega)); have BT := hid (b1.trans (b2.mono b1.size)); have mc : w2.cell? ⟨w.heap.size, 4, none⟩ = some (.int .i64 m.d) := V1.cell rfl; have mn : w2.cell? ⟨w.heap.size, 0, none⟩ = some (.int .i64 m.n) := V1.cell rfl; have a0 : w2.cell? ⟨w1.heap.size, 0, none⟩ = some (.int .i64 x.id) := v2.cell rfl; have C0 := within_109 x.id 0 (m.n - 1) _ rfl w2; rw [H0.out] at C0; have C0 := hid C0; clear V1 v1 v2 b1 b2 s1 s2 mc d0 d1 HR)
    | (refine wpList_gbox 23 (encm m) rfl (.tmp 0) rfl rfl ?_; intro w1 v1 b1 s1))
  go_ret
  exact ⟨rfl, BT.out⟩
set_option maxRecDepth 100000 in
set_option maxHeartbeats 2000000 in
theorem fits_1 (x : Nd) (m : Md) (A : Option Addr) (n c BB : Nat) (w : World) (hm : M10.Ok m) (hr : T9.Row w BB A n (sv x.dv)) (_hB : BB ≤ w.heap.size) (_hn : n ≤ 9223372036854775807) (h0 : (decide (0 ≤ x.id) && decide (x.id ≤ m.n - 1)) = true) (h1 : (decide (0 ≤ x.ph) && decide (x.ph ≤ 3)) = false) :
    Calls Tryz.prog 56 #[mv m, nv x A n c] w fun e w' => e = .returned (.bool false) ∧ Below w.heap.size w w' := by
  have hmf : ∀ (fn : Fn) (first cap : Array Value) (w : World), (Instr.makeFunc fn first cap).run Tryz.prog w = .ok (.func fn first cap) w := fun _ _ _ _ => rfl
  obtain ⟨m1, m2, m3, m4, m5, m6, m7, m8, m9⟩ := id hm
  have d0 : 0 ≤ m.d := by omega
  have d1 : m.d ≤ 1048576 := by omega
  have HR := hid hr
  have hl : x.dv.length = n := by have := hr.1; simpa [sv] using this
  have eN : IntKind.i64.wrap (m.n - 1) = m.n - 1 := by rw [IntKind.wrap_i64]; omega
  have H0 := hid h0
  clear h0
  have H1 := hid h1
  clear h1
  clear hr hm hl m1 m2 m3 m4 m5 m6 m7 m8 m9
  go_enter Tryz.func56, Tryz.ntmps56
  go_wp2_with (first
    | (go_at_call 109; (with_reducible refine C0.out.mono ?_); rintro e wq ⟨rfl, hq⟩; rw [hq]; clear hq wq)
    | (go_at_call 109; (with_reducible refine C1.out.mono ?_); rintro e wq ⟨rfl, hq⟩; rw [hq]; clear hq wq)
    | (refine wpList_gbox 32 (encn x A n c) rfl (.tmp 1) rfl rfl ?_; intro w2 v2 b2 s2; have V1 := v1.below b2 (v1.lt (by show 0 < 5; omega)); have BT := hid (b1.trans (b2.mono b1.size)); have mc : w2.cell? ⟨w.heap.size, 4, none⟩ = some (.int .i64 m.d) := V1.cell rfl; have mn : w2.cell? ⟨w.heap.size, 0, none⟩ = some (.int .i64 m.n) := V1.cell rfl; have a0 : w2.cell? ⟨w1.heap.size, 0, none⟩ = some (.int .i64 x.id) := v2.cell rfl; have a1 : w2.cell? ⟨w1.heap.size, 1, none⟩ = some (.int .i64 x.ph) := v2.cell rfl; have C0 := within_109 x.id 0 (m.n - 1) _ rfl w2; rw [H0.out] at C0; have C0 := hid C0; have C1 := within_109 x.ph 0 3 _ rfl w2; rw [H1.out] at C1; have C1 := hid C1; clear V1 v1 v2 b1 b2 s1 s2 mc d0 d1 HR)
    | (refine wpList_gbox 23 (encm m) rfl (.tmp 0) rfl rfl ?_; intro w1 v1 b1 s1))
  go_ret
  exact ⟨rfl, BT.out⟩
set_option maxRecDepth 100000 in
set_option maxHeartbeats 2000000 in
theorem fits_2 (x : Nd) (m : Md) (A : Option Addr) (n c BB : Nat) (w : World) (hm : M10.Ok m) (hr : T9.Row w BB A n (sv x.dv)) (_hB : BB ≤ w.heap.size) (_hn : n ≤ 9223372036854775807) (h0 : (decide (0 ≤ x.id) && decide (x.id ≤ m.n - 1)) = true) (h1 : (decide (0 ≤ x.ph) && decide (x.ph ≤ 3)) = true) (h2 : decide (x.sl ≤ 4294967296) = false) :
    Calls Tryz.prog 56 #[mv m, nv x A n c] w fun e w' => e = .returned (.bool false) ∧ Below w.heap.size w w' := by
  have hmf : ∀ (fn : Fn) (first cap : Array Value) (w : World), (Instr.makeFunc fn first cap).run Tryz.prog w = .ok (.func fn first cap) w := fun _ _ _ _ => rfl
  obtain ⟨m1, m2, m3, m4, m5, m6, m7, m8, m9⟩ := id hm
  have d0 : 0 ≤ m.d := by omega
  have d1 : m.d ≤ 1048576 := by omega
  have HR := hid hr
  have hl : x.dv.length = n := by have := hr.1; simpa [sv] using this
  have eN : IntKind.i64.wrap (m.n - 1) = m.n - 1 := by rw [IntKind.wrap_i64]; omega
  have H0 := hid h0
  clear h0
  have H1 := hid h1
  clear h1
  clear hr hm hl m1 m2 m3 m4 m5 m6 m7 m8 m9
  go_enter Tryz.func56, Tryz.ntmps56
  go_wp2_with (first
    | (go_at_call 109; (with_reducible refine C0.out.mono ?_); rintro e wq ⟨rfl, hq⟩; rw [hq]; clear hq wq)
    | (go_at_call 109; (with_reducible refine C1.out.mono ?_); rintro e wq ⟨rfl, hq⟩; rw [hq]; clear hq wq)
    | (refine wpList_gbox 32 (encn x A n c) rfl (.tmp 1) rfl rfl ?_; intro w2 v2 b2 s2; have V1 := v1.below b2 (v1.lt (by show 0 < 5; omega)); have BT := hid (b1.trans (b2.mono b1.size)); have mc : w2.cell? ⟨w.heap.size, 4, none⟩ = some (.int .i64 m.d) := V1.cell rfl; have mn : w2.cell? ⟨w.heap.size, 0, none⟩ = some (.int .i64 m.n) := V1.cell rfl; have a0 : w2.cell? ⟨w1.heap.size, 0, none⟩ = some (.int .i64 x.id) := v2.cell rfl; have a1 : w2.cell? ⟨w1.heap.size, 1, none⟩ = some (.int .i64 x.ph) := v2.cell rfl; have a2 : w2.cell? ⟨w1.heap.size, 2, none⟩ = some (.int .u64 x.sl) := v2.cell rfl; have C0 := within_109 x.id 0 (m.n - 1) _ rfl w2; rw [H0.out] at C0; have C0 := hid C0; have C1 := within_109 x.ph 0 3 _ rfl w2; rw [H1.out] at C1; have C1 := hid C1; clear V1 v1 v2 b1 b2 s1 s2 mc d0 d1 HR)
    | (refine wpList_gbox 23 (encm m) rfl (.tmp 0) rfl rfl ?_; intro w1 v1 b1 s1))
  go_ret
  exact ⟨rfl, BT.out⟩
set_option maxRecDepth 100000 in
set_option maxHeartbeats 2000000 in
theorem fits_3 (x : Nd) (m : Md) (A : Option Addr) (n c BB : Nat) (w : World) (hm : M10.Ok m) (hr : T9.Row w BB A n (sv x.dv)) (_hB : BB ≤ w.heap.size) (_hn : n ≤ 9223372036854775807) (h0 : (decide (0 ≤ x.id) && decide (x.id ≤ m.n - 1)) = true) (h1 : (decide (0 ≤ x.ph) && decide (x.ph ≤ 3)) = true) (h2 : decide (x.sl ≤ 4294967296) = true) (h3 : timeB x.st = false) :
    Calls Tryz.prog 56 #[mv m, nv x A n c] w fun e w' => e = .returned (.bool false) ∧ Below w.heap.size w w' := by
  have hmf : ∀ (fn : Fn) (first cap : Array Value) (w : World), (Instr.makeFunc fn first cap).run Tryz.prog w = .ok (.func fn first cap) w := fun _ _ _ _ => rfl
  obtain ⟨m1, m2, m3, m4, m5, m6, m7, m8, m9⟩ := id hm
  have d0 : 0 ≤ m.d := by omega
  have d1 : m.d ≤ 1048576 := by omega
  have HR := hid hr
  have hl : x.dv.length = n := by have := hr.1; simpa [sv] using this
  have eN : IntKind.i64.wrap (m.n - 1) = m.n - 1 := by rw [IntKind.wrap_i64]; omega
  have H0 := hid h0
  clear h0
  have H1 := hid h1
  clear h1
  have H3 := hid h3
  clear h3
  clear hr hm hl m1 m2 m3 m4 m5 m6 m7 m8 m9
  go_enter Tryz.func56, Tryz.ntmps56
  go_wp2_with (first
    | (go_at_call 109; (with_reducible refine C0.out.mono ?_); rintro e wq ⟨rfl, hq⟩; rw [hq]; clear hq wq)
    | (go_at_call 109; (with_reducible refine C1.out.mono ?_); rintro e wq ⟨rfl, hq⟩; rw [hq]; clear hq wq)
    | (go_at_call 30; (with_reducible refine C3.out.mono ?_); rintro e wq ⟨rfl, hq⟩; rw [hq]; clear hq wq)
    | (refine wpList_gbox 32 (encn x A n c) rfl (.tmp 1) rfl rfl ?_; intro w2 v2 b2 s2; have V1 := v1.below b2 (v1.lt (by show 0 < 5; omega)); have BT := hid (b1.trans (b2.mono b1.size)); have mc : w2.cell? ⟨w.heap.size, 4, none⟩ = some (.int .i64 m.d) := V1.cell rfl; have mn : w2.cell? ⟨w.heap.size, 0, none⟩ = some (.int .i64 m.n) := V1.cell rfl; have a0 : w2.cell? ⟨w1.heap.size, 0, none⟩ = some (.int .i64 x.id) := v2.cell rfl; have a1 : w2.cell? ⟨w1.heap.size, 1, none⟩ = some (.int .i64 x.ph) := v2.cell rfl; have a2 : w2.cell? ⟨w1.heap.size, 2, none⟩ = some (.int .u64 x.sl) := v2.cell rfl; have a3 : w2.cell? ⟨w1.heap.size, 3, none⟩ = some (.int .i64 x.st) := v2.cell rfl; have C0 := within_109 x.id 0 (m.n - 1) _ rfl w2; rw [H0.out] at C0; have C0 := hid C0; have C1 := within_109 x.ph 0 3 _ rfl w2; rw [H1.out] at C1; have C1 := hid C1; have C3 := isTime_any x.st w2; rw [H3.out] at C3; have C3 := hid C3; clear V1 v1 v2 b1 b2 s1 s2 mc d0 d1 HR)
    | (refine wpList_gbox 23 (encm m) rfl (.tmp 0) rfl rfl ?_; intro w1 v1 b1 s1))
  go_ret
  exact ⟨rfl, BT.out⟩
end Go.Proofs.YtlgedfljmgedfaaGreat
