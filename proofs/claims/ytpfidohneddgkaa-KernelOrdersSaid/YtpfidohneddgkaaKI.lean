/-
  slices.Equal over things, kernel.Same and the document's own Same of queues: what they tell. What is asked: at most 4096 things each.
-/
import Derived.Test.YtpfidohneddgkaaKH
import Derived.Deep.DeepCutAuto
import Derived.RegionTactic
namespace Go.Proofs.Ytpfidohneddgkaa
open Go Go.RowKit Go.Maps

set_option maxHeartbeats 1000000 in
theorem equal_any (A A2 : Option Addr) (n c m c2 B B2 : Nat) (a b : List It) (r : Bool) (w : World) (ha : Row w B A n a) (hb : Row w B2 A2 m b) (hB : B ≤ w.heap.size) (hB2 : B2 ≤ w.heap.size) (hn : n ≤ 1000000000) (hm : m ≤ 1000000000) (hr : decide (a = b) = r) :
    Calls Try.prog 47 #[.slice A n c, .slice A2 m c2] w fun e w' => e = .returned (.bool r) ∧ Below w.heap.size w w' := by
  have HA := hid ha
  have HB := hid hb
  have HR := hid hr
  have LA := hid ha.1
  have LB := hid hb.1
  clear ha hb hr
  by_cases hnm : n = m
  · subst hnm
    go_enter Try.func47, Try.ntmps47
    go_wp2
    go_loopw [13] (fun t wr => ∃ i : Nat, t = .int .i64 (i : Int) ∧ i ≤ n ∧ (∀ j, j < i → nth a j = nth b j) ∧ Below w.heap.size w wr) (fun t _ => n - (intOf t).toNat)
    case atStart => exact ⟨0, rfl, by omega, fun j hj => absurd hj (by omega), Below.refl _ _⟩
    case round =>
      obtain ⟨i, rfl, hi, hj, bel⟩ := hrel
      have HJ := hid hj
      have BW := hid bel
      clear hj bel
      by_cases hlt : i < n
      · have RA : Hid (Row wr B A n a) := hid (HA.out.below (BW.out.mono hB))
        have RB : Hid (Row wr B2 A2 n b) := hid (HB.out.below (BW.out.mono hB2))
        obtain ⟨b1, o1, rfl, _, hc1⟩ := RA.out.all (by omega)
        obtain ⟨b2, o2, rfl, _, hc2⟩ := RB.out.all (by omega)
        have r1 := hid (hc1 i hlt)
        have r2 := hid (hc2 i hlt)
        have HY : Hid (decide (nth a i = nth b i) = true → ∀ j, j < i + 1 → nth a j = nth b j) := hid fun h j hj => by
          by_cases e : j = i
          · subst e; simpa using h
          · exact HJ.out j (by omega)
        have HN : Hid (decide (nth a i = nth b i) = false → r = false) := hid fun h => by
          rw [← HR.out, decide_eq_false_iff_not]
          rintro rfl
          simp at h
        have q1 := fun w => neItv (nth a i) (nth b i) w
        have q2 := fun p q w => guItv .neq p q (nth a i) (nth b i) w
        clear hc1 hc2
        generalize decide (nth a i = nth b i) = R at *
        generalize nth a i = x at *
        generalize nth b i = y at *
        have i1 : (i : Int) < (n : Int) := by omega
        go_wp2_with fail
        refine wp_region_quiet_below (by kernel_rfl) (by kernel_rfl) ?_
        repeat (first | refine wpQuiet_ld rfl rfl rfl r1.out ?_ | refine wpQuiet_ld rfl rfl rfl r2.out ?_ | quiet_step (fail))
        refine wpQuiet_nil ?_
        intro _ hw'
        obtain ⟨⟨dq, osq⟩, hw''⟩ := hw'
        subst hw''
        have HW : Hid (Below wr.heap.size wr (Sort.grow (redrawn wr dq) osq)) := hid (below_regrown wr dq osq)
        generalize Sort.grow (redrawn wr dq) osq = w2 at *
        clear r1 r2 q1 q2
        have HB2 : Hid (Below w.heap.size w w2) := hid (BW.out.trans (HW.out.mono BW.out.size))
        cases R
        · have HN' := hid (HN.out rfl)
          clear HN HY
          go_wp2
          go_ret
          exact ⟨ret_bool HN'.out.symm, HB2.out⟩
        · have HY' := hid (HY.out rfl)
          clear HN HY
          go_wp2
          go_roundw
          case rel => exact ⟨i + 1, by go_num, by omega, HY'.out, HB2.out⟩
          case measure => simp [intOf]; omega
      · have HE : Hid (r = true) := hid (by
          rw [← HR.out, decide_eq_true_eq]
          exact ext_nth (by rw [LA.out, LB.out]) fun j hj => HJ.out j (by rw [LA.out] at hj; omega))
        go_wp2
        go_ret
        exact ⟨ret_bool HE.out.symm, BW.out⟩
  · have HE : Hid (r = false) := hid (by
      rw [← HR.out, decide_eq_false_iff_not]
      rintro rfl
      exact hnm (by rw [← LA.out, ← LB.out]))
    have t1 : ((n : Int) != (m : Int)) = true := by simp; omega
    go_enter Try.func47, Try.ntmps47
    go_wp2
    go_ret
    exact ⟨ret_bool HE.out.symm, Below.refl _ _⟩
theorem four_of {w : World} {g : Nat} {A : Option Addr} {n c : Nat} {nx nw hz : Int} (h : VarQ w g ⟨A, n, c, nx, nw, hz⟩) :
    w.cell? ⟨g, 0, none⟩ = some (.slice A n c) ∧ w.cell? ⟨g, 1, none⟩ = some (.int .u64 nx) ∧ w.cell? ⟨g, 2, none⟩ = some (.int .i64 nw) ∧ w.cell? ⟨g, 3, none⟩ = some (.int .i64 hz) := ⟨h.c0, h.c1, h.c2, h.c3⟩
theorem Below.trans2 {a b c : World} (h : Below a.heap.size a b) (k : Below b.heap.size b c) : Below a.heap.size a c := h.trans (k.mono h.size)
theorem VarQ.below2 {w w' : World} {g : Nat} {q : Qu} (h : VarQ w g q) (hk : Below w.heap.size w w') : VarQ w' g q := h.below hk h.lt
theorem VarI.below2 {w w' : World} {g : Nat} {x : It} (h : VarI w g x) (hk : Below w.heap.size w w') : VarI w' g x := h.below hk h.lt

set_option maxRecDepth 100000 in
set_option maxHeartbeats 16000000 in
theorem ksame_no (A D : Option Addr) (n c m d : Nat) (nx nw hz nx2 nw2 hz2 : Int) (w : World) (h : ¬(nx = nx2 ∧ nw = nw2 ∧ hz = hz2)) :
    Calls Try.prog 29 #[qv ⟨A, n, c, nx, nw, hz⟩, qv ⟨D, m, d, nx2, nw2, hz2⟩] w fun e w' => e = .returned (.bool false) ∧ Below w.heap.size w w' := by
  have h' : (nx == nx2) = false ∨ ((nx == nx2) = true ∧ (nw == nw2) = false) ∨ ((nx == nx2) = true ∧ (nw == nw2) = true ∧ (hz == hz2) = false) := by simp; omega
  clear h
  rcases h' with t1 | ⟨t1, t2⟩ | ⟨t1, t2, t3⟩
  all_goals
    go_enter Try.func29, Try.ntmps29
    go_wp2_with (first
    | (refine wpList_boxq (q := ⟨D, m, d, nx2, nw2, hz2⟩) rfl (.tmp 1) rfl rfl ?_; intro w2 u2 b2 s2; have v2 := v1.below b2 v1.lt; have B2 : Hid (Below w.heap.size w w2) := hid (b1.trans (b2.mono b1.size)); have a0 : w2.cell? ⟨w.heap.size, 0, none⟩ = some (.slice A n c) := v2.c0; have a1 : w2.cell? ⟨w.heap.size, 1, none⟩ = some (.int .u64 nx) := v2.c1; have a2 : w2.cell? ⟨w.heap.size, 2, none⟩ = some (.int .i64 nw) := v2.c2; have a3 : w2.cell? ⟨w.heap.size, 3, none⟩ = some (.int .i64 hz) := v2.c3; have d0 : w2.cell? ⟨w1.heap.size, 0, none⟩ = some (.slice D m d) := u2.c0; have d1 : w2.cell? ⟨w1.heap.size, 1, none⟩ = some (.int .u64 nx2) := u2.c1; have d2 : w2.cell? ⟨w1.heap.size, 2, none⟩ = some (.int .i64 nw2) := u2.c2; have d3 : w2.cell? ⟨w1.heap.size, 3, none⟩ = some (.int .i64 hz2) := u2.c3)
    | (refine wpList_boxq (q := ⟨A, n, c, nx, nw, hz⟩) rfl (.tmp 0) rfl rfl ?_; intro w1 v1 b1 s1))
    clear v1 v2 u2 b1 b2 s1 s2
    go_region
    all_goals
      go_wp2
      go_ret
      exact ⟨rfl, B2.out.drew⟩

set_option maxRecDepth 100000 in
set_option maxHeartbeats 4000000 in
theorem ksame_yes (A D : Option Addr) (n c m d B B2 : Nat) (nx nw hz : Int) (xs ys : List It) (r : Bool) (w : World) (ha : Row w B A n xs) (hb : Row w B2 D m ys) (hB : B ≤ w.heap.size) (hB2 : B2 ≤ w.heap.size) (hn : n ≤ 4096) (hm : m ≤ 4096) (hr : decide (srt xs = srt ys) = r) :
    Calls Try.prog 29 #[qv ⟨A, n, c, nx, nw, hz⟩, qv ⟨D, m, d, nx, nw, hz⟩] w fun e w' => e = .returned (.bool r) ∧ Below w.heap.size w w' := by
  have SA := hid (fun w' (hk : Below w.heap.size w w') => sorted_any A n c B xs w' (ha.below (hk.mono hB)) (Nat.le_trans hB hk.size) (by omega))
  have SD := hid (fun w' (hk : Below w.heap.size w w') => sorted_any D m d B2 ys w' (hb.below (hk.mono hB2)) (Nat.le_trans hB2 hk.size) (by omega))
  have HR := hid hr
  obtain ⟨nx2, hnx⟩ : ∃ z, z = nx := ⟨_, rfl⟩
  obtain ⟨nw2, hnw⟩ : ∃ z, z = nw := ⟨_, rfl⟩
  obtain ⟨hz2, hhz⟩ : ∃ z, z = hz := ⟨_, rfl⟩
  have t1 : (nx == nx2) = true := by simpa using hnx.symm
  have t2 : (nw == nw2) = true := by simpa using hnw.symm
  have t3 : (hz == hz2) = true := by simpa using hhz.symm
  rw [show qv ⟨D, m, d, nx, nw, hz⟩ = qv ⟨D, m, d, nx2, nw2, hz2⟩ by rw [hnx, hnw, hhz]]
  clear ha hb hr hnx hnw hhz
  go_enter Try.func29, Try.ntmps29
  go_wp2_with (first
    | (refine wpList_boxq (q := ⟨D, m, d, nx2, nw2, hz2⟩) rfl (.tmp 1) rfl rfl ?_; intro w2 u2 b2 s2; have v2 := v1.below b2 v1.lt; have B2 : Hid (Below w.heap.size w w2) := hid (b1.trans (b2.mono b1.size)); have a0 : w2.cell? ⟨w.heap.size, 0, none⟩ = some (.slice A n c) := v2.c0; have a1 : w2.cell? ⟨w.heap.size, 1, none⟩ = some (.int .u64 nx) := v2.c1; have a2 : w2.cell? ⟨w.heap.size, 2, none⟩ = some (.int .i64 nw) := v2.c2; have a3 : w2.cell? ⟨w.heap.size, 3, none⟩ = some (.int .i64 hz) := v2.c3; have d0 : w2.cell? ⟨w1.heap.size, 0, none⟩ = some (.slice D m d) := u2.c0; have d1 : w2.cell? ⟨w1.heap.size, 1, none⟩ = some (.int .u64 nx2) := u2.c1; have d2 : w2.cell? ⟨w1.heap.size, 2, none⟩ = some (.int .i64 nw2) := u2.c2; have d3 : w2.cell? ⟨w1.heap.size, 3, none⟩ = some (.int .i64 hz2) := u2.c3)
    | (refine wpList_boxq (q := ⟨A, n, c, nx, nw, hz⟩) rfl (.tmp 0) rfl rfl ?_; intro w1 v1 b1 s1))
  have V2 : Hid (VarQ w2.drew w.heap.size ⟨A, n, c, nx, nw, hz⟩) := hid v2
  have U2 : Hid (VarQ w2.drew w1.heap.size ⟨D, m, d, nx2, nw2, hz2⟩) := hid u2
  have BX : Hid (Below w.heap.size w w2.drew) := hid B2.out.drew
  clear v1 v2 u2 b1 b2 s1 s2
  go_region_held3 (fun w' => w'.cell? ⟨w.heap.size, 0, none⟩ = some (.slice A n c) ∧ w'.cell? ⟨w.heap.size, 1, none⟩ = some (.int .u64 nx) ∧ w'.cell? ⟨w.heap.size, 2, none⟩ = some (.int .i64 nw) ∧ w'.cell? ⟨w.heap.size, 3, none⟩ = some (.int .i64 hz) ∧ w'.cell? ⟨w1.heap.size, 0, none⟩ = some (.slice D m d) ∧ w'.cell? ⟨w1.heap.size, 1, none⟩ = some (.int .u64 nx2) ∧ w'.cell? ⟨w1.heap.size, 2, none⟩ = some (.int .i64 nw2) ∧ w'.cell? ⟨w1.heap.size, 3, none⟩ = some (.int .i64 hz2))
    (first | with_reducible exact ⟨a0, a1, a2, a3, d0, d1, d2, d3⟩ | with_reducible exact ⟨p0, p1, p2, p3, e0, e1, e2, e3⟩ | with_reducible exact ⟨q0, q1, q2, q3, f0, f1, f2, f3⟩ | go_keep)
    (first
      | (go_at_call 41; (with_reducible refine (SA.out _ (by first | exact BD.out | exact BX.out)).mono ?_); rintro e wA ⟨A1, c1, l1, rfl, rfl, ownA, belA⟩; have BA : Hid (Below w.heap.size w wA) := hid (by first | exact BD.out.trans (belA.mono BD.out.size) | exact BX.out.trans (belA.mono BX.out.size)); obtain ⟨p0, p1, p2, p3⟩ := four_of (V2.out.below2 (w' := wA) (by first | exact Below.trans2 belD belA | exact belA)); obtain ⟨e0, e1, e2, e3⟩ := four_of (U2.out.below2 (w' := wA) (by first | exact Below.trans2 belD belA | exact belA)); dsimp only)
      | (go_at_call 41; (with_reducible refine (SD.out _ (by first | exact BA.out | exact BX.out)).mono ?_); rintro e wD ⟨D1, k1, l2, rfl, rfl, ownD, belD⟩; have BD : Hid (Below w.heap.size w wD) := hid (by first | exact BA.out.trans (belD.mono BA.out.size) | exact BX.out.trans (belD.mono BX.out.size)); obtain ⟨q0, q1, q2, q3⟩ := four_of (V2.out.below2 (w' := wD) (by first | exact Below.trans2 belA belD | exact belD)); obtain ⟨f0, f1, f2, f3⟩ := four_of (U2.out.below2 (w' := wD) (by first | exact Below.trans2 belA belD | exact belD)); dsimp only)
      | (go_at_call 47; refine (equal_any A1 D1 n c1 m k1 wD.heap.size wD.heap.size (srt xs) (srt ys) r wD (ownA.row.up belD) ownD.row (Nat.le_refl _) (Nat.le_refl _) (by omega) (by omega) HR.out).mono ?_; rintro e wE ⟨rfl, belE⟩; have BE : Hid (Below w.heap.size w wE) := hid (BD.out.trans (belE.mono BD.out.size)); obtain ⟨i0, i1, i2, i3⟩ := four_of (V2.out.below2 (w' := wE) (Below.trans2 belA (Below.trans2 belD belE))); obtain ⟨j0, j1, j2, j3⟩ := four_of (U2.out.below2 (w' := wE) (Below.trans2 belA (Below.trans2 belD belE))); dsimp only)
      | (go_at_call 47; refine (equal_any A1 D1 n c1 m k1 wA.heap.size wA.heap.size (srt xs) (srt ys) r wA ownA.row (ownD.row.up belA) (Nat.le_refl _) (Nat.le_refl _) (by omega) (by omega) HR.out).mono ?_; rintro e wE ⟨rfl, belE⟩; have BE : Hid (Below w.heap.size w wE) := hid (BA.out.trans (belE.mono BA.out.size)); obtain ⟨i0, i1, i2, i3⟩ := four_of (V2.out.below2 (w' := wE) (Below.trans2 belD (Below.trans2 belA belE))); obtain ⟨j0, j1, j2, j3⟩ := four_of (U2.out.below2 (w' := wE) (Below.trans2 belD (Below.trans2 belA belE))); dsimp only))
  all_goals
    go_wp2
    go_ret
    exact ⟨rfl, BE.out⟩
set_option maxRecDepth 100000 in
set_option maxHeartbeats 16000000 in
theorem rsame_no (A D : Option Addr) (n c m d : Nat) (nx nw hz nx2 nw2 hz2 : Int) (w : World) (h : ¬(nx = nx2 ∧ nw = nw2 ∧ hz = hz2)) :
    Calls Try.prog 23 #[qv ⟨A, n, c, nx, nw, hz⟩, qv ⟨D, m, d, nx2, nw2, hz2⟩] w fun e w' => e = .returned (.bool false) ∧ Below w.heap.size w w' := by
  have h' : (nx == nx2) = false ∨ ((nx == nx2) = true ∧ (nw == nw2) = false) ∨ ((nx == nx2) = true ∧ (nw == nw2) = true ∧ (hz == hz2) = false) := by simp; omega
  clear h
  rcases h' with t1 | ⟨t1, t2⟩ | ⟨t1, t2, t3⟩
  all_goals
    go_enter Try.func23, Try.ntmps23
    go_wp2_with (first
    | (refine wpList_boxq (q := ⟨D, m, d, nx2, nw2, hz2⟩) rfl (.tmp 1) rfl rfl ?_; intro w2 u2 b2 s2; have v2 := v1.below b2 v1.lt; have B2 : Hid (Below w.heap.size w w2) := hid (b1.trans (b2.mono b1.size)); have a0 : w2.cell? ⟨w.heap.size, 0, none⟩ = some (.slice A n c) := v2.c0; have a1 : w2.cell? ⟨w.heap.size, 1, none⟩ = some (.int .u64 nx) := v2.c1; have a2 : w2.cell? ⟨w.heap.size, 2, none⟩ = some (.int .i64 nw) := v2.c2; have a3 : w2.cell? ⟨w.heap.size, 3, none⟩ = some (.int .i64 hz) := v2.c3; have d0 : w2.cell? ⟨w1.heap.size, 0, none⟩ = some (.slice D m d) := u2.c0; have d1 : w2.cell? ⟨w1.heap.size, 1, none⟩ = some (.int .u64 nx2) := u2.c1; have d2 : w2.cell? ⟨w1.heap.size, 2, none⟩ = some (.int .i64 nw2) := u2.c2; have d3 : w2.cell? ⟨w1.heap.size, 3, none⟩ = some (.int .i64 hz2) := u2.c3)
    | (refine wpList_boxq (q := ⟨A, n, c, nx, nw, hz⟩) rfl (.tmp 0) rfl rfl ?_; intro w1 v1 b1 s1))
    clear v1 v2 u2 b1 b2 s1 s2
    go_region
    all_goals
      go_wp2
      go_ret
      exact ⟨rfl, B2.out.drew⟩

set_option maxRecDepth 100000 in
set_option maxHeartbeats 4000000 in
theorem rsame_yes (A D : Option Addr) (n c m d B B2 : Nat) (nx nw hz : Int) (xs ys : List It) (r : Bool) (w : World) (ha : Row w B A n xs) (hb : Row w B2 D m ys) (hB : B ≤ w.heap.size) (hB2 : B2 ≤ w.heap.size) (hn : n ≤ 4096) (hm : m ≤ 4096) (hr : decide (srt xs = srt ys) = r) :
    Calls Try.prog 23 #[qv ⟨A, n, c, nx, nw, hz⟩, qv ⟨D, m, d, nx, nw, hz⟩] w fun e w' => e = .returned (.bool r) ∧ Below w.heap.size w w' := by
  have SA := hid (fun w' (hk : Below w.heap.size w w') => refsorted_any A n c B xs w' (ha.below (hk.mono hB)) (Nat.le_trans hB hk.size) (by omega))
  have SD := hid (fun w' (hk : Below w.heap.size w w') => refsorted_any D m d B2 ys w' (hb.below (hk.mono hB2)) (Nat.le_trans hB2 hk.size) (by omega))
  have HR := hid hr
  obtain ⟨nx2, hnx⟩ : ∃ z, z = nx := ⟨_, rfl⟩
  obtain ⟨nw2, hnw⟩ : ∃ z, z = nw := ⟨_, rfl⟩
  obtain ⟨hz2, hhz⟩ : ∃ z, z = hz := ⟨_, rfl⟩
  have t1 : (nx == nx2) = true := by simpa using hnx.symm
  have t2 : (nw == nw2) = true := by simpa using hnw.symm
  have t3 : (hz == hz2) = true := by simpa using hhz.symm
  rw [show qv ⟨D, m, d, nx, nw, hz⟩ = qv ⟨D, m, d, nx2, nw2, hz2⟩ by rw [hnx, hnw, hhz]]
  clear ha hb hr hnx hnw hhz
  go_enter Try.func23, Try.ntmps23
  go_wp2_with (first
    | (refine wpList_boxq (q := ⟨D, m, d, nx2, nw2, hz2⟩) rfl (.tmp 1) rfl rfl ?_; intro w2 u2 b2 s2; have v2 := v1.below b2 v1.lt; have B2 : Hid (Below w.heap.size w w2) := hid (b1.trans (b2.mono b1.size)); have a0 : w2.cell? ⟨w.heap.size, 0, none⟩ = some (.slice A n c) := v2.c0; have a1 : w2.cell? ⟨w.heap.size, 1, none⟩ = some (.int .u64 nx) := v2.c1; have a2 : w2.cell? ⟨w.heap.size, 2, none⟩ = some (.int .i64 nw) := v2.c2; have a3 : w2.cell? ⟨w.heap.size, 3, none⟩ = some (.int .i64 hz) := v2.c3; have d0 : w2.cell? ⟨w1.heap.size, 0, none⟩ = some (.slice D m d) := u2.c0; have d1 : w2.cell? ⟨w1.heap.size, 1, none⟩ = some (.int .u64 nx2) := u2.c1; have d2 : w2.cell? ⟨w1.heap.size, 2, none⟩ = some (.int .i64 nw2) := u2.c2; have d3 : w2.cell? ⟨w1.heap.size, 3, none⟩ = some (.int .i64 hz2) := u2.c3)
    | (refine wpList_boxq (q := ⟨A, n, c, nx, nw, hz⟩) rfl (.tmp 0) rfl rfl ?_; intro w1 v1 b1 s1))
  have V2 : Hid (VarQ w2.drew w.heap.size ⟨A, n, c, nx, nw, hz⟩) := hid v2
  have U2 : Hid (VarQ w2.drew w1.heap.size ⟨D, m, d, nx2, nw2, hz2⟩) := hid u2
  have BX : Hid (Below w.heap.size w w2.drew) := hid B2.out.drew
  clear v1 v2 u2 b1 b2 s1 s2
  go_region_held3 (fun w' => w'.cell? ⟨w.heap.size, 0, none⟩ = some (.slice A n c) ∧ w'.cell? ⟨w.heap.size, 1, none⟩ = some (.int .u64 nx) ∧ w'.cell? ⟨w.heap.size, 2, none⟩ = some (.int .i64 nw) ∧ w'.cell? ⟨w.heap.size, 3, none⟩ = some (.int .i64 hz) ∧ w'.cell? ⟨w1.heap.size, 0, none⟩ = some (.slice D m d) ∧ w'.cell? ⟨w1.heap.size, 1, none⟩ = some (.int .u64 nx2) ∧ w'.cell? ⟨w1.heap.size, 2, none⟩ = some (.int .i64 nw2) ∧ w'.cell? ⟨w1.heap.size, 3, none⟩ = some (.int .i64 hz2))
    (first | with_reducible exact ⟨a0, a1, a2, a3, d0, d1, d2, d3⟩ | with_reducible exact ⟨p0, p1, p2, p3, e0, e1, e2, e3⟩ | with_reducible exact ⟨q0, q1, q2, q3, f0, f1, f2, f3⟩ | go_keep)
    (first
      | (go_at_call 36; (with_reducible refine (SA.out _ (by first | exact BD.out | exact BX.out)).mono ?_); rintro e wA ⟨A1, c1, l1, rfl, rfl, ownA, belA⟩; have BA : Hid (Below w.heap.size w wA) := hid (by first | exact BD.out.trans (belA.mono BD.out.size) | exact BX.out.trans (belA.mono BX.out.size)); obtain ⟨p0, p1, p2, p3⟩ := four_of (V2.out.below2 (w' := wA) (by first | exact Below.trans2 belD belA | exact belA)); obtain ⟨e0, e1, e2, e3⟩ := four_of (U2.out.below2 (w' := wA) (by first | exact Below.trans2 belD belA | exact belA)); dsimp only)
      | (go_at_call 36; (with_reducible refine (SD.out _ (by first | exact BA.out | exact BX.out)).mono ?_); rintro e wD ⟨D1, k1, l2, rfl, rfl, ownD, belD⟩; have BD : Hid (Below w.heap.size w wD) := hid (by first | exact BA.out.trans (belD.mono BA.out.size) | exact BX.out.trans (belD.mono BX.out.size)); obtain ⟨q0, q1, q2, q3⟩ := four_of (V2.out.below2 (w' := wD) (by first | exact Below.trans2 belA belD | exact belD)); obtain ⟨f0, f1, f2, f3⟩ := four_of (U2.out.below2 (w' := wD) (by first | exact Below.trans2 belA belD | exact belD)); dsimp only)
      | (go_at_call 24; refine (same_any A1 D1 n c1 m k1 wD.heap.size wD.heap.size (srt xs) (srt ys) r wD (ownA.row.up belD) ownD.row (Nat.le_refl _) (Nat.le_refl _) (by omega) (by omega) HR.out).mono ?_; rintro e wE ⟨rfl, belE⟩; have BE : Hid (Below w.heap.size w wE) := hid (BD.out.trans (belE.mono BD.out.size)); obtain ⟨i0, i1, i2, i3⟩ := four_of (V2.out.below2 (w' := wE) (Below.trans2 belA (Below.trans2 belD belE))); obtain ⟨j0, j1, j2, j3⟩ := four_of (U2.out.below2 (w' := wE) (Below.trans2 belA (Below.trans2 belD belE))); dsimp only)
      | (go_at_call 24; refine (same_any A1 D1 n c1 m k1 wA.heap.size wA.heap.size (srt xs) (srt ys) r wA ownA.row (ownD.row.up belA) (Nat.le_refl _) (Nat.le_refl _) (by omega) (by omega) HR.out).mono ?_; rintro e wE ⟨rfl, belE⟩; have BE : Hid (Below w.heap.size w wE) := hid (BA.out.trans (belE.mono BA.out.size)); obtain ⟨i0, i1, i2, i3⟩ := four_of (V2.out.below2 (w' := wE) (Below.trans2 belD (Below.trans2 belA belE))); obtain ⟨j0, j1, j2, j3⟩ := four_of (U2.out.below2 (w' := wE) (Below.trans2 belD (Below.trans2 belA belE))); dsimp only))
  all_goals
    go_wp2
    go_ret
    exact ⟨rfl, BE.out⟩
end Go.Proofs.Ytpfidohneddgkaa
