/-
  The walk of MedlCounts: it returns true at every schedule, slot, number of rounds and node.
-/
import Derived.Test.YtjnfckhfgpbbiaaG
import Derived.Test.YtjnfckhfgpbbiaaR
namespace Go.Proofs.Ytjnfckhfgpbbiaa
open Go Go.RowKit
set_option maxRecDepth 100000 in
theorem counts_bad (x : Md) (k r q : Int) (w : World) (h : ¬ Ok x) : Calls Try.prog 7 #[mv x, .int .u64 k, .int .u8 r, .int .i64 q] w fun e w' => e = .returned (.bool true) ∧ Below w.heap.size w w' := by
  have HC := hid (fun w => (okE_bad h ▸ check_any x w : Calls Try.prog 15 #[mv x] w fun e w' => e = .returned (.int .i64 1) ∧ Below w.heap.size w w'))
  clear h
  go_enter Try.func7, Try.ntmps7
  go_wp2_with (first
    | (refine wpList_ldm rfl (.tmp 4) rfl rfl v3 ?_)
    | (go_at_call 15; (with_reducible refine (HC.out w2).mono ?_); rintro e w3 ⟨rfl, b3⟩; have v3 := v2.keep b3; have B3 : Hid (Below w.heap.size w w3) := hid (B2.out.trans (b3.mono B2.out.size)); clear v2 b3)
    | (refine wpList_ldm rfl (.tmp 4) rfl rfl v2 ?_)
    | (go_at_call 8; (with_reducible refine (live_any w1).mono ?_); rintro e w2 ⟨rfl, b2⟩; have v2 := v1.keep b2; have B2 : Hid (Below w.heap.size w w2) := hid (B1.out.trans (b2.mono B1.out.size)); clear v1 b2)
    | (refine wpList_ldm rfl (.tmp 4) rfl rfl v1 ?_)
    | (refine wpList_boxm (x := x) rfl (.tmp 0) rfl rfl ?_; intro w1 v1 b1 s1; have B1 : Hid (Below w.heap.size w w1) := hid b1; clear b1 s1))
  go_ret
  exact ⟨rfl, B3.out⟩
set_option maxRecDepth 100000 in
theorem counts_node (n s l f d k r q : Int) (w : World) (h : Ok ⟨n, s, l, f, d⟩) (hq : (decide (q < 0) || decide (n ≤ q)) = true) : Calls Try.prog 7 #[mv ⟨n, s, l, f, d⟩, .int .u64 k, .int .u8 r, .int .i64 q] w fun e w' => e = .returned (.bool true) ∧ Below w.heap.size w w' := by
  have HC := hid (fun w => (okE_ok h ▸ check_any ⟨n, s, l, f, d⟩ w : Calls Try.prog 15 #[mv ⟨n, s, l, f, d⟩] w fun e w' => e = .returned (.int .i64 0) ∧ Below w.heap.size w w'))
  clear h
  go_enter Try.func7, Try.ntmps7
  go_wp2_with (first
    | (refine wpList_ldm rfl (.tmp 4) rfl rfl v3 ?_)
    | (go_at_call 15; (with_reducible refine (HC.out w2).mono ?_); rintro e w3 ⟨rfl, b3⟩; have v3 := v2.keep b3; have B3 : Hid (Below w.heap.size w w3) := hid (B2.out.trans (b3.mono B2.out.size)); clear v2 b3 c0; have c0 : w3.cell? ⟨w.heap.size, 0, none⟩ = some (.int .i64 n) := v3.c0)
    | (refine wpList_ldm rfl (.tmp 4) rfl rfl v2 ?_)
    | (go_at_call 8; (with_reducible refine (live_any w1).mono ?_); rintro e w2 ⟨rfl, b2⟩; have v2 := v1.keep b2; have B2 : Hid (Below w.heap.size w w2) := hid (B1.out.trans (b2.mono B1.out.size)); clear v1 b2 c0; have c0 : w2.cell? ⟨w.heap.size, 0, none⟩ = some (.int .i64 n) := v2.c0)
    | (refine wpList_ldm rfl (.tmp 4) rfl rfl v1 ?_)
    | (refine wpList_boxm (x := ⟨n, s, l, f, d⟩) rfl (.tmp 0) rfl rfl ?_; intro w1 v1 b1 s1; have B1 : Hid (Below w.heap.size w w1) := hid b1; have c0 : w1.cell? ⟨w.heap.size, 0, none⟩ = some (.int .i64 n) := v1.c0; clear b1 s1))
  all_goals
    go_ret
    exact ⟨rfl, B3.out⟩
/-- The slots of a node: i is the node's just if it is i0 and so many rounds. -/
theorem own_iff (n K q i0 i P c : Int) (hi0 : (K + i0) % n = q) (hP : c * n = P) (h1 : i0 + P - n < i) (h2 : i ≤ i0 + P) : (K + i) % n = q ↔ i = i0 + P := by
  constructor
  · intro h
    have b : (i0 + P - i) % n = 0 := by
      have e : i0 + P - i = (K + i0) - (K + i) + n * c := by rw [← hP, Int.mul_comm n c]; omega
      rw [e, Int.add_mul_emod_self_left, Int.sub_emod, hi0, h, Int.sub_self, Int.zero_emod]
    have c := Int.emod_eq_of_lt (show 0 ≤ i0 + P - i by omega) (show i0 + P - i < n by omega)
    omega
  · intro h
    subst h
    have e : K + (i0 + P) = K + i0 + n * c := by rw [← hP, Int.mul_comm n c]; omega
    rw [e, Int.add_mul_emod_self_left, hi0]
/-- Behind R rounds there were R. -/
theorem rounds_all (n i0 P c R T : Int) (hn : 0 < n) (h0 : 0 ≤ i0) (h0' : i0 < n) (hP : c * n = P) (hT : R * n = T) (h1 : i0 + P - n < T) (h2 : T ≤ i0 + P) : c = R := by
  have a : (c - 1) * n < R * n := by rw [Int.sub_mul, Int.one_mul, hP, hT]; omega
  have b : R * n < (c + 1) * n := by rw [Int.add_mul, Int.one_mul, hP, hT]; omega
  have a' := Int.lt_of_mul_lt_mul_right a (by omega)
  have b' := Int.lt_of_mul_lt_mul_right b (by omega)
  omega
def CntRel (x : Md) (K i0 T : Int) (w : World) (many last i : Value) (wr : World) : Prop :=
  ∃ c P j L : Int, many = .int .i64 c ∧ last = .int .i64 L ∧ i = .int .i64 j ∧ 0 ≤ c ∧ c * x.n = P ∧ 0 ≤ j ∧ j ≤ T ∧ i0 + P - x.n < j ∧ j ≤ i0 + P ∧ (0 < c → L = (K + (i0 + P - x.n)) * x.s) ∧ Below w.heap.size w wr ∧ VarM wr w.heap.size x
set_option maxRecDepth 100000 in
set_option maxHeartbeats 1000000 in
theorem counts_walk (n s l f d k K r R T Q q i0 : Int) (w : World) (h : Ok ⟨n, s, l, f, d⟩) (hk : 0 ≤ k) (hr0 : 0 ≤ r) (hK : k % 2147483648 = K) (_ : 0 ≤ K) (_ : K ≤ 2147483647) (hR : r % 8 = R) (hR0 : 0 ≤ R) (hR1 : R ≤ 7) (hT : R * n = T) (hQ : n * s = Q) (hq0 : 0 ≤ q) (hq1 : q < n) (hi0 : (K + i0) % n = q) (i1 : 0 ≤ i0) (i2 : i0 < n) :
    Calls Try.prog 7 #[mv ⟨n, s, l, f, d⟩, .int .u64 k, .int .u8 r, .int .i64 q] w fun e w' => e = .returned (.bool true) ∧ Below w.heap.size w w' := by
  have HK := hid h
  have HC := hid (fun w => (okE_ok h ▸ check_any ⟨n, s, l, f, d⟩ w : Calls Try.prog 15 #[mv ⟨n, s, l, f, d⟩] w fun e w' => e = .returned (.int .i64 0) ∧ Below w.heap.size w w'))
  have HR := hid (fun w => round_ok n s l f d Q w h hQ)
  obtain ⟨h1, h2, h3, h4, h5, h6, h7, h8, h9⟩ := h
  simp only at h1 h2 h3 h4 h5 h6 h7 h8 h9
  have hb := mul_small hR0 hR1 (show 0 ≤ n by omega) h2
  have hc := mul_small (show 0 ≤ n by omega) h2 (show 0 ≤ s by omega) h4
  rw [hT] at hb
  rw [hQ] at hc
  obtain ⟨T0, T1⟩ := hb
  obtain ⟨Q0, Q1⟩ := hc
  have HT := hid (fun (i0 P c : Int) (a : 0 ≤ i0) (b : i0 < n) (e : c * n = P) (g : i0 + P - n < T) (u : T ≤ i0 + P) => rounds_all n i0 P c R T (by omega) a b e hT g u)
  have HQ := hid hQ
  have HI := hid hi0
  clear h5 h6 h7 h8 h9 hQ hi0
  go_enter Try.func7, Try.ntmps7
  go_wp2_with (first
    | (refine wpList_ldm rfl (.tmp 4) rfl rfl v4 ?_)
    | (go_at_call 19; (with_reducible refine (HR.out w3).mono ?_); rintro e w4 ⟨rfl, b4⟩; have v4 := v3.keep b4; have B4 : Hid (Below w.heap.size w w4) := hid (B3.out.trans (b4.mono B3.out.size)); clear v3 b4 c0; have c0 : w4.cell? ⟨w.heap.size, 0, none⟩ = some (.int .i64 n) := v4.c0)
    | (refine wpList_ldm rfl (.tmp 4) rfl rfl v3 ?_)
    | (go_at_call 15; (with_reducible refine (HC.out w2).mono ?_); rintro e w3 ⟨rfl, b3⟩; have v3 := v2.keep b3; have B3 : Hid (Below w.heap.size w w3) := hid (B2.out.trans (b3.mono B2.out.size)); clear v2 b3 c0; have c0 : w3.cell? ⟨w.heap.size, 0, none⟩ = some (.int .i64 n) := v3.c0)
    | (refine wpList_ldm rfl (.tmp 4) rfl rfl v2 ?_)
    | (go_at_call 8; (with_reducible refine (live_any w1).mono ?_); rintro e w2 ⟨rfl, b2⟩; have v2 := v1.keep b2; have B2 : Hid (Below w.heap.size w w2) := hid (B1.out.trans (b2.mono B1.out.size)); clear v1 b2 c0; have c0 : w2.cell? ⟨w.heap.size, 0, none⟩ = some (.int .i64 n) := v2.c0)
    | (refine wpList_ldm rfl (.tmp 4) rfl rfl v1 ?_)
    | (refine wpList_boxm (x := ⟨n, s, l, f, d⟩) rfl (.tmp 0) rfl rfl ?_; intro w1 v1 b1 s1; have B1 : Hid (Below w.heap.size w w1) := hid b1; have c0 : w1.cell? ⟨w.heap.size, 0, none⟩ = some (.int .i64 n) := v1.c0; clear b1 s1))
  have W1 := hid (show CntRel ⟨n, s, l, f, d⟩ K i0 T w (.int .i64 0) (.int .i64 (-1)) (.int .i64 0) w4 from ⟨0, 0, 0, -1, rfl, rfl, rfl, by omega, by omega, by omega, by omega, by show i0 + 0 - n < 0; omega, by omega, by omega, B4.out, v4⟩)
  clear v4 c0 hT HC HR B4
  have HR8 := hid hR
  rw [hR]
  clear hR
  go_loopw [10, 11, 54] (CntRel ⟨n, s, l, f, d⟩ K i0 T w) (fun _ _ i _ => (T - intOf i).toNat)
  case atStart => exact W1.out
  case round =>
    obtain ⟨c, P, j, L, rfl, rfl, rfl, c0, hP, j0, j1, p1, p2, hL, bel, vr⟩ := hrel
    simp only at hP p1 hL
    have BR := hid bel
    have VR := hid vr
    have HP := hid hP
    have HL := hid hL
    have c1 : c ≤ 200 := by
      have : c * 2 ≤ c * n := Int.mul_le_mul_of_nonneg_left h1 c0
      omega
    clear bel vr hP hL W1
    by_cases hj : j < T
    · have HO := hid (fun w => own_ok n s l f d (K + j) _ w HK.out (by omega) (by omega) rfl)
      have o1 := Int.emod_nonneg (K + j) (show n ≠ 0 by omega)
      have o2 := Int.emod_lt_of_pos (K + j) (show 0 < n by omega)
      have IFF := hid (own_iff n K q i0 j P c HI.out HP.out p1 p2)
      generalize (K + j) % n = O at *
      by_cases hO : O = q
      · subst hO
        have ej := IFF.out.1 rfl
        have EJ := hid ej
        have HB := hid (fun w => begin_ok n s l f d (K + j) _ w HK.out (by omega) (by omega) rfl)
        have hm := mul_small (show 0 ≤ K + j by omega) (show K + j ≤ 4294967296 by omega) (show 0 ≤ s by omega) h4
        have HN : Hid ((K + j) * s = (K + (i0 + (P + n) - n)) * s) := hid (by rw [show K + (i0 + (P + n) - n) = K + j by omega])
        have HS : Hid (0 < c → (K + j) * s = L + Q) := hid (fun hc => by
          rw [HL.out hc, ← HQ.out, ← Int.add_mul]
          rw [show K + (i0 + P - n) + n = K + j by omega])
        obtain ⟨m1, m2⟩ := hm
        generalize (K + j) * s = Z at *
        clear ej IFF
        by_cases hc : 0 < c
        · have e1 := HS.out hc
          have q1 : decide (0 < c) = true := decide_eq_true hc
          have q2 : (Z != L + Q) = false := by simp [e1]
          have L0 : -9223372036854775808 ≤ L := by omega
          have L1 : L ≤ 4503599627370496 := by omega
          clear e1
          go_wp2_with (first
            | (go_at_call 18; (with_reducible refine (HB.out x1).mono ?_); rintro e x2 ⟨rfl, b2⟩; have y2 := y1.keep b2; have Y2 : Hid (Below w.heap.size w x2) := hid (Y1.out.trans (b2.mono Y1.out.size)); clear b2 y1)
            | (refine wpList_ldm rfl (.tmp 4) rfl rfl y1 ?_)
            | (go_at_call 16; (with_reducible refine (HO.out wr).mono ?_); rintro e x1 ⟨rfl, b1⟩; have y1 := VR.out.keep b1; have Y1 : Hid (Below w.heap.size w x1) := hid (BR.out.trans (b1.mono BR.out.size)); clear b1)
            | (refine wpList_ldm rfl (.tmp 4) rfl rfl VR.out ?_))
          go_roundw
          case rel => exact ⟨c + 1, P + n, j + 1, Z, rfl, rfl, rfl, by omega, by show (c + 1) * n = P + n; rw [Int.add_mul, Int.one_mul, HP.out], by omega, by omega, by have := EJ.out; show i0 + (P + n) - n < j + 1; omega, by have := EJ.out; omega, fun _ => HN.out, Y2.out, y2⟩
          case measure => simp [intOf]; omega
        · have q1 : decide (0 < c) = false := decide_eq_false hc
          go_wp2_with (first
            | (go_at_call 18; (with_reducible refine (HB.out x1).mono ?_); rintro e x2 ⟨rfl, b2⟩; have y2 := y1.keep b2; have Y2 : Hid (Below w.heap.size w x2) := hid (Y1.out.trans (b2.mono Y1.out.size)); clear b2 y1)
            | (refine wpList_ldm rfl (.tmp 4) rfl rfl y1 ?_)
            | (go_at_call 16; (with_reducible refine (HO.out wr).mono ?_); rintro e x1 ⟨rfl, b1⟩; have y1 := VR.out.keep b1; have Y1 : Hid (Below w.heap.size w x1) := hid (BR.out.trans (b1.mono BR.out.size)); clear b1)
            | (refine wpList_ldm rfl (.tmp 4) rfl rfl VR.out ?_))
          go_roundw
          case rel => exact ⟨c + 1, P + n, j + 1, Z, rfl, rfl, rfl, by omega, by show (c + 1) * n = P + n; rw [Int.add_mul, Int.one_mul, HP.out], by omega, by omega, by have := EJ.out; show i0 + (P + n) - n < j + 1; omega, by have := EJ.out; omega, fun _ => HN.out, Y2.out, y2⟩
          case measure => simp [intOf]; omega
      · have nj : ¬ j = i0 + P := fun e => hO (IFF.out.2 e)
        have q1 : (O != q) = true := by simpa using hO
        clear hO IFF
        go_wp2_with (first
          | (go_at_call 16; (with_reducible refine (HO.out wr).mono ?_); rintro e x1 ⟨rfl, b1⟩; have y1 := VR.out.keep b1; have Y1 : Hid (Below w.heap.size w x1) := hid (BR.out.trans (b1.mono BR.out.size)); clear b1)
          | (refine wpList_ldm rfl (.tmp 4) rfl rfl VR.out ?_))
        go_roundw
        case rel => exact ⟨c, P, j + 1, L, rfl, rfl, rfl, c0, HP.out, by omega, by omega, by show i0 + P - n < j + 1; omega, by omega, HL.out, Y1.out, y1⟩
        case measure => simp [intOf]; omega
    · have ec := HT.out i0 P c i1 i2 HP.out (by omega) (by omega)
      have e8 := HR8.out
      rw [← ec] at e8
      go_wp2_with fail
      go_ret
      exact ⟨ret_bool (by simp), BR.out⟩
theorem counts_row {w : World} (n s l f d : Int) (_ : In64 n) (_ : In64 s) (_ : In64 l) (_ : In64 f) (_ : In64 d) (k : Int) (k1 : 0 ≤ k) (_ : k ≤ 18446744073709551615) (r : Int) (r1 : 0 ≤ r) (_ : r ≤ 255) (q : Int) (_ : -9223372036854775808 ≤ q) (_ : q ≤ 9223372036854775807) :
    Calls Try.prog 7 #[mv ⟨n, s, l, f, d⟩, .int .u64 k, .int .u8 r, .int .i64 q] w fun e w' => e = .returned (.bool true) ∧ Below w.heap.size w w' := by
  by_cases h : Ok ⟨n, s, l, f, d⟩
  · by_cases hq : 0 ≤ q ∧ q < n
    · have h1 : 2 ≤ n := h.1
      refine counts_walk n s l f d k _ r _ _ _ q ((q - k % 2147483648) % n) w h k1 r1 rfl (by omega) (by omega) rfl (by omega) (by omega) rfl rfl hq.1 hq.2 ?_ (Int.emod_nonneg _ (by omega)) (Int.emod_lt_of_pos _ (by omega))
      rw [Int.add_emod_emod, show k % 2147483648 + (q - k % 2147483648) = q by omega]
      exact Int.emod_eq_of_lt hq.1 hq.2
    · exact counts_node n s l f d k r q w h (by simp; omega)
  · exact counts_bad _ k r q w h
end Go.Proofs.Ytjnfckhfgpbbiaa
