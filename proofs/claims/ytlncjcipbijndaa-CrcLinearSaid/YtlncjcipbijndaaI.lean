/-
  The walk of CrcLinear.
-/
import Derived.Test.YtlncjcipbijndaaH
import Derived.Lib.QuietBelow
namespace Go.Proofs.Ytlncjcipbijndaa
open Go Go.RowKit

def xor3 (a b c : List Nat) : List Nat := List.zipWith (· ^^^ ·) (List.zipWith (· ^^^ ·) a b) c
theorem oct_zip : ∀ {a b : List Nat}, Oct a → Oct b → Oct (List.zipWith (· ^^^ ·) a b)
  | [], _, _, _ => by simp; exact Oct.nil
  | _ :: _, [], _, _ => by simp; exact Oct.nil
  | x :: a, y :: b, ha, hb => by
    rw [List.zipWith_cons_cons]
    exact Oct.cons (Nat.xor_lt_two_pow (n := 8) ha.head hb.head) (oct_zip ha.tail hb.tail)
theorem lin24 {a b c : List Nat} (h1 : a.length = b.length) (h2 : b.length = c.length) (ha : Oct a) (hb : Oct b) (hc : Oct c) : sum24 (xor3 a b c) = (sum24 a ^^^ sum24 b) ^^^ sum24 c := by
  unfold sum24 xor3
  rw [← reg_xor reg24 ent24 a b _ _ h1 (by decide) (by decide) ha hb, Nat.xor_self, ← reg_xor reg24 ent24 _ c _ _ (by simp; omega) (by decide) (by decide) (oct_zip ha hb) hc, Nat.zero_xor]
theorem lin32 {a b c : List Nat} (h1 : a.length = b.length) (h2 : b.length = c.length) (ha : Oct a) (hb : Oct b) (hc : Oct c) : sum32 (xor3 a b c) = (sum32 a ^^^ sum32 b) ^^^ sum32 c := by
  have e : reg st32 e32 4294967295 (xor3 a b c) = (reg st32 e32 4294967295 a ^^^ reg st32 e32 4294967295 b) ^^^ reg st32 e32 4294967295 c := by
    unfold xor3
    rw [← reg_xor reg32 ent32 a b _ _ h1 (by decide) (by decide) ha hb, Nat.xor_self, ← reg_xor reg32 ent32 _ c _ _ (by simp; omega) (by decide) (by decide) (oct_zip ha hb) hc, Nat.zero_xor]
  unfold sum32
  rw [e]
  generalize reg st32 e32 4294967295 a = x
  generalize reg st32 e32 4294967295 b = y
  generalize reg st32 e32 4294967295 c = z
  rw [xor_swap 4294967295 x 4294967295 y, Nat.xor_self, Nat.zero_xor, ← Nat.xor_assoc, Nat.xor_comm 4294967295 (x ^^^ y), Nat.xor_assoc]

/-- The cells of the new text, k of which are laid. -/
def half3 (a b c : List Nat) (n k : Nat) : List Nat := (xor3 a b c).take k ++ List.replicate (n - k) 0
theorem xor3_len {a b c : List Nat} {n : Nat} (h1 : a.length = n) (h2 : b.length = n) (h3 : c.length = n) : (xor3 a b c).length = n := by simp [xor3]; omega
theorem half3_start (a b c : List Nat) (n : Nat) : half3 a b c n 0 = List.replicate n 0 := by simp [half3]
theorem half3_end {a b c : List Nat} {n : Nat} (h1 : a.length = n) (h2 : b.length = n) (h3 : c.length = n) : half3 a b c n n = xor3 a b c := by
  unfold half3; rw [List.take_of_length_le (by rw [xor3_len h1 h2 h3]; exact Nat.le_refl _)]; simp
theorem half3_len {a b c : List Nat} {n k : Nat} (h1 : a.length = n) (h2 : b.length = n) (h3 : c.length = n) (hk : k ≤ n) : (half3 a b c n k).length = n := by
  unfold half3; rw [List.length_append, List.length_take, xor3_len h1 h2 h3, List.length_replicate]; omega
theorem half3_set {a b c : List Nat} {n k x y z : Nat} (h1 : a.length = n) (h2 : b.length = n) (h3 : c.length = n) (hk : k < n) (hx : a[k]? = some x) (hy : b[k]? = some y) (hz : c[k]? = some z) :
    (half3 a b c n k).set k ((x ^^^ y) ^^^ z) = half3 a b c n (k + 1) := by
  have hv : (xor3 a b c)[k]? = some ((x ^^^ y) ^^^ z) := by simp [xor3, List.getElem?_zipWith, hx, hy, hz]
  have hl : ((xor3 a b c).take k).length = k := by rw [List.length_take, xor3_len h1 h2 h3]; omega
  unfold half3
  rw [List.set_append_right _ _ (by rw [hl]; exact Nat.le_refl _), hl, Nat.sub_self, take_next hv, show n - k = (n - (k + 1)) + 1 by omega, List.replicate_succ, List.set_cons_zero, List.append_assoc]
  rfl

theorem made_bv (n : Nat) : (madeCells (Value.int IntKind.u8 0).cells (n * 1)).toList = bv (List.replicate n 0) := by
  rw [Nat.mul_one]
  refine List.ext_getElem? fun j => ?_
  rw [Array.getElem?_toList]
  by_cases hj : j < n
  · simp [madeCells, Value.cells, bv, hj, Nat.mod_one]
  · simp [madeCells, bv, hj]
def LinRel (base : Nat) (w : World) (g : Nat) (a b c : List Nat) (n : Nat) (i : Value) (wr : World) : Prop :=
  ∃ k : Nat, k ≤ n ∧ i = .int .i64 (k : Int) ∧ Own wr base 5 (some ⟨g, 0, none⟩) n n (bv (half3 a b c n k)) ∧ Below base w wr

set_option maxRecDepth 100000 in
set_option maxHeartbeats 2000000 in
theorem linear_walk (A1 A2 A3 : Option Addr) (n1 c1 n2 c2 n3 c3 : Nat) (b1 b2 b3 : List Nat) (w : World) (r1 : Row w w.heap.size A1 n1 (bv b1)) (r2 : Row w w.heap.size A2 n2 (bv b2)) (r3 : Row w w.heap.size A3 n3 (bv b3))
    (o1 : Oct b1) (o2 : Oct b2) (o3 : Oct b3) (m1 : n1 ≤ 140737488351232) (_m2 : n2 ≤ 140737488351232) (_m3 : n3 ≤ 140737488351232) (k1 : n1 ≤ c1) (k2 : n2 ≤ c2) (k3 : n3 ≤ c3) :
    Calls Try.prog 6 #[.slice A1 n1 c1, .slice A2 n2 c2, .slice A3 n3 c3] w fun e w' => e = .returned (.bool true) ∧ Below w.heap.size w w' := by
  obtain ⟨n, hn⟩ : ∃ n, n = min (min n1 n2) n3 := ⟨_, rfl⟩
  obtain ⟨i, hi0, hi1, hi2, hi3⟩ := info_parts info5
  have e1 : n ≤ n1 := by omega
  have e2 : n ≤ n2 := by omega
  have e3 : n ≤ n3 := by omega
  obtain ⟨m, hm⟩ : ∃ m, m = min n1 n2 := ⟨_, rfl⟩
  have hm1 : (if n2 < n1 then (n2 : Int) else (n1 : Int)) = (m : Int) := by split <;> omega
  have hm1' : (if (n2 : Int) < (n1 : Int) then (n2 : Int) else (n1 : Int)) = (m : Int) := by split <;> omega
  have hm2 : (if n3 < m then (n3 : Int) else (m : Int)) = (n : Int) := by split <;> omega
  have hm2' : (if (n3 : Int) < (m : Int) then (n3 : Int) else (m : Int)) = (n : Int) := by split <;> omega
  have R1 : Hid (Row w w.heap.size A1 n (bv (b1.take n))) := hid (by rw [← bv_take]; exact r1.take e1)
  have R2 : Hid (Row w w.heap.size A2 n (bv (b2.take n))) := hid (by rw [← bv_take]; exact r2.take e2)
  have R3 : Hid (Row w w.heap.size A3 n (bv (b3.take n))) := hid (by rw [← bv_take]; exact r3.take e3)
  have O1 := hid (o1.take n)
  have O2 := hid (o2.take n)
  have O3 := hid (o3.take n)
  clear r1 r2 r3 o1 o2 o3 hn hm
  generalize b1.take n = a1 at *
  generalize b2.take n = a2 at *
  generalize b3.take n = a3 at *
  have L1 : Hid (a1.length = n) := hid (by rw [← bv_len]; exact R1.out.1)
  have L2 : Hid (a2.length = n) := hid (by rw [← bv_len]; exact R2.out.1)
  have L3 : Hid (a3.length = n) := hid (by rw [← bv_len]; exact R3.out.1)
  have HI0 := hid hi0
  have HI1 := hid hi1
  have HI2 := hid hi2
  have HI3 := hid hi3
  clear hi0 hi1 hi2 hi3
  go_enter Try.func6, Try.ntmps6
  go_wp2_with fail
  refine (live_any w).mono ?_
  rintro e w0 ⟨rfl, bel0⟩
  have HB0 := hid bel0
  have hz0 : w.heap.size ≤ w0.heap.size := bel0.size
  clear bel0
  by_cases hbig : 3000 < n
  · go_wp2
    go_ret
    exact ⟨rfl, HB0.out⟩
  · go_wp2_with (first
      | (refine wpList_make_full _ rfl (.tmp 24) (.tmp 24) 22 rfl w.heap.size 5 i (.int .u8 0) 1 Try.underlying22 HI0.out HI1.out HI2.out .i64 .i64 (n : Int) (n : Int) n rfl rfl rfl rfl (by rw [HI3.out]; omega) (by unfold maxLen; omega) hz0 ?_
         intro w1 own1 gr1))
    have HO1 : Hid (Own w1 w.heap.size 5 (some ⟨w0.heap.size, 0, none⟩) n n (bv (half3 a1 a2 a3 n 0))) := hid (by rw [half3_start, ← made_bv]; exact own1)
    have HB1 : Hid (Below w.heap.size w w1) := hid (HB0.out.grown gr1 hz0 (by simp))
    have hg : w.heap.size ≤ w0.heap.size := hz0
    clear own1 gr1 HB0 HI0 HI1 HI2 HI3 hm1 hm1' hm2 hm2' hz0
    generalize w0.heap.size = g at *
    go_loopw [28] (LinRel w.heap.size w g a1 a2 a3 n) (fun i _ => n - (intOf i).toNat)
    case atStart => exact ⟨0, Nat.zero_le _, rfl, HO1.out, HB1.out⟩
    case round =>
      obtain ⟨k, hk, rfl, hown, hbel⟩ := hrel
      have HOW := hid hown
      have HBL := hid hbel
      clear hown hbel HO1 HB1
      by_cases hlt : k < n
      · obtain ⟨x1, f1, v1, rfl, _, hv1, hc1⟩ := (R1.out.below HBL.out).byte hlt
        obtain ⟨x2, f2, v2, rfl, _, hv2, hc2⟩ := (R2.out.below HBL.out).byte hlt
        obtain ⟨x3, f3, v3, rfl, _, hv3, hc3⟩ := (R3.out.below HBL.out).byte hlt
        have u1 : v1 < 256 := O1.out v1 (List.mem_of_getElem? hv1)
        have u2 : v2 < 256 := O2.out v2 (List.mem_of_getElem? hv2)
        have u3 : v3 < 256 := O3.out v3 (List.mem_of_getElem? hv3)
        have HS := hid (half3_set L1.out L2.out L3.out hlt hv1 hv2 hv3)
        have q1 : bits .xor .u8 (v1 : Int) (v2 : Int) = ((v1 ^^^ v2 : Nat) : Int) := xor8 rfl rfl u1 u2 rfl
        have q2 : bits .xor .u8 ((v1 ^^^ v2 : Nat) : Int) (v3 : Int) = (((v1 ^^^ v2) ^^^ v3 : Nat) : Int) := xor8 rfl rfl (Nat.xor_lt_two_pow (n := 8) u1 u2) u3 rfl
        generalize (v1 ^^^ v2) ^^^ v3 = v at *
        generalize v1 ^^^ v2 = v12 at *
        obtain ⟨g', hgg, hgb, hcell, hfz, hst⟩ := HOW.out.at_ (by omega)
        obtain rfl : g = g' := by injection hgg with h; injection h
        have hcd := hcell k hlt
        rw [bv_at _ k (by rw [half3_len L1.out L2.out L3.out hk]; exact hlt)] at hcd
        have hfd := hfz k
        have HST : Hid (Own (wr.setCell ⟨g, k, none⟩ (.int .u8 (v : Int))) w.heap.size 5 (some ⟨g, 0, none⟩) n n (bv (half3 a1 a2 a3 n (k + 1)))) := hid (by rw [← HS.out, ← bv_set]; exact hst k _)
        have HBW : Hid (Below w.heap.size w (wr.setCell ⟨g, k, none⟩ (.int .u8 (v : Int)))) := hid (HBL.out.setCell (p := ⟨g, k, none⟩) hgb _)
        have j1 : (0 : Int) ≤ (k : Int) := Int.natCast_nonneg _
        have j2 : (k : Int) < (n1 : Int) := by omega
        have j3 : (k : Int) < (n2 : Int) := by omega
        have j4 : (k : Int) < (n3 : Int) := by omega
        have j5 : (k : Int) < (n : Int) := by omega
        clear hcell hfz hst hgg hv1 hv2 hv3 HS HOW HBL
        go_wp2_with fail
        go_region
        go_wp2_with fail
        go_roundw
        case rel => exact ⟨k + 1, by omega, by go_num, HST.out, HBW.out.drew⟩
        case measure => simp [intOf]; omega
      · obtain rfl : k = n := by omega
        have HD : Hid (Row wr wr.heap.size (some ⟨g, 0, none⟩) k (bv (xor3 a1 a2 a3))) := hid (by have := HOW.out.row; rwa [half3_end L1.out L2.out L3.out] at this)
        have hzr : w.heap.size ≤ wr.heap.size := HBL.out.size
        have S1 : Hid (Row wr wr.heap.size A1 k (bv a1)) := hid ((R1.out.below HBL.out).more hzr)
        have S2 : Hid (Row wr wr.heap.size A2 k (bv a2)) := hid ((R2.out.below HBL.out).more hzr)
        have S3 : Hid (Row wr wr.heap.size A3 k (bv a3)) := hid ((R3.out.below HBL.out).more hzr)
        have OD : Hid (Oct (xor3 a1 a2 a3)) := hid (oct_zip (oct_zip O1.out O2.out) O3.out)
        have x24 : bits .xor .u32 ((sum24 a1 : Nat) : Int) ((sum24 a2 : Nat) : Int) = ((sum24 a1 ^^^ sum24 a2 : Nat) : Int) := xor32 rfl rfl (Nat.lt_trans (sum24_lt O1.out) (by decide)) (Nat.lt_trans (sum24_lt O2.out) (by decide)) rfl
        have y24 : bits .xor .u32 ((sum24 a1 ^^^ sum24 a2 : Nat) : Int) ((sum24 a3 : Nat) : Int) = ((sum24 (xor3 a1 a2 a3) : Nat) : Int) := xor32 rfl rfl (Nat.lt_trans (Nat.xor_lt_two_pow (n := 24) (sum24_lt O1.out) (sum24_lt O2.out)) (by decide)) (Nat.lt_trans (sum24_lt O3.out) (by decide)) (lin24 (by rw [L1.out, L2.out]) (by rw [L2.out, L3.out]) O1.out O2.out O3.out)
        have x32 : bits .xor .u32 ((sum32 a1 : Nat) : Int) ((sum32 a2 : Nat) : Int) = ((sum32 a1 ^^^ sum32 a2 : Nat) : Int) := xor32 rfl rfl (sum32_lt O1.out) (sum32_lt O2.out) rfl
        have y32 : bits .xor .u32 ((sum32 a1 ^^^ sum32 a2 : Nat) : Int) ((sum32 a3 : Nat) : Int) = ((sum32 (xor3 a1 a2 a3) : Nat) : Int) := xor32 rfl rfl (Nat.xor_lt_two_pow (n := 32) (sum32_lt O1.out) (sum32_lt O2.out)) (sum32_lt O3.out) (lin32 (by rw [L1.out, L2.out]) (by rw [L2.out, L3.out]) O1.out O2.out O3.out)
        have T0 := hid (fun d os => Calls.regrown_of (sum24_any (some ⟨g, 0, none⟩) k k wr.heap.size _ (Sort.grow (redrawn wr d) os) (HD.out.below (below_regrown wr d os)) (below_regrown wr d os).size OD.out (by omega)))
        have T1 := hid (fun d os => Calls.regrown_of (sum24_any A1 k c1 wr.heap.size _ (Sort.grow (redrawn wr d) os) (S1.out.below (below_regrown wr d os)) (below_regrown wr d os).size O1.out (by omega)))
        have T2 := hid (fun d os => Calls.regrown_of (sum24_any A2 k c2 wr.heap.size _ (Sort.grow (redrawn wr d) os) (S2.out.below (below_regrown wr d os)) (below_regrown wr d os).size O2.out (by omega)))
        have T3 := hid (fun d os => Calls.regrown_of (sum24_any A3 k c3 wr.heap.size _ (Sort.grow (redrawn wr d) os) (S3.out.below (below_regrown wr d os)) (below_regrown wr d os).size O3.out (by omega)))
        have U0 := hid (fun d os => Calls.regrown_of (sum32_any (some ⟨g, 0, none⟩) k k wr.heap.size _ (Sort.grow (redrawn wr d) os) (HD.out.below (below_regrown wr d os)) (below_regrown wr d os).size OD.out (by omega)))
        have U1 := hid (fun d os => Calls.regrown_of (sum32_any A1 k c1 wr.heap.size _ (Sort.grow (redrawn wr d) os) (S1.out.below (below_regrown wr d os)) (below_regrown wr d os).size O1.out (by omega)))
        have U2 := hid (fun d os => Calls.regrown_of (sum32_any A2 k c2 wr.heap.size _ (Sort.grow (redrawn wr d) os) (S2.out.below (below_regrown wr d os)) (below_regrown wr d os).size O2.out (by omega)))
        have U3 := hid (fun d os => Calls.regrown_of (sum32_any A3 k c3 wr.heap.size _ (Sort.grow (redrawn wr d) os) (S3.out.below (below_regrown wr d os)) (below_regrown wr d os).size O3.out (by omega)))
        have j1 : (0 : Int) ≤ (k : Int) := Int.natCast_nonneg _
        have j2 : (k : Int) ≤ (c1 : Int) := by omega
        have j3 : (k : Int) ≤ (c2 : Int) := by omega
        have j4 : (k : Int) ≤ (c3 : Int) := by omega
        clear HD S1 S2 S3 OD R1 R2 R3 O1 O2 O3 L1 L2 L3 HOW
        generalize sum24 a1 ^^^ sum24 a2 = p24 at *
        generalize sum32 a1 ^^^ sum32 a2 = p32 at *
        generalize sum24 (xor3 a1 a2 a3) = d24 at *
        generalize sum32 (xor3 a1 a2 a3) = d32 at *
        generalize sum24 a1 = sa at *
        generalize sum24 a2 = sb at *
        generalize sum24 a3 = sc at *
        generalize sum32 a1 = ta at *
        generalize sum32 a2 = tb at *
        generalize sum32 a3 = tc at *
        go_wp2_with fail
        refine wp_region_quiet_below (by kernel_rfl) (by kernel_rfl) ?_
        repeat (quiet_step (first | with_reducible exact T0.out _ _ | with_reducible exact T1.out _ _ | with_reducible exact T2.out _ _ | with_reducible exact T3.out _ _ | with_reducible exact U0.out _ _ | with_reducible exact U1.out _ _ | with_reducible exact U2.out _ _ | with_reducible exact U3.out _ _))
        refine wpQuiet_nil ?_
        intro _ hw'
        obtain ⟨⟨dq, osq⟩, hw''⟩ := hw'
        subst hw''
        go_wp2
        go_ret
        exact ⟨rfl, HBL.out.trans ((below_regrown wr dq osq).mono hzr)⟩
end Go.Proofs.Ytlncjcipbijndaa
