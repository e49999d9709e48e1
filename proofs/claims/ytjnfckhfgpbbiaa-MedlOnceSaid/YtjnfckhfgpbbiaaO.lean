/-
  The walk of MedlOnce: it returns true at every schedule, slot and tick.
-/
import Derived.Test.YtjnfckhfgpbbiaaG
import Derived.Test.YtjnfckhfgpbbiaaR
namespace Go.Proofs.Ytjnfckhfgpbbiaa
open Go Go.RowKit
set_option maxRecDepth 100000 in
theorem once_bad (x : Md) (k t : Int) (w : World) (h : ¬ Ok x) : Calls Try.prog 4 #[mv x, .int .u64 k, .int .i64 t] w fun e w' => e = .returned (.bool true) ∧ Below w.heap.size w w' := by
  have HC := hid (fun w => (okE_bad h ▸ check_any x w : Calls Try.prog 15 #[mv x] w fun e w' => e = .returned (.int .i64 1) ∧ Below w.heap.size w w'))
  clear h
  go_enter Try.func4, Try.ntmps4
  go_wp2_with (first
    | (refine wpList_ldm rfl (.tmp 3) rfl rfl v3 ?_)
    | (go_at_call 15; (with_reducible refine (HC.out w2).mono ?_); rintro e w3 ⟨rfl, b3⟩; have v3 := v2.keep b3; have B3 : Hid (Below w.heap.size w w3) := hid (B2.out.trans (b3.mono B2.out.size)); clear v2 b3)
    | (refine wpList_ldm rfl (.tmp 3) rfl rfl v2 ?_)
    | (go_at_call 8; (with_reducible refine (live_any w1).mono ?_); rintro e w2 ⟨rfl, b2⟩; have v2 := v1.keep b2; have B2 : Hid (Below w.heap.size w w2) := hid (B1.out.trans (b2.mono B1.out.size)); clear v1 b2)
    | (refine wpList_ldm rfl (.tmp 3) rfl rfl v1 ?_)
    | (refine wpList_boxm (x := x) rfl (.tmp 0) rfl rfl ?_; intro w1 v1 b1 s1; have B1 : Hid (Below w.heap.size w w1) := hid b1; clear b1 s1))
  go_ret
  exact ⟨rfl, B3.out⟩
theorem and40 (t : Int) : 0 ≤ bits .and .i64 t 1099511627775 ∧ bits .and .i64 t 1099511627775 ≤ 1099511627775 := by
  have e : bits .and .i64 t 1099511627775 = IntKind.i64.wrap (((BitVec.ofInt 64 t).toNat &&& 1099511627775 : Nat) : Int) := by
    simp only [bits, BitVec.toNat_and]; rfl
  have a : (BitVec.ofInt 64 t).toNat &&& 1099511627775 ≤ 1099511627775 := Nat.and_le_right
  rw [e, IntKind.wrap_i64]
  omega
/-- Seventeen marks in block g: those of nodes whose slot is ahead of the j-th from K on. -/
def Marks (w : World) (g : Nat) (K n j : Int) : Prop := (∀ o : Nat, (o : Int) < n → w.cell? ⟨g, o, none⟩ = some (.bool (decide (((o : Int) - K) % n < j)))) ∧ w.there g 0 17
theorem info4 : (Try.prog.info? 4).map (fun i => (i.zero, i.size, i.bytes)) = some (some (.bool false), 1, 1) := by kernel_rfl
section
variable {w w' : World} {g : Nat} {K n j : Int}
theorem Marks.below (h : Marks w g K n j) {B : Nat} (hk : Below B w w') (hb : g < B) : Marks w' g K n j :=
  ⟨fun o ho => (hk.cell (p := ⟨g, o, none⟩) hb).trans (h.1 o ho), there_keep h.2 hb hk⟩
theorem Marks.lt (h : Marks w g K n j) : g < w.heap.size := World.block_lt_of_cell? w _ (Option.get_mem (h.2 0 (by omega)).1)
theorem wpList_mkb {ops : Array Oper} {rest : List Oper} {o : Oper} {a : Act} {Q : Exit → Act → World → Prop} (hg : o.guard = none) (y z : Operand) (ho : o.op = .makeSlice 35 y z) (hy : a.eval y = .int .i64 17) (hz : a.eval z = .int .i64 17)
    (h : ∀ g w', Hid (w.heap.size = g) → (∀ K n, 0 < n → n ≤ 17 → Marks w' g K n 0) → Below w.heap.size w w' → wpList Try.prog ops Q rest (a.put o.dst (.slice (some ⟨g, 0, none⟩) 17 17)) w') : wpList Try.prog ops Q (o :: rest) a w := by
  obtain ⟨i, hi0, hi1, hi2, hi3⟩ := info_parts info4
  refine wpList_make_full (P := Try.prog) w hg y z 35 ho w.heap.size 4 i (.bool false) 1 Try.underlying35 hi0 hi1 hi2 .i64 .i64 17 17 17 hy hz rfl rfl (by rw [hi3]; omega) (by unfold maxLen; omega) (Nat.le_refl _) fun w' h1 h2 => h _ w' (hid rfl) ?_ ?_
  · intro K n hn hn2
    have hc : ∀ o : Nat, o < 17 → w'.cell? ⟨w.heap.size, o, none⟩ = some (.bool false) := fun o ho => by
      have e := World.ownsRow.cellAt h1 (0 + o) (by omega)
      rw [Nat.zero_add] at e
      rw [e]
      simp only [madeCells, Array.toList_map, Array.toList_range, List.getElem?_map]
      rw [List.getElem?_range (by omega)]
      simp [Value.cells, Nat.mod_one]
    refine ⟨fun o ho => ?_, fun o ho => ⟨?_, ?_⟩⟩
    · rw [hc o (by omega), decide_eq_false (by have := Int.emod_nonneg ((o : Int) - K) (show n ≠ 0 by omega); omega)]
    · rw [Nat.zero_add, hc o ho]; rfl
    · exact World.ownsRow.frozenAt h1 _
  · exact (Below.refl _ _).grown h2 (Nat.le_refl _) (fun k hk => by cases hk)
end
theorem mark_now (K n j O : Int) (hj : 0 ≤ j) (hj2 : j < n) (hO : (K + j) % n = O) : (O - K) % n = j := by
  have e : O - K = j - n * ((K + j) / n) := by have := Int.emod_add_mul_ediv (K + j) n; omega
  rw [e, Int.sub_mul_emod_self_left]; exact Int.emod_eq_of_lt hj hj2
theorem mark_then (K n j O : Int) (h0 : 0 ≤ O) (h1 : O < n) (h : (O - K) % n = j) : (K + j) % n = O := by
  subst h
  rw [Int.add_emod_emod, show K + (O - K) = O by omega]; exact Int.emod_eq_of_lt h0 h1
theorem marks_set {w : World} {g : Nat} {K n j : Int} {o : Nat} (h : Marks w g K n j) (_ : 0 ≤ j) (_ : j < n) (ho : ((o : Int) - K) % n = j) (o1 : (o : Int) < n) (o2 : o < 17) : Marks (w.setCell ⟨g, o, none⟩ (.bool true)) g K n (j + 1) := by
  refine ⟨fun p hp => ?_, World.there_setCells h.2 g o [.bool true]⟩
  by_cases e : p = o
  · subst e
    rw [World.cell?_setCell_same' w _ _ (by rw [h.1 p hp]; rfl), ho, decide_eq_true (by omega)]
  · rw [World.cell?_setCell_other (w := w) (a := ⟨g, o, none⟩) (b := ⟨g, p, none⟩) (h := fun x => e (congrArg Addr.off x).symm), h.1 p hp]
    have ne : ((p : Int) - K) % n ≠ j := fun x => by
      have a := mark_then K n j p (by omega) hp x
      have b := mark_then K n j o (by omega) o1 ho
      omega
    have d : (((p : Int) - K) % n < j) ↔ (((p : Int) - K) % n < j + 1) := by omega
    rw [decide_eq_decide.2 d]
def OnceRel (x : Md) (K i0 : Int) (w : World) (g : Nat) (many i : Value) (wr : World) : Prop :=
  ∃ j c : Int, many = .int .i64 c ∧ c = (if i0 < j then 1 else 0) ∧ i = .int .i64 j ∧ 0 ≤ j ∧ j ≤ x.n ∧ Below w.heap.size w wr ∧ VarM wr w.heap.size x ∧ Marks wr g K x.n j
set_option maxRecDepth 100000 in
set_option maxHeartbeats 1000000 in
theorem once_walk (n s l f d k K Q t T q r i0 : Int) (w : World) (h : Ok ⟨n, s, l, f, d⟩) (hk : 0 ≤ k) (hK : k % 2147483648 = K) (_ : 0 ≤ K) (_ : K ≤ 2147483647) (hQ : n * s = Q) (hi0 : (n - 1 - K) % n = i0) (hT : bits .and .i64 t 1099511627775 = T) (hq : T / s = q) (hr : T % s = r) :
    Calls Try.prog 4 #[mv ⟨n, s, l, f, d⟩, .int .u64 k, .int .i64 t] w fun e w' => e = .returned (.bool true) ∧ Below w.heap.size w w' := by
  have HK := hid h
  have HC := hid (fun w => (okE_ok h ▸ check_any ⟨n, s, l, f, d⟩ w : Calls Try.prog 15 #[mv ⟨n, s, l, f, d⟩] w fun e w' => e = .returned (.int .i64 0) ∧ Below w.heap.size w w'))
  have HR := hid (fun w => round_ok n s l f d Q w h hQ)
  obtain ⟨h1, h2, h3, h4, h5, h6, h7, h8, h9⟩ := h
  simp only at h1 h2 h3 h4 h5 h6 h7 h8 h9
  have hc := mul_small (show 0 ≤ n by omega) h2 (show 0 ≤ s by omega) h4
  rw [hQ] at hc
  obtain ⟨Q0, Q1⟩ := hc
  have HQ := hid hQ
  have HT := hid hT
  have Hq := hid hq
  have Hr := hid hr
  have HI := hid hi0
  have I0 : Hid (0 ≤ i0 ∧ i0 < n) := hid ⟨hi0 ▸ Int.emod_nonneg _ (by omega), hi0 ▸ Int.emod_lt_of_pos _ (by omega)⟩
  clear h5 h6 h7 h8 h9 hQ hi0 hT hq hr
  go_enter Try.func4, Try.ntmps4
  go_wp2_with (first
    | (refine wpList_mkb rfl _ _ rfl rfl rfl ?_; intro g x1 sg m1 b1; have y1 := v3.keep b1; have Y1 : Hid (Below w.heap.size w x1) := hid (B3.out.trans (b1.mono B3.out.size)); have G1 : Hid (w.heap.size < g) := hid (sg.out ▸ v3.lt); have M1 := hid (m1 K n (by omega) (by omega)); clear c0; have c0 : x1.cell? ⟨w.heap.size, 0, none⟩ = some (.int .i64 n) := y1.c0; clear v3 b1 m1 sg)
    | (refine wpList_ldm rfl (.tmp 3) rfl rfl v3 ?_)
    | (go_at_call 15; (with_reducible refine (HC.out w2).mono ?_); rintro e w3 ⟨rfl, b3⟩; have v3 := v2.keep b3; have B3 : Hid (Below w.heap.size w w3) := hid (B2.out.trans (b3.mono B2.out.size)); clear v2 b3 c0; have c0 : w3.cell? ⟨w.heap.size, 0, none⟩ = some (.int .i64 n) := v3.c0)
    | (refine wpList_ldm rfl (.tmp 3) rfl rfl v2 ?_)
    | (go_at_call 8; (with_reducible refine (live_any w1).mono ?_); rintro e w2 ⟨rfl, b2⟩; have v2 := v1.keep b2; have B2 : Hid (Below w.heap.size w w2) := hid (B1.out.trans (b2.mono B1.out.size)); clear v1 b2 c0; have c0 : w2.cell? ⟨w.heap.size, 0, none⟩ = some (.int .i64 n) := v2.c0)
    | (refine wpList_ldm rfl (.tmp 3) rfl rfl v1 ?_)
    | (refine wpList_boxm (x := ⟨n, s, l, f, d⟩) rfl (.tmp 0) rfl rfl ?_; intro w1 v1 b1 s1; have B1 : Hid (Below w.heap.size w w1) := hid b1; have c0 : w1.cell? ⟨w.heap.size, 0, none⟩ = some (.int .i64 n) := v1.c0; clear b1 s1))
  have W1 := hid (show OnceRel ⟨n, s, l, f, d⟩ K i0 w g (.int .i64 0) (.int .i64 0) x1 from ⟨0, 0, rfl, by rw [if_neg (by have := I0.out; omega)], rfl, by omega, by show (0 : Int) ≤ n; omega, Y1.out, y1, M1.out⟩)
  clear y1 c0 HC Y1 M1
  go_loopw [9, 37] (OnceRel ⟨n, s, l, f, d⟩ K i0 w g) (fun _ i _ => (n - intOf i).toNat)
  case atStart => exact W1.out
  case round =>
    obtain ⟨j, c, rfl, hc, rfl, j0, j1, bel, vr, mr⟩ := hrel
    simp only at j1 mr
    have BR := hid bel
    have VR := hid vr
    have MR := hid mr
    have HC := hid hc
    have c0 : 0 ≤ c := by rw [hc]; split <;> omega
    have c1 : c ≤ 1 := by rw [hc]; split <;> omega
    clear bel vr mr hc W1
    by_cases hj : j < n
    · have o1 := Int.emod_nonneg (K + j) (show n ≠ 0 by omega)
      have o2 := Int.emod_lt_of_pos (K + j) (show 0 < n by omega)
      obtain ⟨o, ho⟩ := Int.eq_ofNat_of_zero_le o1
      have hO : (K + j) % n = (o : Int) := ho
      rw [hO] at o1 o2
      clear ho
      have HO := hid (fun w => own_ok n s l f d (K + j) o w HK.out (by omega) (by omega) hO)
      have HL := hid (fun w => last_ok n s l f d (K + j) o _ w HK.out (by omega) (by omega) hO rfl)
      have HN := hid (mark_now K n j o j0 hj hO)
      have IO : Hid ((o : Int) = n - 1 ↔ j = i0) := hid ⟨fun e => by rw [← HN.out, ← HI.out, e], fun e => by rw [← hO, e, mark_then K n i0 (n - 1) (by omega) (by omega) HI.out]⟩
      clear hO
      have o17 : o < 17 := by omega
      by_cases hi : j = i0
      · have hL : ((o : Int) == n - 1) = true := by have := IO.out.2 hi; simp [this]
        rw [hL] at HL
        have HJ := hid hi
        clear IO hL hi
        go_wp2_with (first
          | (go_at_call 17; (with_reducible refine (HL.out _).mono ?_); rintro e x4 ⟨rfl, b4⟩; have y4 := V3.out.keep b4; have m4 := M3.out.below b4 M3.out.lt; have Y4 : Hid (Below w.heap.size w x4) := hid (Y3.out.trans (b4.mono Y3.out.size)); clear b4 V3 M3 Y3)
          | (refine wpList_ldm rfl (.tmp 3) rfl rfl V3.out ?_)
          | (go_at_call 16; (with_reducible refine (HO.out wr).mono ?_); rintro e x2 ⟨rfl, b2⟩; have y2 := VR.out.keep b2; have m2 := MR.out.below b2 MR.out.lt; have Y2 : Hid (Below w.heap.size w x2) := hid (BR.out.trans (b2.mono BR.out.size)); have p0 : x2.cell? ⟨w.heap.size, 0, none⟩ = some (.int .i64 n) := y2.c0; have p1 : x2.cell? ⟨g, o, none⟩ = some (.bool false) := (m2.1 o o2).trans (by rw [HN.out, decide_eq_false (Int.lt_irrefl j)]); have p2 : x2.frozen? ⟨g, o, none⟩ = false := Nat.zero_add o ▸ (m2.2 o o17).2; have M3 := hid (marks_set m2 j0 hj HN.out o2 o17); have V3 := hid (y2.other (b := g) (Below.heap_setCell x2 ⟨g, o, none⟩ (.bool true)) (Nat.ne_of_lt G1.out)); have Y3 : Hid (Below w.heap.size w (x2.setCell ⟨g, o, none⟩ (.bool true))) := hid (Y2.out.setCell (p := ⟨g, o, none⟩) (Nat.le_of_lt G1.out) _); clear b2 y2 m2 Y2)
          | (refine wpList_ldm rfl (.tmp 3) rfl rfl VR.out ?_))
        go_roundw
        case rel => exact ⟨j + 1, c + 1, rfl, by rw [HC.out, HJ.out, if_neg (Int.lt_irrefl i0), if_pos (by omega)]; rfl, rfl, by omega, by show j + 1 ≤ n; omega, Y4.out, y4, m4⟩
        case measure => simp [intOf]; omega
      · have hL : ((o : Int) == n - 1) = false := by have := fun x => hi (IO.out.1 x); simpa using this
        rw [hL] at HL
        have HJ := hid hi
        clear IO hL hi
        go_wp2_with (first
          | (go_at_call 17; (with_reducible refine (HL.out _).mono ?_); rintro e x4 ⟨rfl, b4⟩; have y4 := V3.out.keep b4; have m4 := M3.out.below b4 M3.out.lt; have Y4 : Hid (Below w.heap.size w x4) := hid (Y3.out.trans (b4.mono Y3.out.size)); clear b4 V3 M3 Y3)
          | (refine wpList_ldm rfl (.tmp 3) rfl rfl V3.out ?_)
          | (go_at_call 16; (with_reducible refine (HO.out wr).mono ?_); rintro e x2 ⟨rfl, b2⟩; have y2 := VR.out.keep b2; have m2 := MR.out.below b2 MR.out.lt; have Y2 : Hid (Below w.heap.size w x2) := hid (BR.out.trans (b2.mono BR.out.size)); have p0 : x2.cell? ⟨w.heap.size, 0, none⟩ = some (.int .i64 n) := y2.c0; have p1 : x2.cell? ⟨g, o, none⟩ = some (.bool false) := (m2.1 o o2).trans (by rw [HN.out, decide_eq_false (Int.lt_irrefl j)]); have p2 : x2.frozen? ⟨g, o, none⟩ = false := Nat.zero_add o ▸ (m2.2 o o17).2; have M3 := hid (marks_set m2 j0 hj HN.out o2 o17); have V3 := hid (y2.other (b := g) (Below.heap_setCell x2 ⟨g, o, none⟩ (.bool true)) (Nat.ne_of_lt G1.out)); have Y3 : Hid (Below w.heap.size w (x2.setCell ⟨g, o, none⟩ (.bool true))) := hid (Y2.out.setCell (p := ⟨g, o, none⟩) (Nat.le_of_lt G1.out) _); clear b2 y2 m2 Y2)
          | (refine wpList_ldm rfl (.tmp 3) rfl rfl VR.out ?_))
        go_roundw
        case rel => exact ⟨j + 1, c, rfl, by have := HJ.out; rw [HC.out]; split <;> split <;> omega, rfl, by omega, by show j + 1 ≤ n; omega, Y4.out, y4, m4⟩
        case measure => simp [intOf]; omega
    · have ec : c = 1 := by rw [HC.out, if_pos (by have := I0.out; omega)]
      subst ec
      clear HC c0 c1 MR
      have hT := HT.out
      have T0 : 0 ≤ T := hT ▸ (and40 t).1
      have T1 : T ≤ 1099511627775 := hT ▸ (and40 t).2
      have q0 : 0 ≤ q := Hq.out ▸ Int.ediv_nonneg T0 (by omega)
      by_cases hq : 4294967296 < q
      · have HA := hid (fun w => at_over n s l f d T q w HK.out T0 (by omega) Hq.out hq)
        go_wp2_with (first
          | (go_at_call 9; (with_reducible refine (HA.out wr).mono ?_); rintro e x2 ⟨rfl, b2⟩)
          | (refine wpList_ldm rfl (.tmp 3) rfl rfl VR.out ?_))
        go_ret
        exact ⟨rfl, BR.out.trans (b2.mono BR.out.size)⟩
      · have HA := hid (fun w => at_ok n s l f d T q r w HK.out T0 (by omega) Hq.out Hr.out q0 (by omega))
        have hm := mul_small q0 (show q ≤ 4294967296 by omega) (show 0 ≤ s by omega) h4
        have HB := hid (fun w => begin_ok n s l f d q _ w HK.out q0 (by omega) rfl)
        have r0 : 0 ≤ r := Hr.out ▸ Int.emod_nonneg _ (by omega)
        have r1 : r < s := Hr.out ▸ Int.emod_lt_of_pos _ (by omega)
        have hZ : q * s + r = T := by rw [← Hq.out, ← Hr.out]; exact Int.ediv_mul_add_emod T s
        generalize q * s = Z at *
        have eZ : decide (Z + r = T) = true := decide_eq_true hZ
        have HZ := hid hZ
        clear hZ
        have eQ := HQ.out
        go_wp2_with (first
          | (go_at_call 19; (with_reducible refine (HR.out x3).mono ?_); rintro e x4 ⟨rfl, b4⟩; have y4 := y3.keep b4; have Y4 : Hid (Below w.heap.size w x4) := hid (Y3.out.trans (b4.mono Y3.out.size)); have p0 : x4.cell? ⟨w.heap.size, 0, none⟩ = some (.int .i64 n) := y4.c0; have p1 : x4.cell? ⟨w.heap.size, 1, none⟩ = some (.int .i64 s) := y4.c1; clear b4 y3 y4)
          | (refine wpList_ldm rfl (.tmp 3) rfl rfl y3 ?_)
          | (go_at_call 18; (with_reducible refine (HB.out x2).mono ?_); rintro e x3 ⟨rfl, b3⟩; have y3 := y2.keep b3; have Y3 : Hid (Below w.heap.size w x3) := hid (Y2.out.trans (b3.mono Y2.out.size)); clear b3 y2)
          | (refine wpList_ldm rfl (.tmp 3) rfl rfl y2 ?_)
          | (go_at_call 9; (with_reducible refine (HA.out wr).mono ?_); rintro e x2 ⟨rfl, b2⟩; have y2 := VR.out.keep b2; have Y2 : Hid (Below w.heap.size w x2) := hid (BR.out.trans (b2.mono BR.out.size)); clear b2)
          | (refine wpList_ldm rfl (.tmp 3) rfl rfl VR.out ?_))
        go_ret
        exact ⟨rfl, Y4.out⟩
theorem once_row {w : World} (n s l f d : Int) (_ : In64 n) (_ : In64 s) (_ : In64 l) (_ : In64 f) (_ : In64 d) (k : Int) (k1 : 0 ≤ k) (_ : k ≤ 18446744073709551615) (t : Int) (_ : -9223372036854775808 ≤ t) (_ : t ≤ 9223372036854775807) :
    Calls Try.prog 4 #[mv ⟨n, s, l, f, d⟩, .int .u64 k, .int .i64 t] w fun e w' => e = .returned (.bool true) ∧ Below w.heap.size w w' := by
  by_cases h : Ok ⟨n, s, l, f, d⟩
  · exact once_walk n s l f d k _ _ t _ _ _ _ w h k1 rfl (by omega) (by omega) rfl rfl rfl rfl rfl
  · exact once_bad _ k t w h
end Go.Proofs.Ytjnfckhfgpbbiaa
