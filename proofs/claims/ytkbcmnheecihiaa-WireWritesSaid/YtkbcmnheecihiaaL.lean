/-
  The walk of WireBack.
-/
import Derived.Test.YtkbcmnheecihiaaI
import Derived.Test.YtkbcmnheecihiaaR
namespace Go.Proofs.Ytkbcmnheecihiaa
open Go Go.RowKit

def OkP (w : World) (e : Ending) (w' : World) : Prop := e = .returned (.bool true) ∧ Below w.heap.size w w'

theorem varies_app (a b : List Nat) : varies (a ++ b) = varies a ++ varies b := by simp [varies]
theorem varies_cons (x : Nat) (b : List Nat) : varies (x :: b) = vary x ++ varies b := by simp [varies]
theorem varies_drop (us bs ns : List Nat) (k : Nat) (hk : k < ns.length) :
    (us ++ varies ns ++ bs).drop (us.length + (varies (ns.take k)).length) = vary ns[k] ++ (varies (ns.drop (k + 1)) ++ bs) := by
  have e : ns = ns.take k ++ (ns[k] :: ns.drop (k + 1)) := by
    rw [← List.drop_eq_getElem_cons hk, List.take_append_drop]
  have e2 : varies ns = varies (ns.take k) ++ (vary ns[k] ++ varies (ns.drop (k + 1))) := by
    have := congrArg varies e
    rwa [varies_app, varies_cons] at this
  rw [e2, List.append_assoc, List.append_assoc, ← List.length_append, List.append_assoc, ← List.append_assoc us]
  rw [List.drop_left]

theorem few2 (A0 A1 : Option Addr) (n0 c0 n1 c1 g : Nat) (r : Bool) (w : World) (hg : g = w.heap.size) (h0 : n0 ≤ 9223372036854775807) (h1 : n1 ≤ 9223372036854775807) (hr : (decide (n0 ≤ 3000) && decide (n1 ≤ 3000)) = r) :
    Calls Try.prog 9 #[.slice (some ⟨g, 0, none⟩) 2 2] (w.alloc (.cells #[.slice A0 n0 c0, .slice A1 n1 c1] 22)) fun e w' => e = .returned (.bool r) ∧ (w.alloc (.cells #[.slice A0 n0 c0, .slice A1 n1 c1] 22)) = w' :=
  few_any _ 2 2 (g + 1) [(A0, n0, c0), (A1, n1, c1)] r _ (Row.laid' w 22 [.slice A0 n0 c0, .slice A1 n1 c1] g hg) (by omega) (by intro t ht; simp at ht; rcases ht with rfl | rfl <;> assumption) (by simpa using hr)

set_option maxRecDepth 100000 in
set_option maxHeartbeats 4000000 in
theorem back_far (A0 A1 A2 A3 : Option Addr) (n0 c0 n1 c1 n2 c2 n3 c3 : Nat) (kd : Int) (wd : Int) (w : World) (h0 : n0 ≤ 9223372036854775807) (h1 : n1 ≤ 9223372036854775807) (h2 : n2 ≤ 1000000000000000) (h3 : n3 ≤ 1000000000000000)
    (hf : ¬ (n0 ≤ 3000 ∧ n1 ≤ 3000) ∨ 500 < n2 + n3) : Calls Try.prog 4 #[.slice A0 n0 c0, .slice A1 n1 c1, .slice A2 n2 c2, .slice A3 n3 c3, .int .u8 kd, .int .i64 wd] w (OkP w) := by
  by_cases hs : n0 ≤ 3000 ∧ n1 ≤ 3000
  · have hlt : 500 < n2 + n3 := by rcases hf with h | h; exact absurd hs h; exact h
    have HFW : Hid ((decide (n0 ≤ 3000) && decide (n1 ≤ 3000)) = true) := hid (by simp; omega)
    clear hf
    go_enter Try.func4, Try.ntmps4
    go_wp2_with fail
    refine (live_any w).mono ?_
    rintro e w0 ⟨rfl, bel0⟩
    have HB0 := hid bel0
    clear bel0
    go_wp2_with fail
    refine (few2 A0 A1 n0 c0 n1 c1 _ true w0 rfl h0 h1 HFW.out).mono ?_
    rintro e w1 ⟨rfl, rfl⟩
    go_wp2_with fail
    go_ret
    exact ⟨rfl, HB0.out.alloc HB0.out.size _⟩
  · have HFW : Hid ((decide (n0 ≤ 3000) && decide (n1 ≤ 3000)) = false) := hid (by simp; omega)
    clear hf
    go_enter Try.func4, Try.ntmps4
    go_wp2_with fail
    refine (live_any w).mono ?_
    rintro e w0 ⟨rfl, bel0⟩
    have HB0 := hid bel0
    clear bel0
    go_wp2_with fail
    refine (few2 A0 A1 n0 c0 n1 c1 _ false w0 rfl h0 h1 HFW.out).mono ?_
    rintro e w1 ⟨rfl, rfl⟩
    go_wp2_with fail
    go_ret
    exact ⟨rfl, HB0.out.alloc HB0.out.size _⟩
theorem rec_kind (us bs r : List Nat) (kd : Nat) : (us ++ rcd kd bs ++ r).getD us.length 0 = kd := by
  rw [List.append_assoc]; simp [rcd, List.getD]
theorem rec_body (us bs r : List Nat) (kd : Nat) : ((us ++ rcd kd bs ++ r).take (us.length + (rcd kd bs).length)).drop (us.length + 1 + (vary bs.length).length) = bs := by
  have e : (us ++ rcd kd bs ++ r).take (us.length + (rcd kd bs).length) = us ++ rcd kd bs := by
    rw [← List.length_append, List.take_left]
  have e2 : us ++ rcd kd bs = (us ++ [kd] ++ vary bs.length) ++ bs := by simp [rcd]
  have e3 : us.length + 1 + (vary bs.length).length = (us ++ [kd] ++ vary bs.length).length := by simp; omega
  rw [e, e2, e3, List.drop_left]
theorem fix_back (us : List Nat) (x wd : Nat) (hx : x < 256 ^ wd) : fxv 0 (((us ++ fixb x wd).drop us.length).take wd) = x := by
  rw [List.drop_left, List.take_of_length_le (by rw [fixb_len]; omega)]
  exact fxv_fixb x wd 0 (by rw [Nat.div_eq_of_lt hx])

set_option maxRecDepth 100000 in
set_option maxHeartbeats 8000000 in
theorem back_near (A0 A1 A2 A3 : Option Addr) (n0 c0 n1 c1 n2 c2 n3 c3 : Nat) (us bs ns : List Nat) (ss : List Int) (kd : Nat) (wd : Int) (w : World)
    (r0 : Row w w.heap.size A0 n0 (bv us)) (r1 : Row w w.heap.size A1 n1 (bv bs)) (r2 : Row w w.heap.size A2 n2 (uv ns)) (r3 : Row w w.heap.size A3 n3 (sv ss)) (o0 : Oct us) (o1 : Oct bs) (hx2 : ∀ x ∈ ns, x < 18446744073709551616)
    (hx3 : ∀ x ∈ ss, -9223372036854775808 ≤ x ∧ x ≤ 9223372036854775807) (hkd : kd < 256) (hw1 : -9223372036854775808 ≤ wd) (hw2 : wd ≤ 9223372036854775807)
    (h0 : n0 ≤ 3000) (h1 : n1 ≤ 3000) (h23 : n2 + n3 ≤ 500) : Calls Try.prog 4 #[.slice A0 n0 c0, .slice A1 n1 c1, .slice A2 n2 c2, .slice A3 n3 c3, .int .u8 (kd : Int), .int .i64 wd] w (OkP w) := by
  have HFW : Hid ((decide (n0 ≤ 3000) && decide (n1 ≤ 3000)) = true) := hid (by simp; omega)
  have l0 := r0.1
  have l1 := r1.1
  have l2 := r2.1
  have l3 := r3.1
  rw [bv_len] at l0 l1
  rw [uv_len] at l2
  rw [sv_len] at l3
  have L0 := hid l0
  have L1 := hid l1
  have L2 := hid l2
  have L3 := hid l3
  have R0 := hid r0
  have R1 := hid r1
  have R2 := hid r2
  have R3 := hid r3
  have X2 := hid hx2
  have X3 := hid hx3
  have O0 := hid o0
  have O1 := hid o1
  clear l0 l1 l2 l3 r0 r1 r2 r3 hx2 hx3 o0 o1
  go_enter Try.func4, Try.ntmps4
  go_wp2_with fail
  refine (live_any w).mono ?_
  rintro e w0 ⟨rfl, bel0⟩
  have HB0 := hid bel0
  clear bel0
  go_wp2_with fail
  refine (few2 A0 A1 n0 c0 n1 c1 _ true w0 rfl (by omega) (by omega) HFW.out).mono ?_
  rintro e w1 ⟨rfl, rfl⟩
  have HB1 : Hid (Below w.heap.size w (w0.alloc (.cells #[.slice A0 n0 c0, .slice A1 n1 c1] 22))) := hid (HB0.out.alloc HB0.out.size _)
  clear HB0
  go_wp2_with fail
  generalize (w0.alloc (.cells #[.slice A0 n0 c0, .slice A1 n1 c1] 22)) = W at HB1 ⊢
  refine (vary_any A0 A2 n0 c0 n2 c2 w.heap.size w.heap.size us ns W (R0.out.below HB1.out) HB1.out.size (R2.out.below HB1.out) HB1.out.size X2.out (by omega) (by omega)).mono ?_
  rintro e w2 ⟨A4, n4, c4, rfl, own4, bel4⟩
  have e4 : n4 = n0 + (varies ns).length := by have := own4.len; rw [bv_len, List.length_append, L0.out] at this; omega
  have b4 : (varies ns).length ≤ 10 * n2 := by have := varies_len ns X2.out; have := L2.out; omega
  have HB2 : Hid (Below w.heap.size w w2) := hid (HB1.out.trans (bel4.mono HB1.out.size))
  have HO4 := hid own4
  have hsz : W.heap.size ≤ w2.heap.size := bel4.size
  have hwz : w.heap.size ≤ W.heap.size := HB1.out.size
  have E4 := hid e4
  have hn4 : n4 ≤ 8000 := by omega
  clear e4 own4 bel4 HB1 b4
  go_wp2_with (at_builtin; refine wpList_app _ rfl (.tmp 56) (.tmp 57) 22 rfl W.heap.size 5 (.int .u8 0) 1 Try.underlying22 info5 rfl A4 n4 c4 _ rfl HO4.out w.heap.size A1 n1 c1 (bv bs) rfl (R1.out.below HB2.out) (bv_one bs) (by omega) (by omega) hsz ?_; intro A5 c5 w3 own5 bel5)
  have HB3 : Hid (Below w.heap.size w w3) := hid (HB2.out.trans (bel5.mono hwz))
  rw [← bv_app] at own5
  have HR5 : Hid (Row w3 w3.heap.size A5 (n4 + n1) (bv (us ++ varies ns ++ bs))) := hid own5.row
  have HOC : Hid (Oct (us ++ varies ns ++ bs)) := hid ((O0.out.app (varies_oct ns)).app O1.out)
  clear own5 bel5 HO4 HB2 hsz hwz
  go_loop [15, 63] (fun a i => ∃ k : Nat, k ≤ n2 ∧ i = .int .i64 (k : Int) ∧ a = .int .i64 ((n0 + (varies (ns.take k)).length : Nat) : Int)) (fun _ i => n2 - (intOf i).toNat)
  case atStart => exact ⟨0, Nat.zero_le _, rfl, by simp [varies]⟩
  case round =>
    obtain ⟨k, hk, rfl, rfl⟩ := hrel
    by_cases hlt : k < n2
    · obtain ⟨b, o, u, rfl, hbb, hu, hcell⟩ := (R2.out.below HB3.out).at_ hlt
      have hkn : k < ns.length := by have := L2.out; omega
      obtain ⟨x, hxx⟩ : ∃ x, x = ns[k] := ⟨_, rfl⟩
      have hu' : u = .int .u64 (x : Int) := by
        simp only [uv, List.getElem?_map, List.getElem?_eq_getElem hkn] at hu
        rw [hxx]; simpa using hu.symm
      subst hu'
      have hx64 : x < 18446744073709551616 := by rw [hxx]; exact X2.out _ (List.getElem_mem hkn)
      obtain ⟨p, hp⟩ : ∃ p, p = n0 + (varies (ns.take k)).length := ⟨_, rfl⟩
      have HP := hid hp
      obtain ⟨q, hq⟩ : ∃ q, q = p + (vary x).length := ⟨_, rfl⟩
      have HT : Hid (tv true 0 p ((us ++ varies ns ++ bs).drop p) = (x, q, 0)) := hid (by
        have := varies_drop us bs ns k hkn
        rw [L0.out] at this
        rw [hq, hp, this, ← hxx, tv_vary x hx64])
      have HS : Hid (n0 + (varies (ns.take (k + 1))).length = q) := hid (by
        rw [List.take_succ_eq_append_getElem hkn, varies_snoc, List.length_append, ← hxx, hq, hp]; omega)
      rw [← hp]
      clear hxx hu hp hq
      go_wp2_with (go_at_call 19; refine (takeVary_3 A5 (n4 + n1) c5 w3.heap.size p x q 0 _ _ HR5.out HOC.out (by omega) HT.out).mono ?_; rintro e w' ⟨rfl, rfl⟩)
      go_round
      case rel => exact ⟨k + 1, by omega, by go_num, by rw [HS.out]⟩
      case measure => simp [intOf]; omega
    · have e5 : n0 + (varies (ns.take k)).length = n4 := by rw [E4.out, List.take_of_length_le (by have := L2.out; omega)]
      rw [e5]
      clear e5 HR5 HOC E4
      go_wp2_with fail
      clear hn4
      refine (sign_any A0 A3 n0 c0 n3 c3 w.heap.size w.heap.size us ss w3 (R0.out.below HB3.out) HB3.out.size (R3.out.below HB3.out) HB3.out.size X3.out (by omega) (by omega)).mono ?_
      rintro e w4 ⟨A6, n6, c6, rfl, own6, bel6⟩
      have x64 : ∀ x ∈ ss.map fo, x < 18446744073709551616 := by
        intro x hx
        obtain ⟨y, hy, rfl⟩ := List.mem_map.1 hx
        have := X3.out y hy
        exact fo_lt y this.1 this.2
      have e6 : n6 = n0 + (varies (ss.map fo)).length := by have := own6.len; rw [bv_len, List.length_append, L0.out] at this; omega
      have b6 : (varies (ss.map fo)).length ≤ 10 * n3 := by have := varies_len (ss.map fo) x64; rw [List.length_map, L3.out] at this; omega
      have HB4 : Hid (Below w.heap.size w w4) := hid (HB3.out.trans (bel6.mono HB3.out.size))
      have HO6 := hid own6
      have hsz : w3.heap.size ≤ w4.heap.size := bel6.size
      have hwz : w.heap.size ≤ w3.heap.size := HB3.out.size
      have E6 := hid e6
      have hn6 : n6 ≤ 8000 := by omega
      clear e6 own6 bel6 HB3 b6 x64
      go_wp2_with (at_builtin; refine wpList_app _ rfl (.tmp 92) (.tmp 93) 22 rfl w3.heap.size 5 (.int .u8 0) 1 Try.underlying22 info5 rfl A6 n6 c6 _ rfl HO6.out w.heap.size A1 n1 c1 (bv bs) rfl (R1.out.below HB4.out) (bv_one bs) (by omega) (by omega) hsz ?_; intro A7 c7 w5 own7 bel7)
      have HB5 : Hid (Below w.heap.size w w5) := hid (HB4.out.trans (bel7.mono hwz))
      rw [← bv_app] at own7
      have HR7 : Hid (Row w5 w5.heap.size A7 (n6 + n1) (bv (us ++ varies (ss.map fo) ++ bs))) := hid own7.row
      have HOC : Hid (Oct (us ++ varies (ss.map fo) ++ bs)) := hid ((O0.out.app (varies_oct _)).app O1.out)
      clear own7 bel7 HO6 HB4 hsz hwz hk hlt
      go_loop [15, 99] (fun a i => ∃ k : Nat, k ≤ n3 ∧ i = .int .i64 (k : Int) ∧ a = .int .i64 ((n0 + (varies ((ss.take k).map fo)).length : Nat) : Int)) (fun _ i => n3 - (intOf i).toNat)
      case atStart => exact ⟨0, Nat.zero_le _, rfl, by simp [varies]⟩
      case round =>
        obtain ⟨k, hk, rfl, rfl⟩ := hrel
        by_cases hlt : k < n3
        · obtain ⟨b, o, u, rfl, hbb, hu, hcell⟩ := (R3.out.below HB5.out).at_ hlt
          have hkn : k < ss.length := by have := L3.out; omega
          have hkm : k < (ss.map fo).length := by rw [List.length_map]; exact hkn
          obtain ⟨x, hxx⟩ : ∃ x, x = ss[k] := ⟨_, rfl⟩
          have hu' : u = .int .i64 x := by
            simp only [sv, List.getElem?_map, List.getElem?_eq_getElem hkn] at hu
            rw [hxx]; simpa using hu.symm
          subst hu'
          have hx3 : -9223372036854775808 ≤ x ∧ x ≤ 9223372036854775807 := by rw [hxx]; exact X3.out _ (List.getElem_mem hkn)
          have hx64 : fo x < 18446744073709551616 := fo_lt x hx3.1 hx3.2
          obtain ⟨p, hp⟩ : ∃ p, p = n0 + (varies ((ss.take k).map fo)).length := ⟨_, rfl⟩
          have HP := hid hp
          obtain ⟨q, hq⟩ : ∃ q, q = p + (vary (fo x)).length := ⟨_, rfl⟩
          have HT : Hid (tv true 0 p ((us ++ varies (ss.map fo) ++ bs).drop p) = (fo x, q, 0)) := hid (by
            have := varies_drop us bs (ss.map fo) k hkm
            rw [L0.out, List.getElem_map, ← hxx, ← List.map_take] at this
            rw [hq, hp, this, tv_vary (fo x) hx64])
          have HS : Hid (n0 + (varies ((ss.take (k + 1)).map fo)).length = q) := hid (by
            rw [List.take_succ_eq_append_getElem hkn, List.map_append, List.map_singleton, varies_snoc, List.length_append, ← hxx, hq, hp]; omega)
          have HU := hid (takeSign_3 A7 (n6 + n1) c7 w5.heap.size p (fo x) q 0 _ _ HR7.out HOC.out (by omega) hx64 HT.out)
          rw [unf_fo] at HU
          rw [← hp]
          clear hxx hu hp hq
          go_wp2_with (go_at_call 20; refine (HU.out).mono ?_; rintro e w' ⟨rfl, rfl⟩)
          go_round
          case rel => exact ⟨k + 1, by omega, by go_num, by rw [HS.out]⟩
          case measure => simp [intOf]; omega
        · have e7 : n0 + (varies ((ss.take k).map fo)).length = n6 := by rw [E6.out, List.take_of_length_le (by have := L3.out; omega)]
          rw [e7]
          clear e7 HR7 HOC E6
          go_wp2_with fail
          refine (record_ok A0 A1 n0 c0 n1 c1 w.heap.size w.heap.size kd us bs w5 (R0.out.below HB5.out) HB5.out.size (by omega) (R1.out.below HB5.out) HB5.out.size (by omega)).mono ?_
          rintro e w6 ⟨A8, n8, c8, rfl, own8, bel8⟩
          have e8 : n8 = us.length + (rcd kd bs).length := by have := own8.len; rw [bv_len, List.length_append] at this; omega
          have hv8 : (vary n1).length ≤ 10 := by have := gn_le n1 (show n1 < 2 ^ 64 by omega); rw [vary_len]; omega
          have hn8 : n8 ≤ 7000 := by have := L0.out; have := L1.out; rw [e8, rcd_len, L1.out]; omega
          have hn80 : n0 ≤ n8 := by have := L0.out; omega
          have E8 := hid e8
          have HO8 := hid own8
          have HB6 : Hid (Below w.heap.size w w6) := hid (HB5.out.trans (bel8.mono HB5.out.size))
          have hsz : w5.heap.size ≤ w6.heap.size := bel8.size
          have hwz : w.heap.size ≤ w5.heap.size := HB5.out.size
          clear own8 bel8 e8 hv8 HB5
          go_wp2_with (at_builtin; refine wpList_app _ rfl (.tmp 127) (.tmp 128) 22 rfl w5.heap.size 5 (.int .u8 0) 1 Try.underlying22 info5 rfl A8 n8 c8 _ rfl HO8.out w.heap.size A1 n1 c1 (bv bs) rfl (R1.out.below HB6.out) (bv_one bs) (by omega) (by omega) hsz ?_; intro A9 c9 w7 own9 bel9)
          rw [← bv_app] at own9
          have HB7 : Hid (Below w.heap.size w w7) := hid (HB6.out.trans (bel9.mono hwz))
          have HRT := hid (takeRecord_ok A9 (n8 + n1) c9 w7.heap.size us.length (us.length + 1 + (vary bs.length).length) (us.length + (rcd kd bs).length) (us ++ rcd kd bs ++ bs) w7 own9.row (Nat.le_refl _) ((O0.out.app (rcd_oct hkd O1.out)).app O1.out) (by omega) own9.cap
            (by rw [List.append_assoc, bod_at us bs bs kd (by have := L1.out; omega), rcd_len]; congr 2; omega))
          rw [rec_kind, rec_body, ← E8.out, L0.out] at HRT
          clear own9 bel9 HO8 HB6 hsz hwz
          refine (HRT.out).mono ?_
          rintro e w8 ⟨A10, n10, c10, rfl, own10, bel10⟩
          have HR10 : Hid (Row w8 w8.heap.size A10 n10 (bv bs)) := hid own10.row
          have HB8 : Hid (Below w.heap.size w w8) := hid (HB7.out.trans (bel10.mono HB7.out.size))
          clear own10 bel10 HB7 HRT
          go_wp2_with (go_at_call 12; refine (same_any A10 A1 n10 c10 n1 c1 w8.heap.size w.heap.size bs bs true _ HR10.out (R1.out.below HB8.out) O1.out O1.out (by simp)).mono ?_; rintro e w' ⟨rfl, rfl⟩)
          clear HR10 hk hlt E8 hn8 hn80
          go_loopw [162] (fun i wr => ∃ k : Nat, k ≤ n2 ∧ i = .int .i64 (k : Int) ∧ Below w.heap.size w wr) (fun i _ => n2 - (intOf i).toNat)
          case atStart => exact ⟨0, Nat.zero_le _, rfl, HB8.out⟩
          case round =>
            obtain ⟨k, hk, rfl, hbel⟩ := hrel
            have HBR := hid hbel
            clear hbel HB8
            by_cases hlt : k < n2
            · obtain ⟨b, o, u, rfl, hbb, hu, hcell⟩ := (R2.out.below HBR.out).at_ hlt
              have hkn : k < ns.length := by have := L2.out; omega
              obtain ⟨x, hxx⟩ : ∃ x, x = ns[k] := ⟨_, rfl⟩
              have hu' : u = .int .u64 (x : Int) := by
                simp only [uv, List.getElem?_map, List.getElem?_eq_getElem hkn] at hu
                rw [hxx]; simpa using hu.symm
              subst hu'
              have hx64 : x < 18446744073709551616 := by rw [hxx]; exact X2.out _ (List.getElem_mem hkn)
              clear hxx hu
              by_cases hgood : widB wd = true ∧ x < 256 ^ wd.toNat
              · obtain ⟨hg1, hg2⟩ := hgood
                have hwb : 1 ≤ wd ∧ wd ≤ 8 := by simpa [widB] using hg1
                obtain ⟨wn, rfl⟩ : ∃ wn : Nat, wd = wn := ⟨wd.toNat, by omega⟩
                have hg3 : x < 256 ^ wn := by simpa using hg2
                have HG := hid hg3
                clear hg1 hg2 hg3
                go_wp2_with fail
                refine (fixed_ok A0 n0 c0 w.heap.size wn x us wr (R0.out.below HBR.out) HBR.out.size (by omega) (by omega) (by omega) HG.out).mono ?_
                rintro e w9 ⟨A11, n11, c11, rfl, own11, bel11⟩
                have e11 : n11 = n0 + wn := by have := own11.len; rw [bv_len, List.length_append, fixb_len, L0.out] at this; omega
                subst e11
                have HB9 : Hid (Below w.heap.size w w9) := hid (HBR.out.trans (bel11.mono HBR.out.size))
                have HTF := hid (takeFixed_ok A11 (n0 + wn) c11 w9.heap.size us.length wn _ w9 own11.row (O0.out.app (fixb_oct x wn)) own11.cap (by omega) (by omega) (by omega) (by have := L0.out; omega))
                rw [fix_back us x wn HG.out, L0.out] at HTF
                clear own11 bel11
                go_wp2_with (go_at_call 22; refine (HTF.out).mono ?_; rintro e w' ⟨rfl, rfl⟩)
                go_roundw
                case rel => exact ⟨k + 1, by omega, by go_num, HB9.out⟩
                case measure => simp [intOf]; omega
              · have HBAD : Hid (widB wd = true → 256 ^ wd.toNat ≤ x) := hid (fun e => by
                  apply Nat.le_of_not_lt; intro e2; exact hgood ⟨e, e2⟩)
                clear hgood
                go_wp2_with (go_at_call 10; refine (fixed_bad A0 n0 c0 wd x _ hw1 hw2 HBAD.out).mono ?_; rintro e w' ⟨rfl, rfl⟩)
                go_roundw
                case rel => exact ⟨k + 1, by omega, by go_num, HBR.out⟩
                case measure => simp [intOf]; omega
            · go_wp2_with fail
              go_ret
              exact ⟨rfl, HBR.out⟩

theorem back_row {w : World} (A0 : Option Addr) (n0 c0 : Nat) (z0 : List Int) (d0 : Came .u8 w A0 n0 c0 z0) (m0 : c0 ≤ 140737488351232) (A1 : Option Addr) (n1 c1 : Nat) (z1 : List Int) (d1 : Came .u8 w A1 n1 c1 z1) (m1 : c1 ≤ 140737488351232)
    (A2 : Option Addr) (n2 c2 : Nat) (z2 : List Int) (d2 : Came .u64 w A2 n2 c2 z2) (m2 : c2 ≤ 140737488351232) (A3 : Option Addr) (n3 c3 : Nat) (z3 : List Int) (d3 : Came .i64 w A3 n3 c3 z3) (m3 : c3 ≤ 140737488351232)
    (kd : Int) (k1 : 0 ≤ kd) (k2 : kd ≤ 255) (wd : Int) (w1 : -9223372036854775808 ≤ wd) (w2 : wd ≤ 9223372036854775807) :
    Calls Try.prog 4 #[.slice A0 n0 c0, .slice A1 n1 c1, .slice A2 n2 c2, .slice A3 n3 c3, .int .u8 kd, .int .i64 wd] w fun e w' => e = .returned (.bool true) ∧ Below w.heap.size w w' := by
  obtain ⟨kn, rfl⟩ : ∃ kn : Nat, kd = kn := ⟨kd.toNat, by omega⟩
  have q0 := d0.2.1
  have q1 := d1.2.1
  have q2 := d2.2.1
  have q3 := d3.2.1
  obtain ⟨us, r0, o0⟩ := came_u8 d0
  obtain ⟨bs, r1, o1⟩ := came_u8 d1
  obtain ⟨ns, r2, x2⟩ := came_u64 d2
  obtain ⟨r3, x3⟩ := came_i64 d3
  by_cases h : (n0 ≤ 3000 ∧ n1 ≤ 3000) ∧ n2 + n3 ≤ 500
  · exact back_near A0 A1 A2 A3 n0 c0 n1 c1 n2 c2 n3 c3 us bs ns z3 kn wd w r0 r1 r2 r3 o0 o1 x2 x3 (by omega) w1 w2 h.1.1 h.1.2 h.2
  · exact back_far A0 A1 A2 A3 n0 c0 n1 c1 n2 c2 n3 c3 kn wd w (by omega) (by omega) (by omega) (by omega) (by
      by_cases h' : n0 ≤ 3000 ∧ n1 ≤ 3000
      · exact .inr (by apply Nat.lt_of_not_le; intro e; exact h ⟨h', e⟩)
      · exact .inl h')

end Go.Proofs.Ytkbcmnheecihiaa
