/-
  The walk of WireWrites.
-/
import Derived.Test.YtkbcmnheecihiaaS
namespace Go.Proofs.Ytkbcmnheecihiaa
open Go Go.RowKit

set_option maxRecDepth 100000 in
set_option maxHeartbeats 4000000 in
theorem writes_far (A0 A2 A3 A5 : Option Addr) (n0 c0 n2 c2 n3 c3 n5 c5 : Nat) (kd : Int) (wd : Int) (w : World) (h0 : n0 ≤ 9223372036854775807) (h5 : n5 ≤ 9223372036854775807) (h2 : n2 ≤ 1000000000000000) (h3 : n3 ≤ 1000000000000000)
    (hf : ¬ n0 ≤ 3000 ∨ 1048586 < n5 ∨ 500 < n2 + n3) : Calls Try.prog 3 #[.slice A0 n0 c0, .int .i64 wd, .slice A2 n2 c2, .slice A3 n3 c3, .int .u8 kd, .slice A5 n5 c5] w (OkP w) := by
  by_cases hs : n0 ≤ 3000
  · have HFW : Hid (decide (n0 ≤ 3000) = true) := hid (by simpa using hs)
    by_cases hl : 1048586 < n5
    · clear hf
      go_enter Try.func3, Try.ntmps3
      go_wp2_with fail
      refine (live_any w).mono ?_
      rintro e w0 ⟨rfl, bel0⟩
      have HB0 := hid bel0
      clear bel0
      go_wp2_with fail
      refine (few1 A0 n0 c0 _ true w0 rfl h0 HFW.out).mono ?_
      rintro e w1 ⟨rfl, rfl⟩
      go_wp2_with fail
      go_ret
      exact ⟨rfl, HB0.out.alloc HB0.out.size _⟩
    · have hlt : 500 < n2 + n3 := by rcases hf with h | h | h; exact absurd hs h; exact absurd h hl; exact h
      clear hf
      go_enter Try.func3, Try.ntmps3
      go_wp2_with fail
      refine (live_any w).mono ?_
      rintro e w0 ⟨rfl, bel0⟩
      have HB0 := hid bel0
      clear bel0
      go_wp2_with fail
      refine (few1 A0 n0 c0 _ true w0 rfl h0 HFW.out).mono ?_
      rintro e w1 ⟨rfl, rfl⟩
      go_wp2_with fail
      go_ret
      exact ⟨rfl, HB0.out.alloc HB0.out.size _⟩
  · have HFW : Hid (decide (n0 ≤ 3000) = false) := hid (by simpa using hs)
    clear hf
    go_enter Try.func3, Try.ntmps3
    go_wp2_with fail
    refine (live_any w).mono ?_
    rintro e w0 ⟨rfl, bel0⟩
    have HB0 := hid bel0
    clear bel0
    go_wp2_with fail
    refine (few1 A0 n0 c0 _ false w0 rfl h0 HFW.out).mono ?_
    rintro e w1 ⟨rfl, rfl⟩
    go_wp2_with fail
    go_ret
    exact ⟨rfl, HB0.out.alloc HB0.out.size _⟩

/-- What Record tells, of any body. -/
def RetRec (bs : List Nat) (kd : Nat) (body : List Nat) (w : World) (e : Ending) (w' : World) : Prop :=
  ∃ A n c l er, e = .returned (.tuple #[.slice A n c, .int .i64 ((er : Nat) : Int)]) ∧ Row w' w'.heap.size A n (bv l) ∧ Below w.heap.size w w' ∧ l = (if body.length ≤ 1048576 then bs ++ rcd kd body else []) ∧ er = (if body.length ≤ 1048576 then 0 else 6)
theorem record_all (A A2 : Option Addr) (n c m c2 B B2 kd : Nat) (bs body : List Nat) (w : World) (hr : Row w B A n (bv bs)) (hB : B ≤ w.heap.size) (hn : n ≤ 900000) (hr2 : Row w B2 A2 m (bv body)) (hB2 : B2 ≤ w.heap.size) (hm : m ≤ 9223372036854775807) :
    Calls Try.prog 13 #[.slice A n c, .int .u8 (kd : Int), .slice A2 m c2] w (RetRec bs kd body w) := by
  have hl := hr2.1
  rw [bv_len] at hl
  by_cases h : m ≤ 1048576
  · refine (record_ok A A2 n c m c2 B B2 kd bs body w hr hB (by omega) hr2 hB2 h).mono ?_
    rintro e w' ⟨A', n', c', rfl, own, bel⟩
    exact ⟨A', n', c', _, 0, rfl, own.row, bel, by rw [if_pos (by omega)], by rw [if_pos (by omega)]⟩
  · refine (record_long A A2 n c m c2 kd w (by omega) hm).mono ?_
    rintro e w' ⟨rfl, rfl⟩
    exact ⟨none, 0, 0, [], 6, rfl, Row.nil _ _ _, Below.refl _ _, by rw [if_neg (by omega)], by rw [if_neg (by omega)]⟩
theorem refrecord_all (A A2 : Option Addr) (n c m c2 B B2 kd : Nat) (bs body : List Nat) (w : World) (hr : Row w B A n (bv bs)) (hn : n ≤ 900000) (hr2 : Row w B2 A2 m (bv body)) (hB2 : B2 ≤ w.heap.size) (hm : m ≤ 9223372036854775807) :
    Calls Try.prog 14 #[.slice A n c, .int .u8 (kd : Int), .slice A2 m c2] w (RetRec bs kd body w) := by
  have hl := hr2.1
  rw [bv_len] at hl
  by_cases h : m ≤ 1048576
  · refine (refrecord_ok A A2 n c m c2 B B2 kd bs body w hr hn hr2 hB2 h).mono ?_
    rintro e w' ⟨A', n', c', rfl, own, bel⟩
    exact ⟨A', n', c', _, 0, rfl, own.row, bel, by rw [if_pos (by omega)], by rw [if_pos (by omega)]⟩
  · refine (refrecord_long A A2 n c m c2 kd w (by omega) hm).mono ?_
    rintro e w' ⟨rfl, rfl⟩
    exact ⟨none, 0, 0, [], 6, rfl, Row.nil _ _ _, Below.refl _ _, by rw [if_neg (by omega)], by rw [if_neg (by omega)]⟩

def IncRel (base : Nat) (A : Option Addr) (n c : Nat) (w : World) (i : Value) (wr : World) : Prop :=
  ∃ (k : Nat) (l : List Nat), k ≤ n ∧ i = .int .i64 (k : Int) ∧ Oct l ∧ Own wr base 5 A n c (bv l) ∧ Below base w wr

set_option maxRecDepth 100000 in
set_option maxHeartbeats 8000000 in
theorem writes_near (A0 A2 A3 A5 : Option Addr) (n0 c0 n2 c2 n3 c3 n5 c5 : Nat) (us ns body : List Nat) (ss : List Int) (kd : Nat) (wd : Int) (w : World)
    (r0 : Row w w.heap.size A0 n0 (bv us)) (r2 : Row w w.heap.size A2 n2 (uv ns)) (r3 : Row w w.heap.size A3 n3 (sv ss)) (r5 : Row w w.heap.size A5 n5 (bv body)) (o0 : Oct us) (o5 : Oct body) (hx2 : ∀ x ∈ ns, x < 18446744073709551616)
    (hx3 : ∀ x ∈ ss, -9223372036854775808 ≤ x ∧ x ≤ 9223372036854775807) (hkd : kd < 256) (hw1 : -9223372036854775808 ≤ wd) (hw2 : wd ≤ 9223372036854775807)
    (h0 : n0 ≤ 3000) (h5 : n5 ≤ 1048586) (h23 : n2 + n3 ≤ 500) : Calls Try.prog 3 #[.slice A0 n0 c0, .int .i64 wd, .slice A2 n2 c2, .slice A3 n3 c3, .int .u8 (kd : Int), .slice A5 n5 c5] w (OkP w) := by
  have HFW : Hid (decide (n0 ≤ 3000) = true) := hid (by simpa using h0)
  have l0 := r0.1
  have l2 := r2.1
  have l3 := r3.1
  have l5 := r5.1
  rw [bv_len] at l0 l5
  rw [uv_len] at l2
  rw [sv_len] at l3
  have L0 := hid l0
  have L2 := hid l2
  have L3 := hid l3
  have L5 := hid l5
  have R0 := hid r0
  have R2 := hid r2
  have R3 := hid r3
  have R5 := hid r5
  have X2 := hid hx2
  have X3 := hid hx3
  have O0 := hid o0
  have O5 := hid o5
  clear l0 l2 l3 l5 r0 r2 r3 r5 hx2 hx3 o0 o5
  go_enter Try.func3, Try.ntmps3
  go_wp2_with fail
  refine (live_any w).mono ?_
  rintro e w0 ⟨rfl, bel0⟩
  have HB0 := hid bel0
  clear bel0
  go_wp2_with fail
  refine (few1 A0 n0 c0 _ true w0 rfl (by omega) HFW.out).mono ?_
  rintro e w1 ⟨rfl, rfl⟩
  have HB1 : Hid (Below w.heap.size w (w0.alloc (.cells #[.slice A0 n0 c0] 22))) := hid (HB0.out.alloc HB0.out.size _)
  clear HB0
  generalize (w0.alloc (.cells #[.slice A0 n0 c0] 22)) = W at HB1 ⊢
  go_wp2_with (at_builtin; refine wpList_app _ rfl (.const (.slice none 0 0)) (.tmp 47) 22 rfl W.heap.size 5 (.int .u8 0) 1 Try.underlying22 info5 rfl none 0 0 [] rfl (Own.nil _ _ _) w.heap.size A0 n0 c0 (bv us) rfl (R0.out.below HB1.out) (bv_one us) (by omega) (by omega) (Nat.le_refl _) ?_; intro A6 c6 w5 own6 bel6; simp only [Nat.zero_add, List.nil_append] at own6)
  have HB5 : Hid (Below w.heap.size w w5) := hid (HB1.out.trans (bel6.mono HB1.out.size))
  have R6 : Hid (Row w5 w5.heap.size A6 n0 (bv us)) := hid own6.row
  clear own6 bel6 HB1
  go_loopw [51] (fun i wr => ∃ k : Nat, k ≤ n2 ∧ i = .int .i64 (k : Int) ∧ Below w5.heap.size w5 wr) (fun i _ => n2 - (intOf i).toNat)
  case atStart => exact ⟨0, Nat.zero_le _, rfl, Below.refl _ _⟩
  case round =>
    obtain ⟨k, hk, rfl, hbel⟩ := hrel
    have HBR := hid hbel
    have HBW : Hid (Below w.heap.size w wr) := hid (HB5.out.trans (hbel.mono HB5.out.size))
    clear hbel
    by_cases hlt : k < n2
    · obtain ⟨b, o, u, rfl, hbb, hu, hcell⟩ := (R2.out.below HBW.out).at_ hlt
      have hkn : k < ns.length := by have := L2.out; omega
      obtain ⟨x, hxx⟩ : ∃ x, x = ns[k] := ⟨_, rfl⟩
      have hu' : u = .int .u64 (x : Int) := by
        simp only [uv, List.getElem?_map, List.getElem?_eq_getElem hkn] at hu
        rw [hxx]; simpa using hu.symm
      subst hu'
      have hx64 : x < 18446744073709551616 := by rw [hxx]; exact X2.out _ (List.getElem_mem hkn)
      clear hxx hu
      by_cases hgood : widB wd = true ∧ x < 256 ^ wd.toNat
      · obtain ⟨hg1, hg2⟩ := hgood
        have hwb : 1 ≤ wd ∧ wd ≤ 8 := by simpa [widB] using hg1
        obtain ⟨wn, rfl⟩ : ∃ wn : Nat, wd = wn := ⟨wd.toNat, by omega⟩
        have hg3 : x < 256 ^ wn := by simpa using hg2
        have HG := hid hg3
        clear hg1 hg2 hg3
        go_wp2_with fail
        refine (fixed_ok A0 n0 c0 w.heap.size wn x us wr (R0.out.below HBW.out) HBW.out.size (by omega) (by omega) (by omega) HG.out).mono ?_
        rintro e w9 ⟨A11, n11, c11, rfl, own11, bel11⟩
        have HB9 : Hid (Below w.heap.size w w9) := hid (HBW.out.trans (bel11.mono HBW.out.size))
        have HBR9 : Hid (Below w5.heap.size w5 w9) := hid (HBR.out.trans (bel11.mono HBR.out.size))
        have HR11 : Hid (Row w9 w9.heap.size A11 n11 (bv (us ++ fixb x wn))) := hid own11.row
        clear own11 bel11 HBR HBW
        go_wp2_with fail
        refine (reffixed_ok A0 n0 c0 w.heap.size wn x us w9 (R0.out.below HB9.out) (by omega) (by omega) (by omega) HG.out).mono ?_
        rintro e w10 ⟨A12, n12, c12, rfl, own12, bel12⟩
        have HBR10 : Hid (Below w5.heap.size w5 w10) := hid (HBR9.out.trans (bel12.mono HBR9.out.size))
        have HR12 : Hid (Row w10 w10.heap.size A12 n12 (bv (us ++ fixb x wn))) := hid own12.row
        have HR11' : Hid (Row w10 w9.heap.size A11 n11 (bv (us ++ fixb x wn))) := hid (HR11.out.below bel12)
        clear own12 bel12 HR11 HBR9 HB9
        go_wp2_with (go_at_call 12; refine (same_any A11 A12 n11 c11 n12 c12 w9.heap.size w10.heap.size _ _ true _ HR11'.out HR12.out (O0.out.app (fixb_oct x wn)) (O0.out.app (fixb_oct x wn)) (by simp)).mono ?_; rintro e w' ⟨rfl, rfl⟩)
        go_roundw
        case rel => exact ⟨k + 1, by omega, by go_num, HBR10.out⟩
        case measure => simp [intOf]; omega
      · have HBAD : Hid (widB wd = true → 256 ^ wd.toNat ≤ x) := hid (fun e => by
          apply Nat.le_of_not_lt; intro e2; exact hgood ⟨e, e2⟩)
        clear hgood
        go_wp2_with (first
          | (go_at_call 10; refine (fixed_bad A0 n0 c0 wd x _ hw1 hw2 HBAD.out).mono ?_; rintro e w' ⟨rfl, rfl⟩)
          | (go_at_call 11; refine (reffixed_bad A0 n0 c0 wd x _ hw1 hw2 hx64 HBAD.out).mono ?_; rintro e w' ⟨rfl, rfl⟩)
          | (go_at_call 12; refine (same_any none none 0 0 0 0 0 0 [] [] true _ (Row.nil _ _ _) (Row.nil _ _ _) Oct.nil Oct.nil (by simp)).mono ?_; rintro e w' ⟨rfl, rfl⟩))
        go_roundw
        case rel => exact ⟨k + 1, by omega, by go_num, HBR.out⟩
        case measure => simp [intOf]; omega
    · go_wp2_with fail
      refine (record_all A0 A5 n0 c0 n5 c5 w.heap.size w.heap.size kd us body wr (R0.out.below HBW.out) HBW.out.size (by omega) (R5.out.below HBW.out) HBW.out.size (by omega)).mono ?_
      rintro r w6 ⟨A7, n7, c7, l7, er, rfl, row7, bel7, el7, eer⟩
      have HB6 : Hid (Below w.heap.size w w6) := hid (HBW.out.trans (bel7.mono HBW.out.size))
      have HBR6 : Hid (Below w5.heap.size w5 w6) := hid (HBR.out.trans (bel7.mono HBR.out.size))
      have R7 := hid row7
      have EL7 := hid el7
      have EER := hid eer
      have O7 : Hid (Oct l7) := hid (by rw [el7]; split; exact O0.out.app (rcd_oct hkd O5.out); exact Oct.nil)
      clear row7 bel7 el7 eer HBW HBR
      go_wp2_with fail
      refine (refrecord_all A0 A5 n0 c0 n5 c5 w.heap.size w.heap.size kd us body w6 (R0.out.below HB6.out) (by omega) (R5.out.below HB6.out) HB6.out.size (by omega)).mono ?_
      rintro r w7 ⟨A8, n8, c8, l8, er8, rfl, row8, bel8, el8, eer8⟩
      obtain rfl : l7 = l8 := by rw [EL7.out, el8]
      obtain rfl : er = er8 := by rw [EER.out, eer8]
      have HB7 : Hid (Below w.heap.size w w7) := hid (HB6.out.trans (bel8.mono HB6.out.size))
      have HBR7 : Hid (Below w5.heap.size w5 w7) := hid (HBR6.out.trans (bel8.mono HBR6.out.size))
      have R8 := hid row8
      have R7' : Hid (Row w7 w6.heap.size A7 n7 (bv l7)) := hid (R7.out.below bel8)
      have hs67 : w6.heap.size ≤ w7.heap.size := bel8.size
      clear row8 bel8 el8 eer8 R7 EL7 EER HB6 HBR6
      go_wp2_with fail
      refine (vary_any A0 A2 n0 c0 n2 c2 w.heap.size w.heap.size us ns w7 (R0.out.below HB7.out) HB7.out.size (R2.out.below HB7.out) HB7.out.size X2.out (by omega) (by omega)).mono ?_
      rintro r w8 ⟨A9, n9, c9, rfl, own9, bel9⟩
      have HB8 : Hid (Below w.heap.size w w8) := hid (HB7.out.trans (bel9.mono HB7.out.size))
      have HBR8 : Hid (Below w5.heap.size w5 w8) := hid (HBR7.out.trans (bel9.mono HBR7.out.size))
      have R8' : Hid (Row w8 w7.heap.size A8 n8 (bv l7)) := hid (R8.out.below bel9)
      have R7 : Hid (Row w8 w6.heap.size A7 n7 (bv l7)) := hid (R7'.out.below (bel9.mono hs67))
      have OW9 := hid own9
      have h57 : w5.heap.size ≤ w7.heap.size := HBR7.out.size
      have hn9 : n9 ≤ 8000 := by
        have h1 := own9.len
        have h2 := varies_len ns X2.out
        rw [bv_len, List.length_append, L0.out] at h1
        rw [L2.out] at h2
        omega
      have O9 : Hid (Oct (us ++ varies ns)) := hid (O0.out.app (varies_oct ns))
      clear own9 bel9 HB7 HBR7 R8 R7' hs67
      go_wp2_with fail
      refine (same_any A7 A8 n7 c7 n8 c8 w6.heap.size w7.heap.size l7 l7 true w8 R7.out R8'.out O7.out O7.out (by simp)).mono ?_
      rintro r w' ⟨rfl, rfl⟩
      clear R7 R8' O7
      go_wp2_with fail
      refine (refVary_any A0 A2 n0 c0 n2 c2 w.heap.size w.heap.size us ns w8 (R0.out.below HB8.out) (R2.out.below HB8.out) HB8.out.size X2.out (by omega) (by omega)).mono ?_
      rintro r w9 ⟨A10, n10, c10, rfl, own10, bel10⟩
      have HB9 : Hid (Below w.heap.size w w9) := hid (HB8.out.trans (bel10.mono HB8.out.size))
      have HBR9 : Hid (Below w5.heap.size w5 w9) := hid (HBR8.out.trans (bel10.mono HBR8.out.size))
      have OW9' : Hid (Own w9 w7.heap.size 5 A9 n9 c9 (bv (us ++ varies ns))) := hid (OW9.out.below bel10)
      have R10 : Hid (Row w9 w9.heap.size A10 n10 (bv (us ++ varies ns))) := hid own10.row
      clear own10 bel10 HB8 HBR8 OW9
      go_wp2_with fail
      refine (same_any A9 A10 n9 c9 n10 c10 w9.heap.size w9.heap.size _ _ true w9 OW9'.out.row R10.out O9.out O9.out (by simp)).mono ?_
      rintro r w' ⟨rfl, rfl⟩
      clear R10
      go_wp2_with fail
      refine (sign_any A0 A3 n0 c0 n3 c3 w.heap.size w.heap.size us ss w9 (R0.out.below HB9.out) HB9.out.size (R3.out.below HB9.out) HB9.out.size X3.out (by omega) (by omega)).mono ?_
      rintro r w10 ⟨A11, n11, c11, rfl, own11, bel11⟩
      have HB10 : Hid (Below w.heap.size w w10) := hid (HB9.out.trans (bel11.mono HB9.out.size))
      have HBR10 : Hid (Below w5.heap.size w5 w10) := hid (HBR9.out.trans (bel11.mono HBR9.out.size))
      have OW10 : Hid (Own w10 w7.heap.size 5 A9 n9 c9 (bv (us ++ varies ns))) := hid (OW9'.out.below bel11)
      have R11 : Hid (Row w10 w10.heap.size A11 n11 (bv (us ++ varies (ss.map fo)))) := hid own11.row
      clear own11 bel11 HB9 HBR9 OW9'
      go_wp2_with fail
      refine (refSign_any A0 A3 n0 c0 n3 c3 w.heap.size w.heap.size us ss w10 (R0.out.below HB10.out) (R3.out.below HB10.out) HB10.out.size X3.out (by omega) (by omega)).mono ?_
      rintro r w11 ⟨A12, n12, c12, rfl, own12, bel12⟩
      have HB11 : Hid (Below w.heap.size w w11) := hid (HB10.out.trans (bel12.mono HB10.out.size))
      have HBR11 : Hid (Below w5.heap.size w5 w11) := hid (HBR10.out.trans (bel12.mono HBR10.out.size))
      have OW11 : Hid (Own w11 w7.heap.size 5 A9 n9 c9 (bv (us ++ varies ns))) := hid (OW10.out.below bel12)
      have R11' : Hid (Row w11 w10.heap.size A11 n11 (bv (us ++ varies (ss.map fo)))) := hid (R11.out.below bel12)
      have R12 : Hid (Row w11 w11.heap.size A12 n12 (bv (us ++ varies (ss.map fo)))) := hid own12.row
      have O12 : Hid (Oct (us ++ varies (ss.map fo))) := hid (O0.out.app (varies_oct _))
      clear own12 bel12 HB10 HBR10 OW10 R11
      go_wp2_with fail
      refine (same_any A11 A12 n11 c11 n12 c12 w10.heap.size w11.heap.size _ _ true w11 R11'.out R12.out O12.out O12.out (by simp)).mono ?_
      rintro r w' ⟨rfl, rfl⟩
      clear R11' R12 O12 hk hlt
      go_wp2_with fail
      go_loopw [122] (IncRel w7.heap.size A9 n9 c9 w11) (fun i _ => n9 - (intOf i).toNat)
      case atStart => exact ⟨0, _, Nat.zero_le _, rfl, O9.out, OW11.out, Below.refl _ _⟩
      case round =>
        obtain ⟨k, l, hk, rfl, hol, hown, hbel⟩ := hrel
        have HOL := hid hol
        have HBI := hid hbel
        clear hbel hol
        by_cases hlt : k < n9
        · obtain ⟨g, rfl⟩ : ∃ g, A9 = some ⟨g, 0, none⟩ := by
            rcases hown.2 with ⟨_, h⟩ | ⟨g, cap, cur, h, _⟩
            · omega
            · exact ⟨g, by injection h⟩
          have hgl : w7.heap.size ≤ g := (World.ownsRow.lt hown g rfl).1
          have hll : l.length = n9 := by have := hown.len; rwa [bv_len] at this
          have hkl : k < l.length := by omega
          obtain ⟨y, hy⟩ : ∃ y, y = l[k] := ⟨_, rfl⟩
          have hy256 : y < 256 := by rw [hy]; exact HOL.out _ (List.getElem_mem hkl)
          have hcell : wr.cell? ⟨g, k, none⟩ = some (.int .u8 (y : Int)) := by
            rw [World.ownsRow.cellAt hown k (by omega)]
            simp [bv, List.getElem?_eq_getElem hkl, hy]
          have hfr : wr.frozen? ⟨g, k, none⟩ = false := World.ownsRow.frozenAt hown k
          have HST : Hid (∀ z : Nat, z < 256 → IncRel w7.heap.size (some ⟨g, 0, none⟩) n9 c9 w11 (.int .i64 ((k : Int) + 1)) (wr.setCell ⟨g, k, none⟩ (.int .u8 (z : Int)))) := hid (fun z hz => by
            have hst := (World.ownsRow.stored hown k (.int .u8 (z : Int))).1
            have eset : (bv l).set k (.int .u8 (z : Int)) = bv (l.set k z) := by unfold bv; rw [List.map_set]
            rw [eset] at hst
            refine ⟨k + 1, l.set k z, by omega, by go_num, fun v hv => ?_, hst, HBI.out.setCell hgl _⟩
            rcases List.mem_or_eq_of_mem_set hv with h | h
            · exact HOL.out v h
            · omega)
          clear hown hy hll hkl
          go_wp2_with fail
          have ez : ((y : Int) + 1) % 256 = (((y + 1) % 256 : Nat) : Int) := by omega
          rw [ez]
          exact ⟨HST.out _ (by omega), by simp [intOf]; omega⟩
        · have hww7 : w.heap.size ≤ w7.heap.size := Nat.le_trans HB5.out.size h57
          have HBF : Hid (Below w.heap.size w wr) := hid (HB11.out.trans (HBI.out.mono hww7))
          have R6' : Hid (Row wr w5.heap.size A6 n0 (bv us)) := hid ((R6.out.below HBR11.out).below (HBI.out.mono h57))
          clear hown
          go_wp2_with (go_at_call 12; refine (same_any A0 A6 n0 c0 n0 c6 w.heap.size w5.heap.size us us true _ (R0.out.below HBF.out) R6'.out O0.out O0.out (by simp)).mono ?_; rintro r w' ⟨rfl, rfl⟩)
          go_ret
          exact ⟨rfl, HBF.out⟩
theorem writes_row {w : World} (A0 : Option Addr) (n0 c0 : Nat) (z0 : List Int) (d0 : Came .u8 w A0 n0 c0 z0) (m0 : c0 ≤ 140737488351232) (wd : Int) (w1 : -9223372036854775808 ≤ wd) (w2 : wd ≤ 9223372036854775807)
    (A2 : Option Addr) (n2 c2 : Nat) (z2 : List Int) (d2 : Came .u64 w A2 n2 c2 z2) (m2 : c2 ≤ 140737488351232) (A3 : Option Addr) (n3 c3 : Nat) (z3 : List Int) (d3 : Came .i64 w A3 n3 c3 z3) (m3 : c3 ≤ 140737488351232)
    (kd : Int) (k1 : 0 ≤ kd) (k2 : kd ≤ 255) (A5 : Option Addr) (n5 c5 : Nat) (z5 : List Int) (d5 : Came .u8 w A5 n5 c5 z5) (m5 : c5 ≤ 140737488351232) :
    Calls Try.prog 3 #[.slice A0 n0 c0, .int .i64 wd, .slice A2 n2 c2, .slice A3 n3 c3, .int .u8 kd, .slice A5 n5 c5] w fun e w' => e = .returned (.bool true) ∧ Below w.heap.size w w' := by
  obtain ⟨kn, rfl⟩ : ∃ kn : Nat, kd = kn := ⟨kd.toNat, by omega⟩
  have q0 := d0.2.1
  have q2 := d2.2.1
  have q3 := d3.2.1
  have q5 := d5.2.1
  obtain ⟨us, r0, o0⟩ := came_u8 d0
  obtain ⟨body, r5, o5⟩ := came_u8 d5
  obtain ⟨ns, r2, x2⟩ := came_u64 d2
  obtain ⟨r3, x3⟩ := came_i64 d3
  by_cases h : n0 ≤ 3000 ∧ n5 ≤ 1048586 ∧ n2 + n3 ≤ 500
  · exact writes_near A0 A2 A3 A5 n0 c0 n2 c2 n3 c3 n5 c5 us ns body z3 kn wd w r0 r2 r3 r5 o0 o5 x2 x3 (by omega) w1 w2 h.1 h.2.1 h.2.2
  · exact writes_far A0 A2 A3 A5 n0 c0 n2 c2 n3 c3 n5 c5 kn wd w (by omega) (by omega) (by omega) (by omega) (by omega)

end Go.Proofs.Ytkbcmnheecihiaa
