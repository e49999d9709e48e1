/-
  Contracts of wire's TakeFixed, Record, bodyAt and TakeRecord.
-/
import Derived.Test.YtkbcmnheecihiaaG
namespace Go.Proofs.Ytkbcmnheecihiaa
open Go Go.RowKit

set_option maxRecDepth 100000 in
set_option maxHeartbeats 400000 in
theorem takeFixed_ok (A : Option Addr) (n c B k0 wd : Nat) (bs : List Nat) (w : World) (hr : Row w B A n (bv bs)) (ho : Oct bs) (hn : n ≤ c) (hn2 : n ≤ 1000000000) (hw1 : 1 ≤ wd) (hw2 : wd ≤ 8) (hk : k0 + wd ≤ n) :
    Calls Try.prog 22 #[.slice A n c, .int .i64 (k0 : Int), .int .i64 (wd : Int)] w fun r w' => r = .returned (.tuple #[.int .u64 (fxv 0 ((bs.drop k0).take wd) : Nat), .int .i64 ((k0 : Int) + (wd : Int)), .int .i64 0]) ∧ w = w' := by
  obtain ⟨b, o, rfl, hb, hc⟩ := hr.2 (by omega)
  have hl := hr.1
  rw [bv_len] at hl
  have HL := hid hl
  have HC := hid hc
  have HO := hid ho
  have hck : ¬ c = k0 := by omega
  have HW : Hid (widB wd = true) := hid (by simp [widB]; omega)
  clear hr hl hc ho
  go_enter Try.func22, Try.ntmps22
  go_wp2_with (go_at_call 25; refine (isWidth_any _ _).mono ?_; rintro e w' ⟨rfl, rfl⟩; have hwb := HW.out)
  go_loop [9, 32] (fun a i => ∃ k : Nat, k ≤ wd ∧ i = .int .i64 (k : Int) ∧ a = .int .u64 ((fxv 0 ((bs.drop k0).take k) : Nat) : Int)) (fun _ i => wd - (intOf i).toNat)
  case atStart => exact ⟨0, Nat.zero_le _, rfl, rfl⟩
  case round =>
    obtain ⟨k, hkw, rfl, rfl⟩ := hrel
    by_cases hlt : k < wd
    · have hkn : k0 + k < bs.length := by have := HL.out; omega
      obtain ⟨x, hxx⟩ : ∃ x, x = bs[k0 + k] := ⟨_, rfl⟩
      have hcell : w.cell? ⟨b, o + k0 + k, none⟩ = some (.int .u8 (x : Int)) := by
        rw [Nat.add_assoc]
        refine HC.out (k0 + k) _ ?_
        simp [bv, List.getElem?_eq_getElem hkn, hxx]
      have hx : x < 256 := by rw [hxx]; exact HO.out _ (List.getElem_mem hkn)
      have hdl : k < (bs.drop k0).length := by rw [List.length_drop]; omega
      have HT : Hid ((bs.drop k0).take (k + 1) = (bs.drop k0).take k ++ [x]) := hid (by rw [List.take_succ_eq_append_getElem hdl, List.getElem_drop, hxx])
      have hacc : fxv 0 ((bs.drop k0).take k) < 72057594037927936 := by
        have h1 := fxv_lt ((bs.drop k0).take k) ((HO.out.drop _).take _)
        have h2 : ((bs.drop k0).take k).length ≤ 7 := by rw [List.length_take]; omega
        have h3 := Nat.pow_le_pow_right (show 0 < 256 by omega) h2
        have h4 : (256 : Nat) ^ 7 = 72057594037927936 := by decide
        omega
      have HS : Hid (fxv 0 ((bs.drop k0).take (k + 1)) = fxv 0 ((bs.drop k0).take k) * 256 + x) := hid (by rw [HT.out, fxv_snoc])
      clear hxx HT
      generalize fxv 0 ((bs.drop k0).take k) = acc at HS hacc ⊢
      go_wp2
      go_round
      case rel => exact ⟨k + 1, by omega, by go_num, by rw [HS.out, or8 acc x hacc hx]⟩
      case measure => simp [intOf]; omega
    · obtain rfl : k = wd := by omega
      go_wp2
      go_ret3
      exact ⟨rfl, rfl⟩
/-- A record's bytes. -/
def rcd (kd : Nat) (body : List Nat) : List Nat := kd :: (vary body.length ++ body)

set_option maxHeartbeats 400000 in
theorem record_ok (A A2 : Option Addr) (n c m c2 B B2 kd : Nat) (bs body : List Nat) (w : World) (hr : Row w B A n (bv bs)) (hB : B ≤ w.heap.size) (hn : n ≤ 1000000) (hr2 : Row w B2 A2 m (bv body)) (hB2 : B2 ≤ w.heap.size) (hm : m ≤ 1048576) :
    Calls Try.prog 13 #[.slice A n c, .int .u8 (kd : Int), .slice A2 m c2] w (RetBE w.heap.size (bv (bs ++ rcd kd body)) w) := by
  have HR := hid hr
  have HR2 := hid hr2
  have hl := hr.1
  have hl2 := hr2.1
  rw [bv_len] at hl hl2
  have HL := hid hl
  have HL2 := hid hl2
  clear hr hr2 hl hl2
  go_enter Try.func13, Try.ntmps13
  go_wp2_with fail
  have e1 : (4 : Int) + (m : Int) = ((4 + m : Nat) : Int) := by omega
  rw [e1]
  clear e1
  refine (copied_any A n c B (4 + m) (bv bs) _ HR.out (bv_one bs) (by omega) hB).mono ?_
  rintro e w1 ⟨A1, n1, c1, rfl, own1, bel1⟩
  have hn1 : n1 ≤ 1000000 := by have := own1.len; have := HL.out; rw [bv_len] at *; omega
  have HO1 := hid own1
  have HB1 := hid bel1
  clear own1 bel1
  go_wp2_with (at_builtin; refine wpList_app _ rfl (.tmp 16) (.tmp 18) 22 rfl w.heap.size 5 (.int .u8 0) 1 Try.underlying22 info5 rfl A1 n1 c1 _ rfl (HO1.out.alloc _) (w1.heap.size + 1) _ 1 1 [_] rfl (Row.laid w1 5 [_]) (by intro u hu; simp at hu; subst hu; rfl) (by omega) (by omega) (by have := HB1.out.size; simp; omega) ?_; intro A2' c2' w2 own2 bel2)
  have HO2 : Hid (Own w2 w.heap.size 5 A2' (n1 + 1) c2' (bv (bs ++ [kd]))) := hid (by rw [bv_app]; exact own2)
  have HB2 : Hid (Below w.heap.size w w2) := hid ((HB1.out.alloc HB1.out.size _).trans bel2)
  clear own2 bel2 HO1 HB1
  refine (addVary_any A2' (n1 + 1) c2' w.heap.size _ m _ HO2.out (by omega) (by omega) HB2.out.size).mono ?_
  rintro e w3 ⟨A3, n3, c3, rfl, own3, bel3⟩
  have hn3 : n3 ≤ 1000011 := by
    have h1 := own3.len
    have h2 := HO2.out.len
    have h3 := gn_le m (show m < 2 ^ 64 by omega)
    rw [bv_len, List.length_append, vary_len] at h1
    rw [bv_len] at h2
    omega
  have HO3 := hid own3
  have HB3 : Hid (Below w.heap.size w w3) := hid (HB2.out.trans bel3)
  clear own3 bel3 HO2 HB2
  go_wp2_with (at_builtin; refine wpList_app _ rfl (.tmp 25) (.tmp 26) 22 rfl w.heap.size 5 (.int .u8 0) 1 Try.underlying22 info5 rfl A3 n3 c3 _ rfl HO3.out B2 A2 m c2 (bv body) rfl (HR2.out.below (HB3.out.mono hB2)) (bv_one body) (by omega) (by omega) HB3.out.size ?_; intro A4 c4 w4 own4 bel4)
  go_ret2
  refine ⟨A4, _, c4, rfl, ?_, HB3.out.trans bel4⟩
  have e : bv (bs ++ rcd kd body) = bv (bs ++ [kd] ++ vary m) ++ bv body := by
    rw [← bv_app]; unfold rcd; rw [HL2.out]; simp
  rw [e]; exact own4

theorem record_long (A A2 : Option Addr) (n c m c2 kd : Nat) (w : World) (hm : 1048576 < m) (hm2 : m ≤ 9223372036854775807) :
    Calls Try.prog 13 #[.slice A n c, .int .u8 (kd : Int), .slice A2 m c2] w fun e w' => e = .returned (.tuple #[.slice none 0 0, .int .i64 6]) ∧ w = w' := by
  go_enter Try.func13, Try.ntmps13
  go_wp2
  go_ret2
  exact ⟨rfl, rfl⟩

/-- Where a record's body begins, and ends, or the error's number: of a text and a place in it, or behind. -/
def bod (bs : List Nat) (k : Nat) : Nat × Nat × Nat :=
  if bs.length ≤ k then (0, 0, 3) else
  let r := tv true 0 (k + 1) (bs.drop (k + 1))
  if r.2.2 ≠ 0 then (0, 0, r.2.2) else if 1048576 < r.1 then (0, 0, 6) else if bs.length - r.2.1 < r.1 then (0, 0, 3) else (r.2.1, r.2.1 + r.1, 0)

set_option maxHeartbeats 400000 in
theorem bodyAt_any (A : Option Addr) (n c B k a p e : Nat) (bs : List Nat) (w : World) (hr : Row w B A n (bv bs)) (ho : Oct bs) (hn : n ≤ 9000000000000000000) (hk : k ≤ 9000000000000000001) (hb : bod bs k = (a, p, e)) :
    Calls Try.prog 32 #[.slice A n c, .int .i64 (k : Int)] w fun r w' => r = .returned (.tuple #[.int .i64 (a : Int), .int .i64 (p : Int), .int .i64 (e : Int)]) ∧ w = w' := by
  have HR := hid hr
  have hl := hr.1
  rw [bv_len] at hl
  have HO := hid ho
  have HL := hid hl
  by_cases h1 : n ≤ k
  · have hbe : (0, 0, 3) = (a, p, e) := by rw [← hb]; unfold bod; rw [if_pos (by omega)]
    obtain ⟨rfl, rfl, rfl⟩ : 0 = a ∧ 0 = p ∧ 3 = e := by simpa using hbe
    clear hb hr hl ho hbe
    go_enter Try.func32, Try.ntmps32
    go_wp2
    go_ret3
    exact ⟨rfl, rfl⟩
  · obtain ⟨x, q, y, hxyz⟩ : ∃ x q y, tv true 0 (k + 1) (bs.drop (k + 1)) = (x, q, y) := ⟨_, _, _, rfl⟩
    have hb2 : (if y ≠ 0 then (0, 0, y) else if 1048576 < x then (0, 0, 6) else if bs.length - q < x then (0, 0, 3) else (q, q + x, 0)) = (a, p, e) := by
      unfold bod at hb; rw [if_neg (show ¬ bs.length ≤ k by omega), hxyz] at hb; exact hb
    have HX := hid hxyz
    clear hb hr ho
    by_cases h2 : y = 0
    · subst h2
      obtain ⟨hx64, hq, hq2, _⟩ := tv_back _ _ _ _ (HO.out.drop _) hxyz
      rw [List.length_drop] at hq2
      have hqn : q ≤ n := by omega
      rw [if_neg (by omega)] at hb2
      by_cases h3 : 1048576 < x
      · rw [if_pos h3] at hb2
        obtain ⟨rfl, rfl, rfl⟩ : 0 = a ∧ 0 = p ∧ 6 = e := by simpa using hb2
        clear hb2 hxyz hq hq2 hl
        go_enter Try.func32, Try.ntmps32
        go_wp2_with fail
        have e1 : (k : Int) + 1 = ((k + 1 : Nat) : Int) := by omega
        rw [e1]
        clear e1
        refine (takeVary_3 A n c B (k + 1) x q 0 bs _ HR.out HO.out hn HX.out).mono ?_
        rintro r w' ⟨rfl, rfl⟩
        go_wp2
        go_ret3
        exact ⟨rfl, rfl⟩
      · rw [if_neg h3] at hb2
        by_cases h4 : n - q < x
        · rw [if_pos (by omega)] at hb2
          obtain ⟨rfl, rfl, rfl⟩ : 0 = a ∧ 0 = p ∧ 3 = e := by simpa using hb2
          clear hb2 hxyz hq hq2 hl
          go_enter Try.func32, Try.ntmps32
          go_wp2_with fail
          have e1 : (k : Int) + 1 = ((k + 1 : Nat) : Int) := by omega
          rw [e1]
          clear e1
          refine (takeVary_3 A n c B (k + 1) x q 0 bs _ HR.out HO.out hn HX.out).mono ?_
          rintro r w' ⟨rfl, rfl⟩
          go_wp2
          go_ret3
          exact ⟨rfl, rfl⟩
        · rw [if_neg (by omega)] at hb2
          obtain ⟨rfl, rfl, rfl⟩ : q = a ∧ q + x = p ∧ 0 = e := by simpa using hb2
          clear hb2 hxyz hq hq2 hl
          go_enter Try.func32, Try.ntmps32
          go_wp2_with fail
          have e1 : (k : Int) + 1 = ((k + 1 : Nat) : Int) := by omega
          rw [e1]
          clear e1
          refine (takeVary_3 A n c B (k + 1) x q 0 bs _ HR.out HO.out hn HX.out).mono ?_
          rintro r w' ⟨rfl, rfl⟩
          go_wp2
          go_ret3
          exact ⟨by simp, rfl⟩
    · have hbe : (0, 0, y) = (a, p, e) := by rw [← hb2, if_pos h2]
      obtain ⟨rfl, rfl, rfl⟩ : 0 = a ∧ 0 = p ∧ y = e := by simpa using hbe
      have hne : ((y : Int) != 0) = true := by rw [bne_iff_ne]; omega
      clear hb2 hbe hxyz hl
      go_enter Try.func32, Try.ntmps32
      go_wp2_with fail
      have e1 : (k : Int) + 1 = ((k + 1 : Nat) : Int) := by omega
      rw [e1]
      clear e1
      refine (takeVary_3 A n c B (k + 1) x q y bs _ HR.out HO.out hn HX.out).mono ?_
      rintro r w' ⟨rfl, rfl⟩
      go_wp2
      go_ret3
      exact ⟨rfl, rfl⟩

end Go.Proofs.Ytkbcmnheecihiaa
