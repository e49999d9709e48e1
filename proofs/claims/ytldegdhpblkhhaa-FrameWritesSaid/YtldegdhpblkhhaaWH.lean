/-
  Contracts of wire's TakeFixed, Record, bodyAt and TakeRecord.
-/
import Derived.Test.YtldegdhpblkhhaaWG
namespace Go.Proofs.Ytldegdhpblkhhaa
open Go Go.RowKit

set_option maxRecDepth 100000 in
set_option maxHeartbeats 400000 in
theorem takeFixed_ok (A : Option Addr) (n c B k0 wd : Nat) (bs : List Nat) (w : World) (hr : Row w B A n (bv bs)) (ho : Oct bs) (hn : n ≤ c) (hn2 : n ≤ 1000000000) (hw1 : 1 ≤ wd) (hw2 : wd ≤ 8) (hk : k0 + wd ≤ n) :
    Calls Try.prog 54 #[.slice A n c, .int .i64 (k0 : Int), .int .i64 (wd : Int)] w fun r w' => r = .returned (.tuple #[.int .u64 (fxv 0 ((bs.drop k0).take wd) : Nat), .int .i64 ((k0 : Int) + (wd : Int)), .int .i64 0]) ∧ w = w' := by
  obtain ⟨b, o, rfl, hb, hc⟩ := hr.2 (by omega)
  have hl := hr.1
  rw [bv_len] at hl
  have HL := hid hl
  have HC := hid hc
  have HO := hid ho
  have hck : ¬ c = k0 := by omega
  have HW : Hid (widB wd = true) := hid (by simp [widB]; omega)
  clear hr hl hc ho
  go_enter Try.func54, Try.ntmps54
  go_wp2_with (go_at_call 43; refine (isWidth_any _ _).mono ?_; rintro e w' ⟨rfl, rfl⟩; have hwb := HW.out)
  go_loop [9, 32] (fun a i => ∃ k : Nat, k ≤ wd ∧ i = .int .i64 (k : Int) ∧ a = .int .u64 ((fxv 0 ((bs.drop k0).take k) : Nat) : Int)) (fun _ i => wd - (intOf i).toNat)
  case atStart => exact ⟨0, Nat.zero_le _, rfl, rfl⟩
  case round =>
    obtain ⟨k, hkw, rfl, rfl⟩ := hrel
    by_cases hlt : k < wd
    · have hkn : k0 + k < bs.length := by have := HL.out; omega
      obtain ⟨x, hxx⟩ : ∃ x, x = bs[k0 + k] := ⟨_, rfl⟩
      have hcell : w.cell? ⟨b, o + k0 + k, none⟩ = some (.int .u8 (x : Int)) := by
        rw [Nat.add_assoc]
        refine HC.out (k0 + k) _ ?_
        simp [bv, List.getElem?_eq_getElem hkn, hxx]
      have hx : x < 256 := by rw [hxx]; exact HO.out _ (List.getElem_mem hkn)
      have hdl : k < (bs.drop k0).length := by rw [List.length_drop]; omega
      have HT : Hid ((bs.drop k0).take (k + 1) = (bs.drop k0).take k ++ [x]) := hid (by rw [List.take_succ_eq_append_getElem hdl, List.getElem_drop, hxx])
      have hacc : fxv 0 ((bs.drop k0).take k) < 72057594037927936 := by
        have h1 := fxv_lt ((bs.drop k0).take k) ((HO.out.drop _).take _)
        have h2 : ((bs.drop k0).take k).length ≤ 7 := by rw [List.length_take]; omega
        have h3 := Nat.pow_le_pow_right (show 0 < 256 by omega) h2
        have h4 : (256 : Nat) ^ 7 = 72057594037927936 := by decide
        omega
      have HS : Hid (fxv 0 ((bs.drop k0).take (k + 1)) = fxv 0 ((bs.drop k0).take k) * 256 + x) := hid (by rw [HT.out, fxv_snoc])
      clear hxx HT
      generalize fxv 0 ((bs.drop k0).take k) = acc at HS hacc ⊢
      go_wp2
      go_round
      case rel => exact ⟨k + 1, by omega, by go_num, by rw [HS.out, or8 acc x hacc hx]⟩
      case measure => simp [intOf]; omega
    · obtain rfl : k = wd := by omega
      go_wp2
      go_ret3
      exact ⟨rfl, rfl⟩
/-- A record's bytes. -/
def rcd (kd : Nat) (body : List Nat) : List Nat := kd :: (vary body.length ++ body)

set_option maxHeartbeats 400000 in
/-- Where a record's body begins, and ends, or the error's number: of a text and a place in it, or behind. -/
def bod (bs : List Nat) (k : Nat) : Nat × Nat × Nat :=
  if bs.length ≤ k then (0, 0, 3) else
  let r := tv true 0 (k + 1) (bs.drop (k + 1))
  if r.2.2 ≠ 0 then (0, 0, r.2.2) else if 1048576 < r.1 then (0, 0, 6) else if bs.length - r.2.1 < r.1 then (0, 0, 3) else (r.2.1, r.2.1 + r.1, 0)

end Go.Proofs.Ytldegdhpblkhhaa
