/-
  Contracts of wire's isWidth, Fixed and TakeVary.
-/
import Derived.Test.YtldegdhpblkhhaaWC
import Derived.Laws.BitsAllLaws
namespace Go.Proofs.Ytldegdhpblkhhaa
open Go Go.RowKit

def widB (x : Int) : Bool := decide (1 ≤ x ∧ x ≤ 8)
theorem isWidth_any (x : Int) (w : World) : Calls Try.prog 43 #[.int .i64 x] w fun e w' => e = .returned (.bool (widB x)) ∧ w = w' := by
  by_cases h : 1 ≤ x
  · go_enter Try.func43, Try.ntmps43
    go_wp2
    all_goals (go_ret; exact ⟨ret_bool (by simp [widB, h]), rfl⟩)
  · go_enter Try.func43, Try.ntmps43
    go_wp2
    all_goals (go_ret; exact ⟨ret_bool (by simp [widB]; omega), rfl⟩)

theorem pow256 (k : Nat) : 256 ^ k = 2 ^ (8 * k) := by rw [Nat.pow_mul]
theorem shr8 (x k : Nat) : (x : Int) / 2 ^ (8 * k) = ((x / 256 ^ k : Nat) : Int) := by rw [pow256]; simp

def RetBE (base : Nat) (vs : List Value) (w : World) (e : Ending) (w' : World) : Prop := ∃ A n c, e = .returned (.tuple #[.slice A n c, .int .i64 0]) ∧ Own w' base 5 A n c vs ∧ Below base w w'

theorem fixed_bad (A : Option Addr) (n c : Nat) (wd : Int) (x : Nat) (w : World) (hw1 : -9223372036854775808 ≤ wd) (hw2 : wd ≤ 9223372036854775807) (h : widB wd = true → 256 ^ wd.toNat ≤ x) :
    Calls Try.prog 28 #[.slice A n c, .int .i64 wd, .int .u64 (x : Int)] w fun e w' => e = .returned (.tuple #[.slice none 0 0, .int .i64 1]) ∧ w = w' := by
  cases hb : widB wd with
  | false =>
    clear h
    go_enter Try.func28, Try.ntmps28
    go_wp2_with (go_at_call 43; refine (isWidth_any _ _).mono ?_; rintro e w' ⟨rfl, rfl⟩)
    go_ret2
    exact ⟨rfl, rfl⟩
  | true =>
    have h' := h hb
    clear h
    have hwb : 1 ≤ wd ∧ wd ≤ 8 := by simpa [widB] using hb
    obtain ⟨k, rfl⟩ : ∃ k : Nat, wd = k := ⟨wd.toNat, by omega⟩
    have hne : ((x : Int) / 2 ^ (8 * k) != 0) = true := by
      rw [shr8]
      have : 0 < x / 256 ^ k := Nat.div_pos (by simpa using h') (Nat.pow_pos (by omega))
      rw [bne_iff_ne]; omega
    have HB := hid hb
    have H' := hid h'
    clear hb h'
    go_enter Try.func28, Try.ntmps28
    go_wp2_with (go_at_call 43; refine (isWidth_any _ _).mono ?_; rintro e w' ⟨rfl, rfl⟩; have hb := HB.out)
    go_ret2
    exact ⟨rfl, rfl⟩

def FixRel (base : Nat) (bs : List Nat) (x wd : Nat) (w : World) (l i : Value) (wr : World) : Prop :=
  ∃ (k n c : Nat) (A : Option Addr) (ds : List Nat), k ≤ wd ∧ i = .int .i64 ((k : Int) - 1) ∧ l = .slice A n c ∧ ds ++ fixb x k = fixb x wd ∧ Own wr base 5 A n c (bv (bs ++ ds)) ∧ Below base w wr

set_option maxHeartbeats 400000 in
theorem fixed_ok (A : Option Addr) (n c B wd x : Nat) (bs : List Nat) (w : World) (hr : Row w B A n (bv bs)) (hB : B ≤ w.heap.size) (hn : n ≤ 1000000) (hw1 : 1 ≤ wd) (hw2 : wd ≤ 8) (hx : x < 256 ^ wd) :
    Calls Try.prog 28 #[.slice A n c, .int .i64 (wd : Int), .int .u64 (x : Int)] w (RetBE w.heap.size (bv (bs ++ fixb x wd)) w) := by
  have HR := hid hr
  have hnl := hr.1
  rw [bv_len] at hnl
  have HNL := hid hnl
  have hne : ((x : Int) / 2 ^ (8 * wd) != 0) = false := by
    rw [shr8, Nat.div_eq_of_lt hx]; rfl
  have HB : Hid (widB wd = true) := hid (by simp [widB]; omega)
  clear hr hnl hx
  go_enter Try.func28, Try.ntmps28
  go_wp2_with (first
    | (go_at_call 43; refine (isWidth_any _ _).mono ?_; rintro e w' ⟨rfl, rfl⟩; have hb := HB.out)
    | (go_at_call 41; refine (copied_any A n c B wd (bv bs) _ HR.out (bv_one bs) (by omega) hB).mono ?_; rintro e w1 ⟨A1, n1, c1, rfl, own1, bel1⟩))
  clear hne hb
  go_loopw [8, 9] (FixRel w.heap.size bs x wd w) (fun _ i _ => (intOf i + 1).toNat)
  case atStart => exact ⟨wd, n1, c1, A1, [], Nat.le_refl _, rfl, rfl, rfl, by simpa using own1, bel1⟩
  case round =>
    obtain ⟨k, n', c', A', ds, hk, rfl, rfl, hd, hown, hbel⟩ := hrel
    have hnl' := hown.len
    have hdl := congrArg List.length hd
    simp only [bv_len, List.length_append, fixb_len] at hnl' hdl
    have hn' : n' ≤ 1000008 := by have := HNL.out; omega
    have HD := hid hd
    have HOW := hid hown
    have HBL := hid hbel
    clear hd hown hbel hnl' hdl own1 bel1
    cases k with
    | zero =>
      go_wp2
      go_ret2
      refine ⟨A', n', c', rfl, ?_, HBL.out⟩
      have h1 := HD.out
      simp only [fixb, List.append_nil] at h1
      rw [← h1]; exact HOW.out
    | succ j =>
      have e1 : (((j + 1 : Nat) : Int) - 1) = (j : Int) := by omega
      rw [e1]
      clear e1
      go_wp2_with (at_builtin; refine wpList_app _ rfl (.tmp 29) (.tmp 35) 26 rfl w.heap.size 5 (.int .u8 0) 1 Try.underlying26 info5 rfl A' n' c' _ rfl (HOW.out.alloc _) (wr.heap.size + 1) _ 1 1 [_] rfl (Row.laid wr 5 [_]) (by intro u hu; simp at hu; subst hu; rfl) (by omega) (by omega) (by have := HBL.out.size; simp; omega) ?_; intro A2 c2 w2 own2 bel2)
      have e2 : (x : Int) / 2 ^ (8 * j) % 256 = ((x / 256 ^ j % 256 : Nat) : Int) := by rw [shr8]; simp
      rw [e2] at own2 bel2
      refine ⟨⟨j, n' + 1, c2, A2, ds ++ [x / 256 ^ j % 256], by omega, by rfl, rfl, ?_, ?_, (HBL.out.alloc HBL.out.size _).trans bel2⟩, by simp [intOf]⟩
      · rw [← HD.out]; simp [fixb]
      · rw [← List.append_assoc, bv_app]; exact own2

def TvRel (bs : List Nat) (k0 : Nat) (R : Nat × Nat × Nat) (a i : Value) : Prop :=
  ∃ k acc : Nat, k0 ≤ k ∧ i = .int .i64 (k : Int) ∧ a = .int .u64 (acc : Int) ∧ acc < 18446744073709551616 ∧ tv (decide (k = k0)) acc k (bs.drop k) = R

theorem takeVary_arg (A : Option Addr) (n c : Nat) (at_ : Int) (w : World) (h : at_ < 0) :
    Calls Try.prog 48 #[.slice A n c, .int .i64 at_] w fun e w' => e = .returned (.tuple #[.int .u64 0, .int .i64 0, .int .i64 1]) ∧ w = w' := by
  go_enter Try.func48, Try.ntmps48
  go_wp2
  go_ret3
  exact ⟨rfl, rfl⟩

/-- A number, a place, and an error's number. -/
def tri (k : IntKind) (r : Nat × Nat × Nat) : Ending := .returned (.tuple #[.int k (r.1 : Int), .int .i64 (r.2.1 : Int), .int .i64 (r.2.2 : Int)])

theorem or7 (acc x : Nat) (h : acc < 144115188075855872) : bits .or .u64 ((acc : Int) * 128) ((x : Int) % 128) = ((acc * 128 + x % 128 : Nat) : Int) := by
  have hm : x % 128 < 2 ^ 7 := Nat.mod_lt _ (by omega)
  have e1 : (acc : Int) * 128 = ((acc * 128 : Nat) : Int) := by simp
  have e2 : (x : Int) % 128 = ((x % 128 : Nat) : Int) := by simp
  rw [e1, e2, u64_or_nat _ _ (by omega) (by omega)]
  have := Nat.two_pow_add_eq_or_of_lt hm acc
  rw [show (2 : Nat) ^ 7 = 128 from rfl, Nat.mul_comm 128 acc] at this
  rw [this]

set_option maxRecDepth 100000 in
set_option maxHeartbeats 1000000 in
theorem takeVary_R (A : Option Addr) (n c B k0 : Nat) (bs : List Nat) (R : Nat × Nat × Nat) (w : World) (hr : Row w B A n (bv bs)) (ho : Oct bs) (hn : n ≤ 9000000000000000000) (hR : tv true 0 k0 (bs.drop k0) = R) :
    Calls Try.prog 48 #[.slice A n c, .int .i64 (k0 : Int)] w fun e w' => e = tri .u64 R ∧ w = w' := by
  have HR := hid hr
  have HO := hid ho
  have hnl := hr.1
  rw [bv_len] at hnl
  have HNL := hid hnl
  have HRR := hid hR
  clear hr ho hnl hR
  go_enter Try.func48, Try.ntmps48
  go_wp2
  go_loop [7, 8] (TvRel bs k0 R) (fun _ i => n - (intOf i).toNat)
  case atStart => exact ⟨k0, 0, Nat.le_refl _, rfl, rfl, by decide, by simpa using HRR.out⟩
  case round =>
    obtain ⟨k, acc, hk, rfl, rfl, hacc, hrec⟩ := hrel
    have HREC := hid hrec
    clear hrec HRR
    by_cases hlt : k < n
    · obtain ⟨b, o, u, rfl, hbb, hu, hcell⟩ := HR.out.at_ hlt
      have hkn : k < bs.length := by have := HNL.out; omega
      obtain ⟨x, hxx⟩ : ∃ x, x = bs[k] := ⟨_, rfl⟩
      have hu' : u = .int .u8 (x : Int) := by
        simp only [bv, List.getElem?_map, List.getElem?_eq_getElem hkn] at hu
        rw [hxx]; simpa using hu.symm
      subst hu'
      have hx : x < 256 := by rw [hxx]; exact HO.out _ (List.getElem_mem hkn)
      have HT : Hid (bs.drop k = x :: bs.drop (k + 1)) := hid (by rw [hxx]; exact List.drop_eq_getElem_cons hkn)
      clear hxx hu
      have hL64 := bitLen_le64 acc hacc
      have H57 := hid (bitLen_57 acc hacc)
      have HSTEP : Hid (tv (decide (k = k0)) acc k (x :: bs.drop (k + 1)) = R) := hid (by rw [← HT.out]; exact HREC.out)
      clear HREC HT
      by_cases hkx : k = k0 ∧ x = 128
      · have HF : Hid ((0, 0, 4) = R) := hid (by rw [← HSTEP.out]; simp only [tv]; rw [if_pos (.inl ⟨by simp [hkx.1], hkx.2⟩)])
        have hkb : ((k : Int) == (k0 : Int)) = true := by rw [hkx.1]; simp
        have hxb : ((x : Int) == 128) = true := by rw [hkx.2]; rfl
        clear hkx HSTEP H57
        go_wp2
        go_ret3
        exact ⟨by rw [← HF.out]; rfl, rfl⟩
      · by_cases hbig : 144115188075855872 ≤ acc
        · have HF : Hid ((0, 0, 4) = R) := hid (by rw [← HSTEP.out]; simp only [tv]; rw [if_pos (.inr hbig)])
          have hL : 57 < Lib.bitLen acc := H57.out.2 hbig
          by_cases hkk : k = k0
          · have hkb : ((k : Int) == (k0 : Int)) = true := by rw [hkk]; simp
            have hxb : ((x : Int) == 128) = false := by rw [beq_eq_false_iff_ne]; intro e; exact hkx ⟨hkk, by omega⟩
            clear hkx HSTEP H57 hbig hkk
            go_wp2_with (go_at_call 51; refine (len64_any _ _ hacc).mono ?_; rintro e w' ⟨rfl, rfl⟩; generalize Lib.bitLen acc = L at hL hL64)
            go_ret3
            exact ⟨by rw [← HF.out]; rfl, rfl⟩
          · have hkb : ((k : Int) == (k0 : Int)) = false := by rw [beq_eq_false_iff_ne]; omega
            clear hkx HSTEP H57 hbig hkk
            go_wp2_with (go_at_call 51; refine (len64_any _ _ hacc).mono ?_; rintro e w' ⟨rfl, rfl⟩; generalize Lib.bitLen acc = L at hL hL64)
            go_ret3
            exact ⟨by rw [← HF.out]; rfl, rfl⟩
        · have hL : Lib.bitLen acc ≤ 57 := by apply Nat.le_of_not_lt; intro e; exact hbig (H57.out.1 e)
          have HC : Hid (¬ ((decide (k = k0) = true ∧ x = 128) ∨ 144115188075855872 ≤ acc)) := hid (by simp only [decide_eq_true_eq]; rintro (e | e); exact hkx e; exact hbig e)
          have hsm : acc < 144115188075855872 := by omega
          by_cases hx8 : x < 128
          · have HF : Hid ((acc * 128 + x, k + 1, 0) = R) := hid (by rw [← HSTEP.out]; simp only [tv]; rw [if_neg HC.out, if_pos hx8])
            by_cases hkk : k = k0
            · have hkb : ((k : Int) == (k0 : Int)) = true := by rw [hkk]; simp
              have hxb : ((x : Int) == 128) = false := by rw [beq_eq_false_iff_ne]; intro e; exact hkx ⟨hkk, by omega⟩
              clear hkx H57 hbig hkk HC HSTEP
              go_wp2_with (go_at_call 51; refine (len64_any _ _ hacc).mono ?_; rintro e w' ⟨rfl, rfl⟩; generalize Lib.bitLen acc = L at hL hL64)
              go_ret3
              refine ⟨?_, rfl⟩
              rw [← HF.out]
              show Ending.returned (.tuple #[.int .u64 (bits .or .u64 ((acc : Int) * 128) ((x : Int) % 128)), .int .i64 ((k : Int) + 1), .int .i64 0]) = _
              rw [or7 acc x hsm, Nat.mod_eq_of_lt hx8]
              rfl
            · have hkb : ((k : Int) == (k0 : Int)) = false := by rw [beq_eq_false_iff_ne]; omega
              clear hkx H57 hbig hkk HC HSTEP
              go_wp2_with (go_at_call 51; refine (len64_any _ _ hacc).mono ?_; rintro e w' ⟨rfl, rfl⟩; generalize Lib.bitLen acc = L at hL hL64)
              go_ret3
              refine ⟨?_, rfl⟩
              rw [← HF.out]
              show Ending.returned (.tuple #[.int .u64 (bits .or .u64 ((acc : Int) * 128) ((x : Int) % 128)), .int .i64 ((k : Int) + 1), .int .i64 0]) = _
              rw [or7 acc x hsm, Nat.mod_eq_of_lt hx8]
              rfl
          · have HF : Hid (tv (decide (k + 1 = k0)) (acc * 128 + x % 128) (k + 1) (bs.drop (k + 1)) = R) := hid (by rw [← HSTEP.out]; simp only [tv]; rw [if_neg HC.out, if_neg hx8, decide_eq_false (by omega : ¬ k + 1 = k0)])
            by_cases hkk : k = k0
            · have hkb : ((k : Int) == (k0 : Int)) = true := by rw [hkk]; simp
              have hxb : ((x : Int) == 128) = false := by rw [beq_eq_false_iff_ne]; intro e; exact hkx ⟨hkk, by omega⟩
              clear hkx H57 hbig hkk HC HSTEP
              go_wp2_with (go_at_call 51; refine (len64_any _ _ hacc).mono ?_; rintro e w' ⟨rfl, rfl⟩; generalize Lib.bitLen acc = L at hL hL64)
              go_round
              case rel => exact ⟨k + 1, acc * 128 + x % 128, by omega, by go_num, by rw [or7 acc x hsm], by omega, HF.out⟩
              case measure => simp [intOf]; omega
            · have hkb : ((k : Int) == (k0 : Int)) = false := by rw [beq_eq_false_iff_ne]; omega
              clear hkx H57 hbig hkk HC HSTEP
              go_wp2_with (go_at_call 51; refine (len64_any _ _ hacc).mono ?_; rintro e w' ⟨rfl, rfl⟩; generalize Lib.bitLen acc = L at hL hL64)
              go_round
              case rel => exact ⟨k + 1, acc * 128 + x % 128, by omega, by go_num, by rw [or7 acc x hsm], by omega, HF.out⟩
              case measure => simp [intOf]; omega
    · have HN : Hid (tv (decide (k = k0)) acc k [] = R) := hid (by have h1 : bs.drop k = [] := List.drop_eq_nil_of_le (by have := HNL.out; omega); rw [← h1]; exact HREC.out)
      go_wp2
      go_ret3
      exact ⟨by rw [← HN.out]; rfl, rfl⟩

theorem takeVary_any (A : Option Addr) (n c B k0 : Nat) (bs : List Nat) (w : World) (hr : Row w B A n (bv bs)) (ho : Oct bs) (hn : n ≤ 9000000000000000000) :
    Calls Try.prog 48 #[.slice A n c, .int .i64 (k0 : Int)] w fun e w' => e = tri .u64 (tv true 0 k0 (bs.drop k0)) ∧ w = w' :=
  takeVary_R A n c B k0 bs _ w hr ho hn rfl

theorem takeVary_3 (A : Option Addr) (n c B k0 a p e : Nat) (bs : List Nat) (w : World) (hr : Row w B A n (bv bs)) (ho : Oct bs) (hn : n ≤ 9000000000000000000) (hR : tv true 0 k0 (bs.drop k0) = (a, p, e)) :
    Calls Try.prog 48 #[.slice A n c, .int .i64 (k0 : Int)] w fun r w' => r = .returned (.tuple #[.int .u64 (a : Int), .int .i64 (p : Int), .int .i64 (e : Int)]) ∧ w = w' :=
  takeVary_R A n c B k0 bs (a, p, e) w hr ho hn hR
end Go.Proofs.Ytldegdhpblkhhaa
