/-
  Contracts of wire's fold, unfold, Sign, TakeSign, TakeFixed, and of the statements' few.
-/
import Derived.Test.YtkbcmnheecihiaaF
namespace Go.Proofs.Ytkbcmnheecihiaa
open Go Go.RowKit

/-- A signed number's number, and back. -/
def fo (x : Int) : Nat := if x < 0 then (-2 * x - 1).toNat else (2 * x).toNat
def unf (n : Nat) : Int := if n % 2 = 1 then -((n / 2 : Nat) : Int) - 1 else ((n / 2 : Nat) : Int)
theorem unf_fo (x : Int) : unf (fo x) = x := by
  unfold fo unf; split
  · rw [if_pos (by omega)]; omega
  · rw [if_neg (by omega)]; omega
theorem fo_unf (n : Nat) : fo (unf n) = n := by
  unfold fo unf
  by_cases h : n % 2 = 1
  · rw [if_pos h, if_pos (by omega)]; omega
  · rw [if_neg h, if_neg (by omega)]; omega
theorem fo_lt (x : Int) (h1 : -9223372036854775808 ≤ x) (h2 : x ≤ 9223372036854775807) : fo x < 18446744073709551616 := by unfold fo; split <;> omega

theorem xor_m1 (x : Int) (h1 : -9223372036854775808 ≤ x) (h2 : x ≤ 9223372036854775807) : bits .xor .i64 (-1) x = -x - 1 := by
  show IntKind.i64.wrap ((BitVec.ofInt 64 (-1) ^^^ BitVec.ofInt 64 x).toNat : Int) = _
  rw [show BitVec.ofInt 64 (-1) = BitVec.allOnes 64 by decide, BitVec.allOnes_xor, BitVec.toNat_not, IntKind.wrap_i64]
  have e : (((BitVec.ofInt 64 x).toNat : Nat) : Int) = x % 18446744073709551616 := by
    rw [BitVec.toNat_ofInt]; omega
  generalize (BitVec.ofInt 64 x).toNat = m at e ⊢
  have hm : m < 18446744073709551616 := by omega
  rw [show (2 : Nat) ^ 64 = 18446744073709551616 by decide]
  omega

theorem fold_any (x : Int) (w : World) (h1 : -9223372036854775808 ≤ x) (h2 : x ≤ 9223372036854775807) : Calls Try.prog 29 #[.int .i64 x] w fun e w' => e = .returned (.int .u64 (fo x : Nat)) ∧ w = w' := by
  by_cases h : x < 0
  · go_enter Try.func29, Try.ntmps29
    go_wp2
    go_ret
    exact ⟨ret_int (by rw [xor_m1 x h1 h2, IntKind.wrap_u64, IntKind.wrap_u64, IntKind.wrap_u64]; unfold fo; rw [if_pos (by assumption)]; omega), rfl⟩
  · go_enter Try.func29, Try.ntmps29
    go_wp2
    go_ret
    exact ⟨ret_int (by unfold fo; rw [if_neg (by omega)]; omega), rfl⟩

theorem unfold_any (n : Nat) (w : World) (h : n < 18446744073709551616) : Calls Try.prog 31 #[.int .u64 (n : Int)] w fun e w' => e = .returned (.int .i64 (unf n)) ∧ w = w' := by
  by_cases h1 : n % 2 = 1
  · have hb : (((n : Int) % 2) == 1) = true := by rw [beq_iff_eq]; omega
    go_enter Try.func31, Try.ntmps31
    go_wp2
    go_ret
    exact ⟨ret_int (by rw [xor_m1 _ (by omega) (by omega)]; unfold unf; rw [if_pos h1]; omega), rfl⟩
  · have hb : (((n : Int) % 2) == 1) = false := by rw [beq_eq_false_iff_ne]; omega
    go_enter Try.func31, Try.ntmps31
    go_wp2
    go_ret
    exact ⟨ret_int (by unfold unf; rw [if_neg h1]; omega), rfl⟩
/-! Sign -/
def SignRel (base : Nat) (bs : List Nat) (ns : List Int) (w : World) (l i : Value) (wr : World) : Prop :=
  ∃ (k n c : Nat) (A : Option Addr), k ≤ ns.length ∧ i = .int .i64 (k : Int) ∧ l = .slice A n c ∧ Own wr base 5 A n c (bv (bs ++ varies ((ns.take k).map fo))) ∧ Below base w wr

set_option maxHeartbeats 400000 in
theorem sign_any (A A2 : Option Addr) (n c m c2 B B2 : Nat) (bs : List Nat) (ns : List Int) (w : World) (hb : Row w B A n (bv bs)) (hB : B ≤ w.heap.size) (hns : Row w B2 A2 m (sv ns)) (hB2 : B2 ≤ w.heap.size) (hx : ∀ x ∈ ns, -9223372036854775808 ≤ x ∧ x ≤ 9223372036854775807)
    (hn : n ≤ 1000000) (hm : m ≤ 10000) : Calls Try.prog 17 #[.slice A n c, .slice A2 m c2] w (RetB w.heap.size (bv (bs ++ varies (ns.map fo))) w) := by
  have HB := hid hb
  have HN := hid hns
  have HX := hid hx
  have hml := hns.1
  have hnl := hb.1
  rw [sv_len] at hml
  rw [bv_len] at hnl
  have HM := hid hml
  have HNL := hid hnl
  clear hb hns hx hml hnl
  go_enter Try.func17, Try.ntmps17
  go_wp2_with (go_at_call 26; refine (copied_any A n c B m (bv bs) _ HB.out (bv_one bs) (by omega) hB).mono ?_; rintro e w1 ⟨A1, n1, c1, rfl, own1, bel1⟩)
  go_loopw [5, 14] (SignRel w.heap.size bs ns w) (fun _ i _ => m - (intOf i).toNat)
  case atStart => exact ⟨0, n1, c1, A1, Nat.zero_le _, rfl, rfl, by simpa [varies] using own1, bel1⟩
  case round =>
    obtain ⟨k, n', c', A', hk, rfl, rfl, hown, hbel⟩ := hrel
    have hkm : k ≤ m := by have := HM.out; omega
    have hln : n' ≤ 1100000 := by
      have h1 := hown.len
      have h2 := varies_len ((ns.take k).map fo) (fun x hx => by
        obtain ⟨y, hy, rfl⟩ := List.mem_map.1 hx
        have := HX.out y (List.mem_of_mem_take hy)
        exact fo_lt y this.1 this.2)
      have h3 : ((ns.take k).map fo).length ≤ k := by simp; omega
      have := HNL.out
      rw [bv_len, List.length_append] at h1
      omega
    have HO := hid hown
    have HBL := hid hbel
    clear hown hbel own1 bel1
    by_cases hlt : k < m
    · obtain ⟨b, o, u, rfl, hbb, hu, hcell⟩ := (HN.out.below (HBL.out.mono hB2)).at_ hlt
      have hkn : k < ns.length := by have := HM.out; omega
      obtain ⟨x, hxx⟩ : ∃ x, x = ns[k] := ⟨_, rfl⟩
      have hu' : u = .int .i64 x := by
        simp only [sv, List.getElem?_map, List.getElem?_eq_getElem hkn] at hu
        rw [hxx]; simpa using hu.symm
      subst hu'
      have hx64 : -9223372036854775808 ≤ x ∧ x ≤ 9223372036854775807 := by rw [hxx]; exact HX.out _ (List.getElem_mem hkn)
      have HT : Hid (ns.take (k + 1) = ns.take k ++ [x]) := hid (by rw [hxx]; exact List.take_succ_eq_append_getElem hkn)
      clear hxx hu
      go_wp2_with (first
        | (go_at_call 29; refine (fold_any _ _ hx64.1 hx64.2).mono ?_; rintro e w2 ⟨rfl, rfl⟩)
        | (go_at_call 27; refine (addVary_any A' n' c' w.heap.size _ (fo x) _ HO.out (fo_lt x hx64.1 hx64.2) (by omega) HBL.out.size).mono ?_; rintro e w2 ⟨A3, n3, c3, rfl, own3, bel3⟩))
      go_roundw
      case rel => exact ⟨k + 1, n3, c3, A3, by omega, by go_num, rfl, by rw [HT.out, List.map_append, List.map_singleton, varies_snoc, ← List.append_assoc]; exact own3, HBL.out.trans bel3⟩
      case measure => simp [intOf]; omega
    · go_wp2
      go_ret
      refine ⟨A', n', c', rfl, ?_, HBL.out⟩
      have := HO.out
      rwa [List.take_of_length_le (by have := HM.out; omega)] at this

theorem takeSign_3 (A : Option Addr) (n c B k0 a p e : Nat) (bs : List Nat) (w : World) (hr : Row w B A n (bv bs)) (ho : Oct bs) (hn : n ≤ 9000000000000000000) (ha : a < 18446744073709551616) (hR : tv true 0 k0 (bs.drop k0) = (a, p, e)) :
    Calls Try.prog 20 #[.slice A n c, .int .i64 (k0 : Int)] w fun r w' => r = .returned (.tuple #[.int .i64 (unf a), .int .i64 (p : Int), .int .i64 (e : Int)]) ∧ w = w' := by
  have HR := hid hR
  have HW := hid hr
  clear hR hr
  go_enter Try.func20, Try.ntmps20
  go_wp2_with (first
    | (go_at_call 19; refine (takeVary_3 A n c B k0 a p e bs _ HW.out ho hn HR.out).mono ?_; rintro r w' ⟨rfl, rfl⟩)
    | (go_at_call 31; refine (unfold_any _ _ ha).mono ?_; rintro r w' ⟨rfl, rfl⟩))
  go_ret3
  exact ⟨rfl, rfl⟩

/-! few -/
/-- The cells of slices. -/
def lv (l : List (Option Addr × Nat × Nat)) : List Value := l.map fun t => .slice t.1 t.2.1 t.2.2
theorem few_any (A : Option Addr) (m c B : Nat) (l : List (Option Addr × Nat × Nat)) (r : Bool) (w : World) (hr : Row w B A m (lv l)) (hm : m ≤ 1000) (hs : ∀ t ∈ l, t.2.1 ≤ 9223372036854775807) (hres : (l.all fun t => decide (t.2.1 ≤ 3000)) = r) :
    Calls Try.prog 9 #[.slice A m c] w fun e w' => e = .returned (.bool r) ∧ w = w' := by
  have HR := hid hr
  have HS := hid hs
  have hl := hr.1
  have HRES := hid hres
  rw [lv, List.length_map] at hl
  have HL := hid hl
  clear hr hs hl hres
  go_enter Try.func9, Try.ntmps9
  go_wp2
  go_loop [7] (fun i => ∃ k : Nat, k ≤ m ∧ i = .int .i64 (k : Int) ∧ ((l.drop k).all fun t => decide (t.2.1 ≤ 3000)) = r) (fun i => m - (intOf i).toNat)
  case atStart => exact ⟨0, Nat.zero_le _, rfl, by simpa using HRES.out⟩
  case round =>
    obtain ⟨k, hk, rfl, hrec⟩ := hrel
    have HREC := hid hrec
    clear hrec HRES
    by_cases hlt : k < m
    · obtain ⟨b, o, u, rfl, hbb, hu, hcell⟩ := HR.out.at_ hlt
      have hkn : k < l.length := by have := HL.out; omega
      obtain ⟨t, htt⟩ : ∃ t, t = l[k] := ⟨_, rfl⟩
      obtain ⟨Ak, nk, ck⟩ := t
      have hu' : u = .slice Ak nk ck := by
        simp only [lv, List.getElem?_map, List.getElem?_eq_getElem hkn, ← htt] at hu
        simpa using hu.symm
      subst hu'
      have hnk : nk ≤ 9223372036854775807 := HS.out (Ak, nk, ck) (by rw [htt]; exact List.getElem_mem hkn)
      have HT : Hid (l.drop k = (Ak, nk, ck) :: l.drop (k + 1)) := hid (by rw [htt]; exact List.drop_eq_getElem_cons hkn)
      clear htt hu
      by_cases h3 : nk ≤ 3000
      · have HF : Hid (((l.drop (k + 1)).all fun t => decide (t.2.1 ≤ 3000)) = r) := hid (by have := HREC.out; rw [HT.out] at this; simpa [h3] using this)
        clear HREC HT
        go_wp2
        go_round
        case rel => exact ⟨k + 1, by omega, by go_num, HF.out⟩
        case measure => simp [intOf]; omega
      · have HF : Hid (false = r) := hid (by have := HREC.out; rw [HT.out] at this; rw [← this]; simp; omega)
        clear HREC HT
        go_wp2
        go_ret
        exact ⟨ret_bool HF.out, rfl⟩
    · have HF : Hid (true = r) := hid (by have := HREC.out; rw [List.drop_eq_nil_of_le (by have := HL.out; omega)] at this; simpa using this)
      clear HREC
      go_wp2
      go_ret
      exact ⟨ret_bool HF.out, rfl⟩

/-! TakeFixed -/
/-- The number that bytes are, the highest first. -/
def fxv (a : Nat) (l : List Nat) : Nat := l.foldl (fun n x => n * 256 + x) a
theorem or8 (acc x : Nat) (h : acc < 72057594037927936) (hx : x < 256) : bits .or .u64 ((acc : Int) * 256) (x : Int) = ((acc * 256 + x : Nat) : Int) := by
  have hm : x < 2 ^ 8 := hx
  have e1 : (acc : Int) * 256 = ((acc * 256 : Nat) : Int) := by simp
  rw [e1, u64_or_nat _ _ (by omega) (by omega)]
  have := Nat.two_pow_add_eq_or_of_lt hm acc
  rw [show (2 : Nat) ^ 8 = 256 from rfl, Nat.mul_comm 256 acc] at this
  rw [this]
theorem fxv_lt (l : List Nat) (ho : Oct l) : fxv 0 l < 256 ^ l.length := by
  have : ∀ (l : List Nat) (a : Nat), Oct l → fxv a l < (a + 1) * 256 ^ l.length := by
    intro l
    induction l with
    | nil => intro a _; simp [fxv]
    | cons x l ih =>
      intro a ho
      have h1 := ih (a * 256 + x) (fun y hy => ho y (List.mem_cons_of_mem _ hy))
      have h2 := ho x (List.mem_cons_self ..)
      have h3 : (a * 256 + x + 1) * 256 ^ l.length ≤ (a + 1) * 256 * 256 ^ l.length := Nat.mul_le_mul_right _ (by omega)
      simp only [fxv, List.foldl_cons, List.length_cons, Nat.pow_succ] at h1 ⊢
      rw [Nat.mul_comm (256 ^ l.length) 256, ← Nat.mul_assoc]
      omega
  simpa using this l 0 ho
theorem fxv_snoc (l : List Nat) (x : Nat) : fxv 0 (l ++ [x]) = fxv 0 l * 256 + x := by simp [fxv]
theorem fxv_fixb (x : Nat) : ∀ (k a : Nat), a = x / 256 ^ k → fxv a (fixb x k) = x
  | 0, a, h => by simp [fixb, fxv, h]
  | k + 1, a, h => by
    simp only [fixb, fxv, List.foldl_cons]
    refine fxv_fixb x k _ ?_
    rw [h, Nat.pow_succ, ← Nat.div_div_eq_div_mul]
    omega

end Go.Proofs.Ytkbcmnheecihiaa
