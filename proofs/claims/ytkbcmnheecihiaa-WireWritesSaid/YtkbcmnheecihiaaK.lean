/-
  The walk of WireAgain.
-/
import Derived.Test.YtkbcmnheecihiaaJ
import Derived.Deep.DeepCutAuto
import Derived.RegionTactic
import Derived.BigRegion
namespace Go.Proofs.Ytkbcmnheecihiaa
open Go Go.RowKit

theorem few1 (A0 : Option Addr) (n0 c0 g : Nat) (r : Bool) (w : World) (hg : g = w.heap.size) (h0 : n0 ≤ 9223372036854775807) (hr : decide (n0 ≤ 3000) = r) :
    Calls Try.prog 9 #[.slice (some ⟨g, 0, none⟩) 1 1] (w.alloc (.cells #[.slice A0 n0 c0] 22)) fun e w' => e = .returned (.bool r) ∧ (w.alloc (.cells #[.slice A0 n0 c0] 22)) = w' :=
  few_any _ 1 1 (g + 1) [(A0, n0, c0)] r _ (Row.laid' w 22 [.slice A0 n0 c0] g hg) (by omega) (by intro t ht; simp at ht; rcases ht with rfl; assumption) (by simpa using hr)

theorem again_far (A0 : Option Addr) (n0 c0 : Nat) (w : World) (h0 : n0 ≤ 9223372036854775807) (hs : ¬ n0 ≤ 3000) :
    Calls Try.prog 5 #[.slice A0 n0 c0] w (OkP w) := by
  have HFW : Hid (decide (n0 ≤ 3000) = false) := hid (by simpa using hs)
  clear hs
  go_enter Try.func5, Try.ntmps5
  go_wp2_with fail
  refine (live_any w).mono ?_
  rintro e w0 ⟨rfl, bel0⟩
  have HB0 := hid bel0
  clear bel0
  go_wp2_with fail
  refine (few1 A0 n0 c0 _ false w0 rfl h0 HFW.out).mono ?_
  rintro e w1 ⟨rfl, rfl⟩
  go_wp2_with fail
  go_ret
  exact ⟨rfl, HB0.out.alloc HB0.out.size _⟩

theorem takeVary_0 (A : Option Addr) (n c B a p e : Nat) (bs : List Nat) (w : World) (hr : Row w B A n (bv bs)) (ho : Oct bs) (hn : n ≤ 9000000000000000000) (hR : tv true 0 0 bs = (a, p, e)) :
    Calls Try.prog 19 #[.slice A n c, .int .i64 0] w fun r w' => r = .returned (.tuple #[.int .u64 (a : Int), .int .i64 (p : Int), .int .i64 (e : Int)]) ∧ w = w' :=
  takeVary_3 A n c B 0 a p e bs w hr ho hn hR

theorem takeSign_0 (A : Option Addr) (n c B a p e : Nat) (bs : List Nat) (w : World) (hr : Row w B A n (bv bs)) (ho : Oct bs) (hn : n ≤ 9000000000000000000) (ha : a < 18446744073709551616) (hR : tv true 0 0 bs = (a, p, e)) :
    Calls Try.prog 20 #[.slice A n c, .int .i64 0] w fun r w' => r = .returned (.tuple #[.int .i64 (unf a), .int .i64 (p : Int), .int .i64 (e : Int)]) ∧ w = w' :=
  takeSign_3 A n c B 0 a p e bs w hr ho hn ha hR
theorem sign_one (y : Int) (g : Nat) (w : World) (hg : g = w.heap.size) (h1 : -9223372036854775808 ≤ y) (h2 : y ≤ 9223372036854775807) :
    Calls Try.prog 17 #[.slice none 0 0, .slice (some ⟨g, 0, none⟩) 1 1] (w.alloc (.cells #[.int .i64 y] 2)) fun e w' => ∃ A n c, e = .returned (.slice A n c) ∧ Own w' w.heap.size 5 A n c (bv (vary (fo y))) ∧ Below w.heap.size w w' := by
  refine (sign_any none _ 0 0 1 1 0 (g + 1) [] [y] _ (Row.nil _ _ _) (Nat.zero_le _) (Row.laid' w 2 [.int .i64 y] g hg) (by simp; omega) (by intro z hz; simp at hz; omega) (by omega) (by omega)).mono ?_
  rintro e w3 ⟨A3, n3, c3, rfl, own3, bel3⟩
  rw [List.nil_append, List.map_singleton, varies1] at own3
  exact ⟨A3, n3, c3, rfl, own3.base_le (by simp), ((Below.refl _ w).alloc (Nat.le_refl _) _).trans (bel3.mono (by simp))⟩
theorem unf_range (n : Nat) (h : n < 18446744073709551616) : -9223372036854775808 ≤ unf n ∧ unf n ≤ 9223372036854775807 := by unfold unf; split <;> omega
theorem takeRecord_err0 (A : Option Addr) (n c B a p e : Nat) (bs : List Nat) (w : World) (hr : Row w B A n (bv bs)) (ho : Oct bs) (hn : n ≤ 9000000000000000000) (hb : bod bs 0 = (a, p, e)) (he : e ≠ 0) :
    Calls Try.prog 21 #[.slice A n c, .int .i64 0] w fun r w' => r = .returned (.tuple #[.int .u8 0, .slice none 0 0, .int .i64 0, .int .i64 (e : Int)]) ∧ w = w' := takeRecord_err A n c B 0 a p e bs w hr ho hn (by omega) hb he
theorem takeRecord_ok0 (A : Option Addr) (n c B p q : Nat) (bs : List Nat) (w : World) (hr : Row w B A n (bv bs)) (hB : B ≤ w.heap.size) (ho : Oct bs) (hn : n ≤ 100000000) (hnc : n ≤ c) (hb : bod bs 0 = (p, q, 0)) :
    Calls Try.prog 21 #[.slice A n c, .int .i64 0] w (RetTR (bs.getD 0 0) q ((bs.take q).drop p) w) := takeRecord_ok A n c B 0 p q bs w hr hB ho hn hnc hb

def RetAll (us : List Nat) (a3 p3 e3 : Nat) (w : World) (r : Ending) (w' : World) : Prop :=
  ∃ (K : Nat) (A : Option Addr) (n c Q : Nat), r = .returned (.tuple #[.int .u8 (K : Int), .slice A n c, .int .i64 (Q : Int), .int .i64 (e3 : Int)]) ∧ (e3 = 0 → K = us.getD 0 0 ∧ Q = p3 ∧ Own w' w.heap.size 5 A n c (bv ((us.take p3).drop a3))) ∧ Below w.heap.size w w'
theorem takeRecord_all (A : Option Addr) (n c B a p e : Nat) (bs : List Nat) (w : World) (hr : Row w B A n (bv bs)) (hB : B ≤ w.heap.size) (ho : Oct bs) (hn : n ≤ 100000000) (hnc : n ≤ c) (hb : bod bs 0 = (a, p, e)) :
    Calls Try.prog 21 #[.slice A n c, .int .i64 0] w (RetAll bs a p e w) := by
  by_cases he : e = 0
  · subst he
    refine (takeRecord_ok0 A n c B a p bs w hr hB ho hn hnc hb).mono ?_
    rintro r w1 ⟨A5, n5, c5, rfl, own5, bel5⟩
    exact ⟨bs.getD 0 0, A5, n5, c5, p, rfl, fun _ => ⟨rfl, rfl, own5⟩, bel5⟩
  · refine (takeRecord_err0 A n c B a p e bs w hr ho (by omega) hb he).mono ?_
    rintro r w1 ⟨rfl, rfl⟩
    exact ⟨0, none, 0, 0, 0, rfl, fun h => absurd h he, Below.refl _ _⟩

/-- A text's records, one behind the other, are the text. -/
theorem Recs.whole {bs : List Nat} (ho : Oct bs) {k : Nat} {ls : List (List Nat)} (h : Recs bs k 0 ls) : ls.flatten = bs.drop k ∧ ∀ l ∈ ls, 2 ≤ l.length := by
  generalize h0 : 0 = e at h
  induction h with
  | done h => exact ⟨by rw [List.drop_eq_nil_of_le h]; rfl, by intro l hl; cases hl⟩
  | bad _ _ h3 => exact absurd h0.symm h3
  | @more k p q ls h1 h2 ih =>
    obtain ⟨hk, h3, h4, h5, _⟩ := bod_ok ho h1
    obtain ⟨i1, i2⟩ := ih rfl
    refine ⟨?_, fun l hl => ?_⟩
    · rw [List.flatten_cons, i1]
      have e : bs.drop k = (bs.take q).drop k ++ bs.drop q := by
        conv => lhs; rw [← List.take_append_drop q bs]
        rw [List.drop_append, List.length_take, show k - min q bs.length = 0 by omega, List.drop_zero]
      rw [e]
    · rcases List.mem_cons.1 hl with rfl | hl
      · rw [List.length_drop, List.length_take]; omega
      · exact i2 l hl
  | worse _ _ h3 _ => exact absurd h0.symm h3

theorem len_flatten {ls : List (List Nat)} {l : List Nat} (h : l ∈ ls) : l.length ≤ ls.flatten.length := by
  induction ls with
  | nil => cases h
  | cons m ls ih =>
    rw [List.flatten_cons, List.length_append]
    rcases List.mem_cons.1 h with rfl | h
    · omega
    · have := ih h; omega

def AllRel (ls : List (List Nat)) (w : World) (a i : Value) (wr : World) : Prop :=
  ∃ (k n c : Nat) (A : Option Addr), k ≤ ls.length ∧ i = .int .i64 (k : Int) ∧ a = .slice A n c ∧ Own wr w.heap.size 5 A n c (bv (ls.take k).flatten) ∧ Below w.heap.size w wr

set_option maxRecDepth 100000 in
set_option maxHeartbeats 4000000 in
theorem again_near (A0 : Option Addr) (n0 c0 : Nat) (us : List Nat) (w : World) (r0 : Row w w.heap.size A0 n0 (bv us)) (o0 : Oct us) (q0 : n0 ≤ c0) (h0 : n0 ≤ 3000) : Calls Try.prog 5 #[.slice A0 n0 c0] w (OkP w) := by
  have HFW : Hid (decide (n0 ≤ 3000) = true) := hid (by simpa using h0)
  have l0 := r0.1
  rw [bv_len] at l0
  have L0 := hid l0
  have R0 := hid r0
  have O0 := hid o0
  obtain ⟨x, p, e, hv⟩ : ∃ x p e, tv true 0 0 us = (x, p, e) := ⟨_, _, _, rfl⟩
  have hx64 : x < 18446744073709551616 := by
    by_cases he : e = 0
    · subst he; exact (tv_back us 0 x p o0 hv).1
    · have := tv_err us true 0 0 (by rw [hv]; exact he)
      rw [hv] at this
      rcases this with h | h <;> (have := (Prod.mk.inj h).1; omega)
  have hyr := unf_range x hx64
  have HV := hid hv
  obtain ⟨a3, p3, e3, hb3⟩ : ∃ a p e, bod us 0 = (a, p, e) := ⟨_, _, _, rfl⟩
  have HB3 := hid hb3
  obtain ⟨er, ls, hrec⟩ := Recs.total us o0 us.length 0 (by omega)
  have HREC := hid hrec
  clear l0 r0 o0 hv hb3 hrec
  go_enter Try.func5, Try.ntmps5
  go_wp2_with fail
  refine (live_any w).mono ?_
  rintro r w0 ⟨rfl, bel0⟩
  have HB0 := hid bel0
  clear bel0
  go_wp2_with fail
  refine (few1 A0 n0 c0 _ true w0 rfl (by omega) HFW.out).mono ?_
  rintro r w1 ⟨rfl, rfl⟩
  have HB1 : Hid (Below w.heap.size w (w0.alloc (.cells #[.slice A0 n0 c0] 22))) := hid (HB0.out.alloc HB0.out.size _)
  clear HB0
  go_wp2_with fail
  generalize (w0.alloc (.cells #[.slice A0 n0 c0] 22)) = W at HB1 ⊢
  refine (takeVary_0 A0 n0 c0 w.heap.size x p e us W (R0.out.below HB1.out) O0.out (by omega) HV.out).mono ?_
  rintro r w1 ⟨rfl, rfl⟩
  go_upto_region 5 with fail
  go_cut [51] (fun s wx => s = .bool false ∧ Below w.heap.size w wx)
  case first =>
    by_cases he : e = 0
    · subst he
      obtain ⟨_, hp, hp2, htake⟩ := tv_back us 0 x p O0.out HV.out
      have hpn : p ≤ n0 := by have := L0.out; omega
      have HTK : Hid (us.take p = vary x) := hid (by rw [hp, Nat.zero_add]; exact htake)
      clear hp hp2 htake
      have HV1 := hid (vary_one x W.heap.size W.drew rfl hx64)
      have HBD : Hid (Below w.heap.size w W.drew) := hid HB1.out.drew
      have i1 : (p : Int) ≤ (n0 : Int) := by omega
      have i2 : (p : Int) ≤ (c0 : Int) := by omega
      have i3 : (0 : Int) ≤ (p : Int) := Int.natCast_nonneg _
      have i4 : decide (n0 < p) = false := by simp; omega
      go_region_held3 (fun _ => True) (exact trivial)
        (first
          | (go_at_call 15; refine (HV1.out).mono ?_; rintro e w1 ⟨A1, n1, c1, rfl, own1, bel1⟩; dsimp only)
          | (go_at_call 12; refine (same_any A1 A0 n1 c1 p c0 w1.heap.size w.heap.size (vary x) (us.take p) true w1 own1.row (by rw [← bv_take]; exact ((R0.out.below HBD.out).below (bel1.mono HBD.out.size)).take hpn) (vary_oct x) (O0.out.take _) (by simp [HTK.out])).mono ?_; rintro e w2 ⟨rfl, rfl⟩; dsimp only))
      all_goals (go_wp2_with fail; go_meet; exact ⟨rfl, HBD.out.trans (bel1.mono HBD.out.size)⟩)
    · have hne : ((e : Int) == 0) = false := by rw [beq_eq_false_iff_ne]; omega
      go_region
      all_goals (go_wp2_with fail; go_meet; exact ⟨rfl, HB1.out.drew⟩)
  case rest =>
    obtain ⟨rfl, hb2⟩ := hcut
    have HB2 := hid hb2
    clear hb2 HB1
    go_wp2_with fail
    refine (takeSign_0 A0 n0 c0 w.heap.size x p e us wc (R0.out.below HB2.out) O0.out (by omega) hx64 HV.out).mono ?_
    rintro r w1 ⟨rfl, rfl⟩
    have HFO := hid (fo_unf x)
    generalize unf x = y at HFO hyr ⊢
    go_upto_region 8 with fail
    go_cut [76] (fun s wx => s = .bool false ∧ Below w.heap.size w wx)
    case first =>
      by_cases he : e = 0
      · subst he
        obtain ⟨_, hp, hp2, htake⟩ := tv_back us 0 x p O0.out HV.out
        have hpn : p ≤ n0 := by have := L0.out; omega
        have HTK : Hid (us.take p = vary x) := hid (by rw [hp, Nat.zero_add]; exact htake)
        clear hp hp2 htake
        have HV1 := hid (sign_one y wc.heap.size wc.drew rfl hyr.1 hyr.2)
        rw [HFO.out] at HV1
        have HBD : Hid (Below w.heap.size w wc.drew) := hid HB2.out.drew
        have i1 : (p : Int) ≤ (n0 : Int) := by omega
        have i2 : (p : Int) ≤ (c0 : Int) := by omega
        have i3 : (0 : Int) ≤ (p : Int) := Int.natCast_nonneg _
        have i4 : decide (n0 < p) = false := by simp; omega
        go_region_held3 (fun _ => True) (exact trivial)
          (first
            | (go_at_call 17; refine (HV1.out).mono ?_; rintro e w1 ⟨A1, n1, c1, rfl, own1, bel1⟩; dsimp only)
            | (go_at_call 12; refine (same_any A1 A0 n1 c1 p c0 w1.heap.size w.heap.size (vary x) (us.take p) true w1 own1.row (by rw [← bv_take]; exact ((R0.out.below HBD.out).below (bel1.mono HBD.out.size)).take hpn) (vary_oct x) (O0.out.take _) (by simp [HTK.out])).mono ?_; rintro e w2 ⟨rfl, rfl⟩; dsimp only))
        all_goals (go_wp2_with fail; go_meet; exact ⟨rfl, HBD.out.trans (bel1.mono HBD.out.size)⟩)
      · have hne : ((e : Int) == 0) = false := by rw [beq_eq_false_iff_ne]; omega
        go_region
        all_goals (go_wp2_with fail; go_meet; exact ⟨rfl, HB2.out.drew⟩)
    case rest =>
      obtain ⟨rfl, hb3⟩ := hcut
      have HB4 := hid hb3
      clear hb3 HB2 HV HFO hyr hx64
      go_wp2_with fail
      refine (takeRecord_all A0 n0 c0 w.heap.size a3 p3 e3 us wc (R0.out.below HB4.out) HB4.out.size O0.out (by omega) q0 HB3.out).mono ?_
      rintro r w1 ⟨K, A5, n5, c5, Q, rfl, hall, bel5⟩
      have HALL := hid hall
      have HB5 : Hid (Below w.heap.size w w1) := hid (HB4.out.trans (bel5.mono HB4.out.size))
      clear hall bel5 HB4
      go_upto_if 85 with fail
      go_cut [3] (fun s wx => s = .bool true ∧ Below w.heap.size w wx)
      case first =>
        by_cases he3 : e3 = 0
        · subst he3
          obtain ⟨hk0, g1, g2, g3, g4, g5⟩ := bod_ok O0.out HB3.out
          obtain ⟨hK, hQ, own5⟩ := HALL.out rfl
          subst hQ
          have hpn : Q ≤ n0 := by have := L0.out; omega
          have hkd2 : us[0] = K := by rw [hK]; simp [List.getD, List.getElem?_eq_getElem hk0]
          have HG5 : Hid (us.take Q = rcd K ((us.take Q).drop a3)) := hid (by rw [← hkd2]; simpa using g5)
          have HGL : Hid (((us.take Q).drop a3).length ≤ 3000) := hid (by rw [List.length_drop, List.length_take]; have := L0.out; omega)
          generalize (us.take Q).drop a3 = body at HG5 HGL own5
          have hn5 : n5 ≤ 3000 := by have := own5.len; rw [bv_len] at this; have := HGL.out; omega
          have HO5 := hid own5
          clear hkd2 g5 g4 hk0 hK own5 HALL
          go_wp2_with fail
          refine (record_ok none A5 0 0 n5 c5 0 w1.heap.size K [] body w1 (Row.nil _ _ _) (Nat.zero_le _) (by omega) HO5.out.row (Nat.le_refl _) (by omega)).mono ?_
          rintro r w2 ⟨A6, n6, c6, rfl, own6, bel6⟩
          have HB6 : Hid (Below w.heap.size w w2) := hid (HB5.out.trans (bel6.mono HB5.out.size))
          have HR6 : Hid (Row w2 w2.heap.size A6 n6 (bv (us.take Q))) := hid (by rw [HG5.out]; exact own6.row)
          clear own6 bel6 HO5 HB5
          go_wp2_with (go_at_call 12; refine (same_any A6 A0 n6 c6 Q c0 w2.heap.size w.heap.size (us.take Q) (us.take Q) true _ HR6.out (by rw [← bv_take]; exact (R0.out.below HB6.out).take hpn) (O0.out.take _) (O0.out.take _) (by simp)).mono ?_; rintro r w3 ⟨rfl, rfl⟩)
          go_meet
          exact ⟨rfl, HB6.out⟩
        · have hne : ((e3 : Int) == 0) = false := by rw [beq_eq_false_iff_ne]; omega
          go_wp2_with fail
          go_meet
          exact ⟨rfl, HB5.out⟩
      case rest =>
        obtain ⟨rfl, hb6⟩ := hcut
        have HB6 := hid hb6
        clear hb6 HB5 HALL HB3
        go_wp2_with fail
        refine (records_0 A0 n0 c0 w.heap.size er us ls _ (R0.out.below HB6.out) HB6.out.size O0.out (by omega) q0 HREC.out).mono ?_
        rintro r w2 ⟨A7, n7, c7, v7, rfl, own7, els7, bel7⟩
        have HB7 : Hid (Below w.heap.size w w2) := hid (HB6.out.trans (bel7.mono HB6.out.size))
        have hn7 : n7 = ls.length := by rw [← own7.len, els7.1]
        have hl3 : ls.length ≤ 3000 := by have := HREC.out.len O0.out; have := L0.out; omega
        have HR7 : Hid (Row w2 w2.heap.size A7 n7 v7) := hid own7.row
        have HE7 := hid els7
        have HN7 := hid hn7
        have hn73 : n7 ≤ 3000 := by omega
        clear own7 els7 bel7 hn7 HB6
        by_cases her : er = 0
        · subst her
          obtain ⟨hwh, hw2⟩ := HREC.out.whole O0.out
          have HWH := hid hwh
          have HW2 := hid hw2
          clear hwh hw2
          go_wp2_with fail
          go_loopw [18, 124] (AllRel ls w2) (fun _ i _ => n7 - (intOf i).toNat)
          case atStart => exact ⟨0, 0, 0, none, Nat.zero_le _, rfl, rfl, by simpa [bv] using Own.nil _ _ _, Below.refl _ _⟩
          case round =>
            obtain ⟨k, n', c', A', hk, rfl, rfl, hown, hbel⟩ := hrel
            have hn' : n' ≤ 3000 := by
              have h1 := hown.len
              rw [bv_len] at h1
              have h2 : (ls.take k).flatten.length ≤ ls.flatten.length := by
                conv => rhs; rw [← List.take_append_drop k ls]
                rw [List.flatten_append, List.length_append]; omega
              rw [HWH.out, List.drop_zero] at h2
              have := L0.out
              omega
            have HO := hid hown
            have HBL := hid hbel
            clear hown hbel
            by_cases hlt : k < n7
            · obtain ⟨b1, o1, u1, rfl, hbb, hu, hcell⟩ := (HR7.out.below HBL.out).at_ hlt
              have hkn : k < ls.length := by have := HN7.out; omega
              obtain ⟨l1, hl1⟩ : ∃ l1, l1 = ls[k] := ⟨_, rfl⟩
              obtain ⟨A8, c8, rfl, own8⟩ := (HE7.out.below HBL.out).2 k u1 l1 hu (by rw [hl1, List.getElem?_eq_getElem hkn])
              have h2l : 2 ≤ l1.length := by rw [hl1]; exact HW2.out _ (List.getElem_mem hkn)
              have h3l : l1.length ≤ 3000 := by
                have h2 : l1.length ≤ ls.flatten.length := by
                  rw [hl1]; exact len_flatten (List.getElem_mem hkn)
                rw [HWH.out, List.drop_zero] at h2
                have := L0.out
                omega
              have HT : Hid (ls.take (k + 1) = ls.take k ++ [l1]) := hid (by rw [hl1]; exact List.take_succ_eq_append_getElem hkn)
              have HR8 : Hid (Row wr wr.heap.size A8 l1.length (bv l1)) := hid own8.row
              generalize hm1 : l1.length = m1 at *
              clear own8 hl1 hu hm1
              go_wp2_with (at_builtin; refine wpList_app _ rfl (.tmp 131) (.tmp 132) 22 rfl w2.heap.size 5 (.int .u8 0) 1 Try.underlying22 info5 rfl A' n' c' _ rfl HO.out wr.heap.size A8 m1 c8 (bv l1) rfl HR8.out (bv_one l1) (by omega) (by omega) HBL.out.size ?_; intro A9 c9 w4 own9 bel9)
              go_roundw
              case rel => exact ⟨k + 1, n' + m1, c9, A9, by omega, by go_num, rfl, by rw [HT.out, List.flatten_append, bv_app]; simpa using own9, HBL.out.trans bel9⟩
              case measure => simp [intOf]; omega
            · have HALLU : Hid ((ls.take k).flatten = us) := hid (by rw [List.take_of_length_le (by have := HN7.out; omega), HWH.out, List.drop_zero])
              have HBF : Hid (Below w.heap.size w wr) := hid (HB7.out.trans (HBL.out.mono HB7.out.size))
              go_wp2_with (go_at_call 12; refine (same_any A' A0 n' c' n0 c0 wr.heap.size w.heap.size us us true _ (by have := HO.out.row; rw [HALLU.out] at this; exact this) (R0.out.below HBF.out) O0.out O0.out (by simp)).mono ?_; rintro r w3 ⟨rfl, rfl⟩)
              go_ret
              exact ⟨rfl, HBF.out⟩
        · have hne : ((er : Int) != 0) = true := by rw [bne_iff_ne]; omega
          have hz7 : n7 = 0 := by rw [HN7.out, HREC.out.none her]; rfl
          subst hz7
          go_wp2_with fail
          go_ret
          exact ⟨rfl, HB7.out⟩
theorem again_row {w : World} (A0 : Option Addr) (n0 c0 : Nat) (z0 : List Int) (d0 : Came .u8 w A0 n0 c0 z0) (m0 : c0 ≤ 140737488351232) :
    Calls Try.prog 5 #[.slice A0 n0 c0] w fun e w' => e = .returned (.bool true) ∧ Below w.heap.size w w' := by
  have q0 := d0.2.1
  obtain ⟨us, r0, o0⟩ := came_u8 d0
  by_cases h : n0 ≤ 3000
  · exact again_near A0 n0 c0 us w r0 o0 q0 h
  · exact again_far A0 n0 c0 w (by omega) h

end Go.Proofs.Ytkbcmnheecihiaa
