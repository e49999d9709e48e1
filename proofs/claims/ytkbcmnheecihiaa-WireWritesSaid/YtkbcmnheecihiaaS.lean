/-
  Contracts of the document's own Vary, Sign, Fixed and Record.
-/
import Derived.Test.YtkbcmnheecihiaaQ
namespace Go.Proofs.Ytkbcmnheecihiaa
open Go Go.RowKit

set_option maxRecDepth 100000 in
set_option maxHeartbeats 1000000 in
theorem refVary_any (A A2 : Option Addr) (n c m c2 B B2 : Nat) (bs ns : List Nat) (w : World) (hb : Row w B A n (bv bs)) (hns : Row w B2 A2 m (uv ns)) (hB2 : B2 ≤ w.heap.size) (hx : ∀ x ∈ ns, x < 18446744073709551616)
    (hn : n ≤ 1000000) (hm : m ≤ 10000) : Calls Try.prog 16 #[.slice A n c, .slice A2 m c2] w (RetB w.heap.size (bv (bs ++ varies ns)) w) := by
  have HB := hid hb
  have HN := hid hns
  have HX := hid hx
  have hml := hns.1
  have hnl := hb.1
  rw [uv_len] at hml
  rw [bv_len] at hnl
  have HM := hid hml
  have HNL := hid hnl
  clear hb hns hx hml hnl
  go_enter Try.func16, Try.ntmps16
  go_wp2_with (at_builtin; refine wpList_app _ rfl (.const (.slice none 0 0)) (.tmp 8) 22 rfl w.heap.size 5 (.int .u8 0) 1 Try.underlying22 info5 rfl none 0 0 [] rfl (Own.nil _ _ _) B A n c (bv bs) rfl HB.out (bv_one bs) (by omega) (by omega) (Nat.le_refl _) ?_; intro A1 c1 w1 own1 bel1; simp only [Nat.zero_add, List.nil_append] at own1)
  go_loopw [5, 12] (VaryRel w.heap.size bs ns w) (fun _ i _ => m - (intOf i).toNat)
  case atStart => exact ⟨0, n, c1, A1, Nat.zero_le _, rfl, rfl, by simpa [varies] using own1, bel1⟩
  case round =>
    obtain ⟨k, n', c', A', hk, rfl, rfl, hown, hbel⟩ := hrel
    have hkm : k ≤ m := by have := HM.out; omega
    have hln : n' ≤ 1100000 := by
      have h1 := hown.len
      have h2 := varies_len (ns.take k) (fun x hx => HX.out x (List.mem_of_mem_take hx))
      have h3 : (ns.take k).length ≤ k := by simp; omega
      have := HNL.out
      rw [bv_len, List.length_append] at h1
      omega
    have HO := hid hown
    have HBL := hid hbel
    clear hown hbel own1 bel1
    by_cases hlt : k < m
    · obtain ⟨b, o, u, rfl, hbb, hu, hcell⟩ := (HN.out.below (HBL.out.mono hB2)).at_ hlt
      have hkn : k < ns.length := by have := HM.out; omega
      obtain ⟨x, hxx⟩ : ∃ x, x = ns[k] := ⟨_, rfl⟩
      have hu' : u = .int .u64 (x : Int) := by
        simp only [uv, List.getElem?_map, List.getElem?_eq_getElem hkn] at hu
        rw [hxx]; simpa using hu.symm
      subst hu'
      have hx64 : x < 18446744073709551616 := by rw [hxx]; exact HX.out _ (List.getElem_mem hkn)
      have HT : Hid (ns.take (k + 1) = ns.take k ++ [x]) := hid (by rw [hxx]; exact List.take_succ_eq_append_getElem hkn)
      have HI := hid (refvary_any (x + 1) x wr (by omega) hx64)
      have hg9 := gn_le x hx64
      clear hxx hu
      go_wp2_with fail
      refine (HI.out).mono ?_
      rintro r w2 ⟨A3, n3, c3, rfl, own3, bel3⟩
      have hn3 : n3 ≤ 10 := by have := own3.len; rw [bv_len, vary_len] at this; omega
      have HR3 : Hid (Row w2 w2.heap.size A3 n3 (bv (vary x))) := hid own3.row
      have HO2 : Hid (Own w2 w.heap.size 5 A' n' c' (bv (bs ++ varies (ns.take k)))) := hid (HO.out.below bel3)
      have HB2 : Hid (Below w.heap.size w w2) := hid (HBL.out.trans (bel3.mono HBL.out.size))
      clear own3 bel3 HO HBL HI
      go_wp2_with (at_builtin; refine wpList_app _ rfl (.tmp 16) (.tmp 18) 22 rfl w.heap.size 5 (.int .u8 0) 1 Try.underlying22 info5 rfl A' n' c' _ rfl HO2.out w2.heap.size A3 n3 c3 (bv (vary x)) rfl HR3.out (bv_one _) (by omega) (by omega) HB2.out.size ?_; intro A4 c4 w3 own4 bel4)
      go_roundw
      case rel => exact ⟨k + 1, n' + n3, c4, A4, by omega, by go_num, rfl, by rw [HT.out, varies_snoc, ← List.append_assoc, bv_app]; exact own4, HB2.out.trans bel4⟩
      case measure => simp [intOf]; omega
    · go_wp2
      go_ret
      refine ⟨A', n', c', rfl, ?_, HBL.out⟩
      have := HO.out
      rwa [List.take_of_length_le (by have := HM.out; omega)] at this

set_option maxRecDepth 100000 in
set_option maxHeartbeats 2000000 in
theorem refSign_any (A A2 : Option Addr) (n c m c2 B B2 : Nat) (bs : List Nat) (ns : List Int) (w : World) (hb : Row w B A n (bv bs)) (hns : Row w B2 A2 m (sv ns)) (hB2 : B2 ≤ w.heap.size) (hx : ∀ x ∈ ns, -9223372036854775808 ≤ x ∧ x ≤ 9223372036854775807)
    (hn : n ≤ 1000000) (hm : m ≤ 10000) : Calls Try.prog 18 #[.slice A n c, .slice A2 m c2] w (RetB w.heap.size (bv (bs ++ varies (ns.map fo))) w) := by
  have HB := hid hb
  have HN := hid hns
  have HX := hid hx
  have hml := hns.1
  have hnl := hb.1
  rw [sv_len] at hml
  rw [bv_len] at hnl
  have HM := hid hml
  have HNL := hid hnl
  clear hb hns hx hml hnl
  go_enter Try.func18, Try.ntmps18
  go_wp2_with (at_builtin; refine wpList_app _ rfl (.const (.slice none 0 0)) (.tmp 8) 22 rfl w.heap.size 5 (.int .u8 0) 1 Try.underlying22 info5 rfl none 0 0 [] rfl (Own.nil _ _ _) B A n c (bv bs) rfl HB.out (bv_one bs) (by omega) (by omega) (Nat.le_refl _) ?_; intro A1 c1 w1 own1 bel1; simp only [Nat.zero_add, List.nil_append] at own1)
  go_loopw [5, 12] (SignRel w.heap.size bs ns w) (fun _ i _ => m - (intOf i).toNat)
  case atStart => exact ⟨0, n, c1, A1, Nat.zero_le _, rfl, rfl, by simpa [varies] using own1, bel1⟩
  case round =>
    obtain ⟨k, n', c', A', hk, rfl, rfl, hown, hbel⟩ := hrel
    have hkm : k ≤ m := by have := HM.out; omega
    have hln : n' ≤ 1100000 := by
      have h1 := hown.len
      have h2 := varies_len ((ns.take k).map fo) (fun x hx => by
        obtain ⟨y, hy, rfl⟩ := List.mem_map.1 hx
        have := HX.out y (List.mem_of_mem_take hy)
        exact fo_lt y this.1 this.2)
      have h3 : ((ns.take k).map fo).length ≤ k := by simp; omega
      have := HNL.out
      rw [bv_len, List.length_append] at h1
      omega
    have HO := hid hown
    have HBL := hid hbel
    clear hown hbel own1 bel1
    by_cases hlt : k < m
    · obtain ⟨b, o, u, rfl, hbb, hu, hcell⟩ := (HN.out.below (HBL.out.mono hB2)).at_ hlt
      have hkn : k < ns.length := by have := HM.out; omega
      obtain ⟨x, hxx⟩ : ∃ x, x = ns[k] := ⟨_, rfl⟩
      have hu' : u = .int .i64 x := by
        simp only [sv, List.getElem?_map, List.getElem?_eq_getElem hkn] at hu
        rw [hxx]; simpa using hu.symm
      subst hu'
      have hx64 : -9223372036854775808 ≤ x ∧ x ≤ 9223372036854775807 := by rw [hxx]; exact HX.out _ (List.getElem_mem hkn)
      have HT : Hid (ns.take (k + 1) = ns.take k ++ [x]) := hid (by rw [hxx]; exact List.take_succ_eq_append_getElem hkn)
      have hf64 := fo_lt x hx64.1 hx64.2
      have HI := hid (refvary_any (fo x + 1) (fo x) wr (by omega) hf64)
      have hg9 := gn_le (fo x) hf64
      have HEND : Hid (∀ A4 c4 w3 n3, Own w3 w.heap.size 5 A4 (n' + n3) c4 (bv (bs ++ varies ((ns.take k).map fo)) ++ bv (vary (fo x))) → Own w3 w.heap.size 5 A4 (n' + n3) c4 (bv (bs ++ varies ((ns.take (k + 1)).map fo)))) := hid (fun A4 c4 w3 n3 h => by
        rw [HT.out, List.map_append, List.map_singleton, varies_snoc, ← List.append_assoc, bv_app]; exact h)
      clear hxx hu
      by_cases hneg : x < 0
      · go_wp2_with fail
        have ev : 2 * -(x + 1) + 1 = ((fo x : Nat) : Int) := by unfold fo; rw [if_pos hneg]; omega
        rw [ev]
        clear ev
        refine (HI.out).mono ?_
        rintro r w2 ⟨A3, n3, c3, rfl, own3, bel3⟩
        have hn3 : n3 ≤ 10 := by have := own3.len; rw [bv_len, vary_len] at this; omega
        have HR3 : Hid (Row w2 w2.heap.size A3 n3 (bv (vary (fo x)))) := hid own3.row
        have HO2 : Hid (Own w2 w.heap.size 5 A' n' c' (bv (bs ++ varies ((ns.take k).map fo)))) := hid (HO.out.below bel3)
        have HB2 : Hid (Below w.heap.size w w2) := hid (HBL.out.trans (bel3.mono HBL.out.size))
        clear own3 bel3 HO HBL HI
        go_wp2_with (at_builtin; refine wpList_app _ rfl (.tmp 18) (.tmp 25) 22 rfl w.heap.size 5 (.int .u8 0) 1 Try.underlying22 info5 rfl A' n' c' _ rfl HO2.out w2.heap.size A3 n3 c3 (bv (vary (fo x))) rfl HR3.out (bv_one _) (by omega) (by omega) HB2.out.size ?_; intro A4 c4 w3 own4 bel4)
        go_roundw
        case rel => exact ⟨k + 1, n' + n3, c4, A4, by omega, by go_num, rfl, HEND.out A4 c4 w3 n3 own4, HB2.out.trans bel4⟩
        case measure => simp [intOf]; omega
      · go_wp2_with fail
        have ev : 2 * x = ((fo x : Nat) : Int) := by unfold fo; rw [if_neg (by omega)]; omega
        rw [ev]
        clear ev
        refine (HI.out).mono ?_
        rintro r w2 ⟨A3, n3, c3, rfl, own3, bel3⟩
        have hn3 : n3 ≤ 10 := by have := own3.len; rw [bv_len, vary_len] at this; omega
        have HR3 : Hid (Row w2 w2.heap.size A3 n3 (bv (vary (fo x)))) := hid own3.row
        have HO2 : Hid (Own w2 w.heap.size 5 A' n' c' (bv (bs ++ varies ((ns.take k).map fo)))) := hid (HO.out.below bel3)
        have HB2 : Hid (Below w.heap.size w w2) := hid (HBL.out.trans (bel3.mono HBL.out.size))
        clear own3 bel3 HO HBL HI
        go_wp2_with (at_builtin; refine wpList_app _ rfl (.tmp 27) (.tmp 31) 22 rfl w.heap.size 5 (.int .u8 0) 1 Try.underlying22 info5 rfl A' n' c' _ rfl HO2.out w2.heap.size A3 n3 c3 (bv (vary (fo x))) rfl HR3.out (bv_one _) (by omega) (by omega) HB2.out.size ?_; intro A4 c4 w3 own4 bel4)
        go_roundw
        case rel => exact ⟨k + 1, n' + n3, c4, A4, by omega, by go_num, rfl, HEND.out A4 c4 w3 n3 own4, HB2.out.trans bel4⟩
        case measure => simp [intOf]; omega
    · go_wp2
      go_ret
      refine ⟨A', n', c', rfl, ?_, HBL.out⟩
      have := HO.out
      rwa [List.take_of_length_le (by have := HM.out; omega)] at this
theorem reffixed_bad (A : Option Addr) (n c : Nat) (wd : Int) (x : Nat) (w : World) (hw1 : -9223372036854775808 ≤ wd) (hw2 : wd ≤ 9223372036854775807) (hx : x < 18446744073709551616) (h : widB wd = true → 256 ^ wd.toNat ≤ x) :
    Calls Try.prog 11 #[.slice A n c, .int .i64 wd, .int .u64 (x : Int)] w fun e w' => e = .returned (.tuple #[.slice none 0 0, .int .i64 1]) ∧ w = w' := by
  by_cases h1 : wd < 1
  · clear h
    go_enter Try.func11, Try.ntmps11
    go_wp2_with fail
    go_ret2
    exact ⟨rfl, rfl⟩
  · by_cases h8 : 8 < wd
    · clear h
      go_enter Try.func11, Try.ntmps11
      go_wp2_with fail
      go_ret2
      exact ⟨rfl, rfl⟩
    · obtain ⟨k, rfl⟩ : ∃ k : Nat, wd = k := ⟨wd.toNat, by omega⟩
      have h' : 256 ^ k ≤ x := by have := h (by simp [widB]; omega); simpa using this
      have hk8 : k < 8 := by
        apply Nat.lt_of_not_le; intro h9
        have : k = 8 := by omega
        subst this
        have : (256 : Nat) ^ 8 = 18446744073709551616 := by decide
        omega
      have hne : decide ((0 : Int) < (x : Int) / 2 ^ (8 * k)) = true := by
        rw [shr8]
        have : 0 < x / 256 ^ k := Nat.div_pos h' (Nat.pow_pos (by omega))
        rw [decide_eq_true_eq]; omega
      have H' := hid h'
      clear h h'
      go_enter Try.func11, Try.ntmps11
      go_wp2_with fail
      go_ret2
      exact ⟨rfl, rfl⟩

set_option maxRecDepth 100000 in
set_option maxHeartbeats 1000000 in
theorem reffixed_ok (A : Option Addr) (n c B wd x : Nat) (bs : List Nat) (w : World) (hr : Row w B A n (bv bs)) (hn : n ≤ 1000000) (hw1 : 1 ≤ wd) (hw2 : wd ≤ 8) (hx : x < 256 ^ wd) :
    Calls Try.prog 11 #[.slice A n c, .int .i64 (wd : Int), .int .u64 (x : Int)] w (RetBE w.heap.size (bv (bs ++ fixb x wd)) w) := by
  have HR := hid hr
  have hnl := hr.1
  rw [bv_len] at hnl
  have HNL := hid hnl
  have hne : decide ((0 : Int) < (x : Int) / 2 ^ (8 * wd)) = false := by
    rw [shr8, Nat.div_eq_of_lt hx]; rfl
  clear hr hnl hx
  by_cases h8 : wd < 8
  all_goals
    go_enter Try.func11, Try.ntmps11
    go_wp2_with (at_builtin; refine wpList_app _ rfl (.const (.slice none 0 0)) (.tmp 27) 22 rfl w.heap.size 5 (.int .u8 0) 1 Try.underlying22 info5 rfl none 0 0 [] rfl (Own.nil _ _ _) B A n c (bv bs) rfl HR.out (bv_one bs) (by omega) (by omega) (Nat.le_refl _) ?_; intro A1 c1 w1 own1 bel1; simp only [Nat.zero_add, List.nil_append] at own1)
    clear hne
    go_loopw [8, 9] (FixRel w.heap.size bs x wd w) (fun _ i _ => (intOf i + 1).toNat)
    case atStart => exact ⟨wd, n, c1, A1, [], Nat.le_refl _, rfl, rfl, rfl, by simpa using own1, bel1⟩
    case round =>
      obtain ⟨k, n', c', A', ds, hk, rfl, rfl, hd, hown, hbel⟩ := hrel
      have hnl' := hown.len
      have hdl := congrArg List.length hd
      simp only [bv_len, List.length_append, fixb_len] at hnl' hdl
      have hn' : n' ≤ 1000008 := by have := HNL.out; omega
      have HD := hid hd
      have HOW := hid hown
      have HBL := hid hbel
      clear hd hown hbel hnl' hdl own1 bel1
      cases k with
      | zero =>
        go_wp2
        go_ret2
        refine ⟨A', n', c', rfl, ?_, HBL.out⟩
        have h1 := HD.out
        simp only [fixb, List.append_nil] at h1
        rw [← h1]; exact HOW.out
      | succ j =>
        have e1 : (((j + 1 : Nat) : Int) - 1) = (j : Int) := by omega
        rw [e1]
        clear e1
        go_wp2_with (at_builtin; refine wpList_app _ rfl (.tmp 35) (.tmp 41) 22 rfl w.heap.size 5 (.int .u8 0) 1 Try.underlying22 info5 rfl A' n' c' _ rfl (HOW.out.alloc _) (wr.heap.size + 1) _ 1 1 [_] rfl (Row.laid wr 5 [_]) (by intro u hu; simp at hu; subst hu; rfl) (by omega) (by omega) (by have := HBL.out.size; simp; omega) ?_; intro A2 c2 w2 own2 bel2)
        have e2 : (x : Int) / 2 ^ (8 * j) % 256 = ((x / 256 ^ j % 256 : Nat) : Int) := by rw [shr8]; simp
        rw [e2] at own2 bel2
        refine ⟨⟨j, n' + 1, c2, A2, ds ++ [x / 256 ^ j % 256], by omega, by rfl, rfl, ?_, ?_, (HBL.out.alloc HBL.out.size _).trans bel2⟩, by simp [intOf]⟩
        · rw [← HD.out]; simp [fixb]
        · rw [← List.append_assoc, bv_app]; exact own2

theorem refvary_one (A : Option Addr) (n c B x g : Nat) (bs : List Nat) (w : World) (hb : Row w B A n (bv bs)) (hB : B ≤ w.heap.size) (hn : n ≤ 1000000) (hg : g = w.heap.size) (hx : x < 18446744073709551616) :
    Calls Try.prog 16 #[.slice A n c, .slice (some ⟨g, 0, none⟩) 1 1] (w.alloc (.cells #[.int .u64 (x : Int)] 27)) fun e w' => ∃ A n c, e = .returned (.slice A n c) ∧ Own w' w.heap.size 5 A n c (bv (bs ++ vary x)) ∧ Below w.heap.size w w' := by
  refine (refVary_any A _ n c 1 1 B (g + 1) bs [x] _ (hb.alloc hB _) (Row.laid' w 27 [.int .u64 (x : Int)] g hg) (by simp; omega) (by intro y hy; simp at hy; omega) hn (by omega)).mono ?_
  rintro e w3 ⟨A3, n3, c3, rfl, own3, bel3⟩
  rw [varies1] at own3
  exact ⟨A3, n3, c3, rfl, own3.base_le (by simp), ((Below.refl _ w).alloc (Nat.le_refl _) _).trans (bel3.mono (by simp))⟩

set_option maxRecDepth 100000 in
set_option maxHeartbeats 1000000 in
theorem refrecord_ok (A A2 : Option Addr) (n c m c2 B B2 kd : Nat) (bs body : List Nat) (w : World) (hr : Row w B A n (bv bs)) (hn : n ≤ 900000) (hr2 : Row w B2 A2 m (bv body)) (hB2 : B2 ≤ w.heap.size) (hm : m ≤ 1048576) :
    Calls Try.prog 14 #[.slice A n c, .int .u8 (kd : Int), .slice A2 m c2] w (RetBE w.heap.size (bv (bs ++ rcd kd body)) w) := by
  have HR := hid hr
  have HR2 := hid hr2
  have hl := hr.1
  have hl2 := hr2.1
  rw [bv_len] at hl hl2
  have HL := hid hl
  have HL2 := hid hl2
  clear hr hr2 hl hl2
  go_enter Try.func14, Try.ntmps14
  go_wp2_with (first
    | (at_builtin; refine wpList_app _ rfl (.const (.slice none 0 0)) (.tmp 12) 22 rfl w.heap.size 5 (.int .u8 0) 1 Try.underlying22 info5 rfl none 0 0 [] rfl (Own.nil _ _ _) B A n c (bv bs) rfl HR.out (bv_one bs) (by omega) (by omega) (Nat.le_refl _) ?_; intro A1 c1 w1 own1 bel1; simp only [Nat.zero_add, List.nil_append] at own1)
    | (at_builtin; refine wpList_app _ rfl (.tmp 13) (.tmp 15) 22 rfl w.heap.size 5 (.int .u8 0) 1 Try.underlying22 info5 rfl A1 n c1 _ rfl (own1.alloc _) (w1.heap.size + 1) _ 1 1 [_] rfl (Row.laid w1 5 [_]) (by intro u hu; simp at hu; subst hu; rfl) (by omega) (by omega) (by have := bel1.size; simp; omega) ?_; intro A3 c3 w2 own2 bel2))
  have HO2 : Hid (Own w2 w.heap.size 5 A3 (n + 1) c3 (bv (bs ++ [kd]))) := hid (by rw [bv_app]; exact own2)
  have HB2' : Hid (Below w.heap.size w w2) := hid ((bel1.alloc bel1.size _).trans bel2)
  clear own1 bel1 own2 bel2
  refine (refvary_one A3 (n + 1) c3 w2.heap.size m _ (bs ++ [kd]) w2 HO2.out.row (Nat.le_refl _) (by omega) rfl (by omega)).mono ?_
  rintro r w3 ⟨A4, n4, c4, rfl, own4, bel4⟩
  have hn4 : n4 ≤ 900011 := by
    have h1 := own4.len
    have h3 := gn_le m (show m < 2 ^ 64 by omega)
    have := HL.out
    rw [bv_len, List.length_append, List.length_append, vary_len] at h1
    simp at h1
    omega
  have HB3 : Hid (Below w.heap.size w w3) := hid (HB2'.out.trans (bel4.mono HB2'.out.size))
  have HO4 := hid own4
  have hsz : w2.heap.size ≤ w3.heap.size := bel4.size
  have hwz : w.heap.size ≤ w2.heap.size := HB2'.out.size
  clear own4 bel4 HO2 HB2'
  go_wp2_with (at_builtin; refine wpList_app _ rfl (.tmp 22) (.tmp 23) 22 rfl w2.heap.size 5 (.int .u8 0) 1 Try.underlying22 info5 rfl A4 n4 c4 _ rfl HO4.out B2 A2 m c2 (bv body) rfl (HR2.out.below (HB3.out.mono hB2)) (bv_one body) (by omega) (by omega) hsz ?_; intro A5 c5 w4 own5 bel5)
  go_ret2
  refine ⟨A5, _, c5, rfl, ?_, HB3.out.trans (bel5.mono hwz)⟩
  have e : bv (bs ++ rcd kd body) = bv (bs ++ [kd] ++ vary m) ++ bv body := by
    rw [← bv_app]; unfold rcd; rw [HL2.out]; simp
  rw [e]; exact Own.base_le own5 hwz

theorem refrecord_long (A A2 : Option Addr) (n c m c2 kd : Nat) (w : World) (hm : 1048576 < m) (hm2 : m ≤ 9223372036854775807) :
    Calls Try.prog 14 #[.slice A n c, .int .u8 (kd : Int), .slice A2 m c2] w fun e w' => e = .returned (.tuple #[.slice none 0 0, .int .i64 6]) ∧ w = w' := by
  go_enter Try.func14, Try.ntmps14
  go_wp2_with fail
  go_ret2
  exact ⟨rfl, rfl⟩

end Go.Proofs.Ytkbcmnheecihiaa
