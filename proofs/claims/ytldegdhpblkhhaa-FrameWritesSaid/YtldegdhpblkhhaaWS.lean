/-
  Contracts of the document's own Vary, Sign, Fixed and Record.
-/
import Derived.Test.YtldegdhpblkhhaaWQ
namespace Go.Proofs.Ytldegdhpblkhhaa
open Go Go.RowKit

set_option maxRecDepth 100000 in
set_option maxHeartbeats 1000000 in
theorem refVary_any (A A2 : Option Addr) (n c m c2 B B2 : Nat) (bs ns : List Nat) (w : World) (hb : Row w B A n (bv bs)) (hns : Row w B2 A2 m (uv ns)) (hB2 : B2 ≤ w.heap.size) (hx : ∀ x ∈ ns, x < 18446744073709551616)
    (hn : n ≤ 1000000) (hm : m ≤ 10000) : Calls Try.prog 26 #[.slice A n c, .slice A2 m c2] w (RetB w.heap.size (bv (bs ++ varies ns)) w) := by
  have HB := hid hb
  have HN := hid hns
  have HX := hid hx
  have hml := hns.1
  have hnl := hb.1
  rw [uv_len] at hml
  rw [bv_len] at hnl
  have HM := hid hml
  have HNL := hid hnl
  clear hb hns hx hml hnl
  go_enter Try.func26, Try.ntmps26
  go_wp2_with (at_builtin; refine wpList_app _ rfl (.const (.slice none 0 0)) (.tmp 8) 26 rfl w.heap.size 5 (.int .u8 0) 1 Try.underlying26 info5 rfl none 0 0 [] rfl (Own.nil _ _ _) B A n c (bv bs) rfl HB.out (bv_one bs) (by omega) (by omega) (Nat.le_refl _) ?_; intro A1 c1 w1 own1 bel1; simp only [Nat.zero_add, List.nil_append] at own1)
  go_loopw [5, 12] (VaryRel w.heap.size bs ns w) (fun _ i _ => m - (intOf i).toNat)
  case atStart => exact ⟨0, n, c1, A1, Nat.zero_le _, rfl, rfl, by simpa [varies] using own1, bel1⟩
  case round =>
    obtain ⟨k, n', c', A', hk, rfl, rfl, hown, hbel⟩ := hrel
    have hkm : k ≤ m := by have := HM.out; omega
    have hln : n' ≤ 1100000 := by
      have h1 := hown.len
      have h2 := varies_len (ns.take k) (fun x hx => HX.out x (List.mem_of_mem_take hx))
      have h3 : (ns.take k).length ≤ k := by simp; omega
      have := HNL.out
      rw [bv_len, List.length_append] at h1
      omega
    have HO := hid hown
    have HBL := hid hbel
    clear hown hbel own1 bel1
    by_cases hlt : k < m
    · obtain ⟨b, o, u, rfl, hbb, hu, hcell⟩ := (HN.out.below (HBL.out.mono hB2)).at_ hlt
      have hkn : k < ns.length := by have := HM.out; omega
      obtain ⟨x, hxx⟩ : ∃ x, x = ns[k] := ⟨_, rfl⟩
      have hu' : u = .int .u64 (x : Int) := by
        simp only [uv, List.getElem?_map, List.getElem?_eq_getElem hkn] at hu
        rw [hxx]; simpa using hu.symm
      subst hu'
      have hx64 : x < 18446744073709551616 := by rw [hxx]; exact HX.out _ (List.getElem_mem hkn)
      have HT : Hid (ns.take (k + 1) = ns.take k ++ [x]) := hid (by rw [hxx]; exact List.take_succ_eq_append_getElem hkn)
      have HI := hid (refvary_any (x + 1) x wr (by omega) hx64)
      have hg9 := gn_le x hx64
      clear hxx hu
      go_wp2_with fail
      refine (HI.out).mono ?_
      rintro r w2 ⟨A3, n3, c3, rfl, own3, bel3⟩
      have hn3 : n3 ≤ 10 := by have := own3.len; rw [bv_len, vary_len] at this; omega
      have HR3 : Hid (Row w2 w2.heap.size A3 n3 (bv (vary x))) := hid own3.row
      have HO2 : Hid (Own w2 w.heap.size 5 A' n' c' (bv (bs ++ varies (ns.take k)))) := hid (HO.out.below bel3)
      have HB2 : Hid (Below w.heap.size w w2) := hid (HBL.out.trans (bel3.mono HBL.out.size))
      clear own3 bel3 HO HBL HI
      go_wp2_with (at_builtin; refine wpList_app _ rfl (.tmp 16) (.tmp 18) 26 rfl w.heap.size 5 (.int .u8 0) 1 Try.underlying26 info5 rfl A' n' c' _ rfl HO2.out w2.heap.size A3 n3 c3 (bv (vary x)) rfl HR3.out (bv_one _) (by omega) (by omega) HB2.out.size ?_; intro A4 c4 w3 own4 bel4)
      go_roundw
      case rel => exact ⟨k + 1, n' + n3, c4, A4, by omega, by go_num, rfl, by rw [HT.out, varies_snoc, ← List.append_assoc, bv_app]; exact own4, HB2.out.trans bel4⟩
      case measure => simp [intOf]; omega
    · go_wp2
      go_ret
      refine ⟨A', n', c', rfl, ?_, HBL.out⟩
      have := HO.out
      rwa [List.take_of_length_le (by have := HM.out; omega)] at this

set_option maxRecDepth 100000 in
set_option maxHeartbeats 2000000 in
set_option maxRecDepth 100000 in
set_option maxHeartbeats 1000000 in
theorem refvary_one (A : Option Addr) (n c B x g : Nat) (bs : List Nat) (w : World) (hb : Row w B A n (bv bs)) (hB : B ≤ w.heap.size) (hn : n ≤ 1000000) (hg : g = w.heap.size) (hx : x < 18446744073709551616) :
    Calls Try.prog 26 #[.slice A n c, .slice (some ⟨g, 0, none⟩) 1 1] (w.alloc (.cells #[.int .u64 (x : Int)] 22)) fun e w' => ∃ A n c, e = .returned (.slice A n c) ∧ Own w' w.heap.size 5 A n c (bv (bs ++ vary x)) ∧ Below w.heap.size w w' := by
  refine (refVary_any A _ n c 1 1 B (g + 1) bs [x] _ (hb.alloc hB _) (Row.laid' w 22 [.int .u64 (x : Int)] g hg) (by simp; omega) (by intro y hy; simp at hy; omega) hn (by omega)).mono ?_
  rintro e w3 ⟨A3, n3, c3, rfl, own3, bel3⟩
  rw [varies1] at own3
  exact ⟨A3, n3, c3, rfl, own3.base_le (by simp), ((Below.refl _ w).alloc (Nat.le_refl _) _).trans (bel3.mono (by simp))⟩

end Go.Proofs.Ytldegdhpblkhhaa
