/-
  Contracts of wire's addVary and Vary.
-/
import Derived.Test.YtldegdhpblkhhaaWB
namespace Go.Proofs.Ytldegdhpblkhhaa
open Go Go.RowKit

theorem len64_any (x : Nat) (w : World) (hx : x < 18446744073709551616) : Calls Try.prog 51 #[.int .u64 (x : Int)] w fun e w' => e = .returned (.int .i64 (Lib.bitLen x : Nat)) ∧ w = w' :=
  (Try.bits_Len64 (x : Int) w (by omega) (by omega)).mono fun e w' ⟨he, hw⟩ => ⟨by rw [he]; simp, hw.symm⟩

def AddRel (base : Nat) (bs : List Nat) (x : Nat) (w : World) (l i : Value) (wr : World) : Prop :=
  ∃ (k n c : Nat) (A : Option Addr) (ds : List Nat), k ≤ gn x ∧ i = .int .i64 (k : Int) ∧ l = .slice A n c ∧ ds ++ grp x k = grp x (gn x) ∧ Own wr base 5 A n c (bv (bs ++ ds)) ∧ Below base w wr

theorem or128_u8 : ∀ v : Fin 256, bits .or .u8 (v.val : Int) 128 = ((v.val % 128 + 128 : Nat) : Int) := by decide +kernel
theorem or128 (x k : Nat) : bits .or .u8 ((x : Int) / 2 ^ (7 * k) % 256) 128 = ((x / 128 ^ k % 128 + 128 : Nat) : Int) := by
  have e : (x : Int) / 2 ^ (7 * k) % 256 = ((x / 128 ^ k % 256 : Nat) : Int) := by rw [pow128]; simp
  rw [e, or128_u8 ⟨x / 128 ^ k % 256, Nat.mod_lt _ (by omega)⟩]
  congr 1
  show x / 128 ^ k % 256 % 128 + 128 = _
  omega
theorem gstart (L : Nat) : ((L : Int) - 1).tdiv 7 = (((L - 1) / 7 : Nat) : Int) := by
  cases L with
  | zero => rfl
  | succ m => rw [Int.tdiv_eq_ediv_of_nonneg (by omega)]; omega

set_option maxHeartbeats 400000 in
theorem addVary_any (A : Option Addr) (n c base : Nat) (bs : List Nat) (x : Nat) (w : World) (ho : Own w base 5 A n c (bv bs)) (hx : x < 18446744073709551616) (hn : n ≤ 10000000) (hbase : base ≤ w.heap.size) :
    Calls Try.prog 42 #[.slice A n c, .int .u64 (x : Int)] w (RetB base (bv (bs ++ vary x)) w) := by
  have HO := hid ho
  have hL : Lib.bitLen x ≤ 64 := bitLen_le64 x hx
  have HG : Hid (gn x = (Lib.bitLen x - 1) / 7) := hid rfl
  have hlen := ho.len
  clear ho
  have HL := hid hlen
  clear hlen
  go_enter Try.func42, Try.ntmps42
  go_wp2_with (go_at_call 51; refine (len64_any _ _ hx).mono ?_; rintro e w' ⟨rfl, rfl⟩)
  generalize Lib.bitLen x = L at *
  go_loopw [0, 5] (AddRel base bs x w) (fun _ i _ => (intOf i).toNat)
  case atStart => exact ⟨gn x, n, c, A, [], Nat.le_refl _, by rw [HG.out, gstart], rfl, rfl, by simpa using HO.out, Below.refl _ _⟩
  case round =>
    obtain ⟨k, n', c', A', ds, hk, rfl, rfl, hd, hown, hbel⟩ := hrel
    have hg9 : gn x ≤ 9 := gn_le x hx
    have hnl := hown.len
    have hdl := congrArg List.length hd
    simp only [bv_len, List.length_append, grp_len] at hnl hdl
    have hn' : n' ≤ 10000009 := by have := HL.out; rw [bv_len] at this; omega
    have HNL := hid hnl
    clear hnl hdl
    have HD := hid hd
    have HOW := hid hown
    have HB := hid hbel
    clear hd hown hbel HO HL HG
    cases k with
    | zero =>
      go_wp2_with (at_builtin; refine wpList_app _ rfl (.tmp 23) (.tmp 27) 26 rfl base 5 (.int .u8 0) 1 Try.underlying26 info5 rfl A' n' c' _ rfl (HOW.out.alloc _) (wr.heap.size + 1) _ 1 1 [_] rfl (Row.laid wr 5 [_]) (by intro u hu; simp at hu; subst hu; rfl) (by omega) (by omega) (by have := HB.out.size; simp; omega) ?_; intro A2 c2 w2 own2 bel2)
      go_ret
      refine ⟨A2, _, c2, rfl, ?_, (HB.out.alloc (Nat.le_trans hbase HB.out.size) _).trans bel2⟩
      have e : bv (bs ++ vary x) = bv (bs ++ ds) ++ [.int .u8 ((x : Int) % 128)] := by
        have := HD.out
        simp only [grp, List.append_nil] at this
        unfold vary
        rw [this, ← List.append_assoc, bv_app]
        simp [bv]
      rw [e]; exact own2
    | succ j =>
      go_wp2_with (at_builtin; refine wpList_app _ rfl (.tmp 14) (.tmp 21) 26 rfl base 5 (.int .u8 0) 1 Try.underlying26 info5 rfl A' n' c' _ rfl (HOW.out.alloc _) (wr.heap.size + 1) _ 1 1 [_] rfl (Row.laid wr 5 [_]) (by intro u hu; simp at hu; subst hu; rfl) (by omega) (by omega) (by have := HB.out.size; simp; omega) ?_; intro A2 c2 w2 own2 bel2)
      rw [or128 x (j + 1)] at own2 bel2
      refine ⟨⟨j, n' + 1, c2, A2, ds ++ [x / 128 ^ (j + 1) % 128 + 128], by omega, rfl, rfl, ?_, ?_, (HB.out.alloc (Nat.le_trans hbase HB.out.size) _).trans bel2⟩, by simp [intOf]⟩
      · rw [← HD.out]; simp [grp]
      · rw [← List.append_assoc, bv_app]; exact own2

def varies (ns : List Nat) : List Nat := (ns.map vary).flatten
theorem varies_snoc (ns : List Nat) (x : Nat) : varies (ns ++ [x]) = varies ns ++ vary x := by simp [varies]
theorem varies_oct (ns : List Nat) : Oct (varies ns) := by
  intro y hy
  obtain ⟨l, hl, hy⟩ := List.mem_flatten.1 hy
  obtain ⟨x, _, rfl⟩ := List.mem_map.1 hl
  exact vary_oct x y hy
theorem varies_len (ns : List Nat) (h : ∀ x ∈ ns, x < 18446744073709551616) : (varies ns).length ≤ 10 * ns.length := by
  induction ns with
  | nil => simp [varies]
  | cons x ns ih =>
    have h1 := ih (fun y hy => h y (List.mem_cons_of_mem _ hy))
    have h2 := gn_le x (h x (List.mem_cons_self ..))
    simp only [varies, List.map_cons, List.flatten_cons, List.length_append, List.length_cons] at h1 ⊢
    rw [vary_len]; omega

def VaryRel (base : Nat) (bs ns : List Nat) (w : World) (l i : Value) (wr : World) : Prop :=
  ∃ (k n c : Nat) (A : Option Addr), k ≤ ns.length ∧ i = .int .i64 (k : Int) ∧ l = .slice A n c ∧ Own wr base 5 A n c (bv (bs ++ varies (ns.take k))) ∧ Below base w wr

set_option maxHeartbeats 400000 in
theorem vary_any (A A2 : Option Addr) (n c m c2 B B2 : Nat) (bs ns : List Nat) (w : World) (hb : Row w B A n (bv bs)) (hB : B ≤ w.heap.size) (hns : Row w B2 A2 m (uv ns)) (hB2 : B2 ≤ w.heap.size) (hx : ∀ x ∈ ns, x < 18446744073709551616)
    (hn : n ≤ 1000000) (hm : m ≤ 10000) : Calls Try.prog 27 #[.slice A n c, .slice A2 m c2] w (RetB w.heap.size (bv (bs ++ varies ns)) w) := by
  have HB := hid hb
  have HN := hid hns
  have HX := hid hx
  have hml := hns.1
  have hnl := hb.1
  rw [uv_len] at hml
  rw [bv_len] at hnl
  have HM := hid hml
  have HNL := hid hnl
  clear hb hns hx hml hnl
  go_enter Try.func27, Try.ntmps27
  go_wp2_with (go_at_call 41; refine (copied_any A n c B m (bv bs) _ HB.out (bv_one bs) (by omega) hB).mono ?_; rintro e w1 ⟨A1, n1, c1, rfl, own1, bel1⟩)
  go_loopw [5, 14] (VaryRel w.heap.size bs ns w) (fun _ i _ => m - (intOf i).toNat)
  case atStart => exact ⟨0, n1, c1, A1, Nat.zero_le _, rfl, rfl, by simpa [varies] using own1, bel1⟩
  case round =>
    obtain ⟨k, n', c', A', hk, rfl, rfl, hown, hbel⟩ := hrel
    have hkm : k ≤ m := by have := HM.out; omega
    have hln : n' ≤ 1100000 := by
      have h1 := hown.len
      have h2 := varies_len (ns.take k) (fun x hx => HX.out x (List.mem_of_mem_take hx))
      have h3 : (ns.take k).length ≤ k := by simp; omega
      have := HNL.out
      rw [bv_len, List.length_append] at h1
      omega
    have HO := hid hown
    have HBL := hid hbel
    clear hown hbel own1 bel1
    by_cases hlt : k < m
    · obtain ⟨b, o, u, rfl, hbb, hu, hcell⟩ := (HN.out.below (HBL.out.mono hB2)).at_ hlt
      have hkn : k < ns.length := by have := HM.out; omega
      obtain ⟨x, hxx⟩ : ∃ x, x = ns[k] := ⟨_, rfl⟩
      have hu' : u = .int .u64 (x : Int) := by
        simp only [uv, List.getElem?_map, List.getElem?_eq_getElem hkn] at hu
        rw [hxx]; simpa using hu.symm
      subst hu'
      have hx64 : x < 18446744073709551616 := by rw [hxx]; exact HX.out _ (List.getElem_mem hkn)
      have HT : Hid (ns.take (k + 1) = ns.take k ++ [x]) := hid (by rw [hxx]; exact List.take_succ_eq_append_getElem hkn)
      have HXX := hid hxx
      clear hxx hu
      go_wp2_with (go_at_call 42; refine (addVary_any A' n' c' w.heap.size _ x _ HO.out hx64 (by omega) HBL.out.size).mono ?_; rintro e w2 ⟨A3, n3, c3, rfl, own3, bel3⟩)
      go_roundw
      case rel => exact ⟨k + 1, n3, c3, A3, by omega, by go_num, rfl, by rw [HT.out, varies_snoc, ← List.append_assoc]; exact own3, HBL.out.trans bel3⟩
      case measure => simp [intOf]; omega
    · go_wp2
      go_ret
      refine ⟨A', n', c', rfl, ?_, HBL.out⟩
      have := HO.out
      rwa [List.take_of_length_le (by have := HM.out; omega)] at this
end Go.Proofs.Ytldegdhpblkhhaa
